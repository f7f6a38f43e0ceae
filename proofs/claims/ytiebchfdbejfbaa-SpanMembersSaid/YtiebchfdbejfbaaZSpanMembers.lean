/- For all two lists of intervals and every number: the number lies in Union, Minus or Common exactly if it lies in the lists as they say, and the three results are normal forms: the statement SpanMembers, without conditions. -/
import Derived.Test.YtiebchfdbejfbaaPSpanMembers
import Derived.Test.YtiebchfdbejfbaaSort
namespace Go.Proofs.Ytiebchfdbejfbaa
theorem spanMembers_proved : Rows.SpanMembersSaid := spanMembers.given sort_said
end Go.Proofs.Ytiebchfdbejfbaa
