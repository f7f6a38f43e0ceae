/- For all two lists of intervals Normalize, Union, Minus, Common and Count answer as the reference does, the errors too: the statement SpanSets, without conditions. -/
import Derived.Test.YtiebchfdbejfbaaPSpanSets
import Derived.Test.YtiebchfdbejfbaaSort
namespace Go.Proofs.Ytiebchfdbejfbaa
theorem spanSets_proved : Rows.SpanSetsSaid := spanSets.given sort_said
end Go.Proofs.Ytiebchfdbejfbaa
