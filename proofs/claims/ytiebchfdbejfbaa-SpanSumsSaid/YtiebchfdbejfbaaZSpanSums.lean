/- For all lists of intervals Sum of package span answers as the reference does, or with its first error: the statement SpanSums, without conditions. -/
import Derived.Test.YtiebchfdbejfbaaPSpanSums
import Derived.Test.YtiebchfdbejfbaaSort
namespace Go.Proofs.Ytiebchfdbejfbaa
theorem spanSums_proved : Rows.SpanSumsSaid := spanSums.given sort_said
end Go.Proofs.Ytiebchfdbejfbaa
