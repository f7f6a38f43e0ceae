/- For all pairs of intervals Add, Sub, Intersect and Hull of package span answer as the reference does, or with its first error: the statement SpanPairs, without conditions. -/
import Derived.Test.YtiebchfdbejfbaaPSpanPairs
import Derived.Test.YtiebchfdbejfbaaSort
namespace Go.Proofs.Ytiebchfdbejfbaa
theorem spanPairs_proved : Rows.SpanPairsSaid := spanPairs.given sort_said
end Go.Proofs.Ytiebchfdbejfbaa
