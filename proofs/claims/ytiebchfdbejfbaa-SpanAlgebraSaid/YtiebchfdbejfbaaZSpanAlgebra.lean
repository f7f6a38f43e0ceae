/- For all two lists of intervals that have no error: Union of Minus and Common is the normal form of the first list, normalizing again or in another order gives the same list, and the counts add up: the statement SpanAlgebra, without conditions. -/
import Derived.Test.YtiebchfdbejfbaaPSpanAlgebra
import Derived.Test.YtiebchfdbejfbaaSort
namespace Go.Proofs.Ytiebchfdbejfbaa
theorem spanAlgebra_proved : Rows.SpanAlgebraSaid := spanAlgebra.given sort_said
end Go.Proofs.Ytiebchfdbejfbaa
