/- Proves that for all intervals Check, Contains, Within and Length of package span answer as the reference does: the statement SpanChecks, without conditions. -/
import Derived.Test.YtiebchfdbejfbaaPChecks
import Derived.Test.YtiebchfdbejfbaaSort
namespace Go.Proofs.Ytiebchfdbejfbaa
theorem spanChecks_proved : Rows.SpanChecksSaid := spanChecks.given sort_said
end Go.Proofs.Ytiebchfdbejfbaa
