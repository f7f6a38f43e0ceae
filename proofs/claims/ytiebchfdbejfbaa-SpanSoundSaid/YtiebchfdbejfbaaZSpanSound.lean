/- For all lists of intervals a sum of numbers of the intervals lies in Sum, and both ends of Sum are such sums: the statement SpanSound, without conditions. -/
import Derived.Test.YtiebchfdbejfbaaPSpanSound
import Derived.Test.YtiebchfdbejfbaaSort
namespace Go.Proofs.Ytiebchfdbejfbaa
theorem spanSound_proved : Rows.SpanSoundSaid := spanSound.given sort_said
end Go.Proofs.Ytiebchfdbejfbaa
