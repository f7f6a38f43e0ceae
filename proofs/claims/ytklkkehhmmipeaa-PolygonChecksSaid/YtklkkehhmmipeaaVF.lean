/- Dot, Distance and Cross of package vector. -/
import Derived.Test.YtklkkehhmmipeaaVD
namespace Go.Proofs.Ytklkkehhmmipeaa
open Go.RowKit


theorem mul_in {a b : Int} (h1 : -1000000 ≤ a) (h2 : a ≤ 1000000) (h3 : -1000000 ≤ b) (h4 : b ≤ 1000000) : -1000000000000 ≤ a * b ∧ a * b ≤ 1000000000000 := by
  have := mul_bd h1 h2 h3 h4; omega
theorem mul_in2 {a b : Int} (h1 : -2000000 ≤ a) (h2 : a ≤ 2000000) (h3 : -2000000 ≤ b) (h4 : b ≤ 2000000) : -4000000000000 ≤ a * b ∧ a * b ≤ 4000000000000 := by
  have := mul_bd h1 h2 h3 h4; omega

/-- What Dot returns. -/
def dotV (x y z x' y' z' : Int) : Value := if (inV x y z && inV x' y' z') = true then .tuple #[.int .i64 (x * x' + y * y' + z * z'), .int .i64 0] else .tuple #[.int .i64 0, .int .i64 6]
/-- What Distance returns. -/
def distV (x y z x' y' z' : Int) : Value := if (inV x y z && inV x' y' z') = true then .tuple #[.int .i64 ((x - x') * (x - x') + (y - y') * (y - y') + (z - z') * (z - z')), .int .i64 0] else .tuple #[.int .i64 0, .int .i64 6]
/-- What Cross returns. -/
def crossV (x y z x' y' z' : Int) : Value := if (inV x y z && inV x' y' z') = true then .tuple #[v3 (y * z' - z * y') (z * x' - x * z') (x * y' - y * x'), .int .i64 0] else .tuple #[v3 0 0 0, .int .i64 6]

end Go.Proofs.Ytklkkehhmmipeaa
