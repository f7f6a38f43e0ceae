/- The walk of the statement VectorAdds. -/
import Derived.Test.YtnhoabehemnpnaaWA
import Derived.Test.YtnhoabehemnpnaaW8a
import Derived.Test.YtnhoabehemnpnaaW8b
import Derived.Test.YtnhoabehemnpnaaW8c
namespace Go.Proofs.Ytnhoabehemnpnaa
open Go.RowKit
attribute [local go_sem ↓] Go.wp_at_zero Go.wp_at_succ

theorem vectorAdds_any (x y z x' y' z' : Int) (w : World) :
    Calls Try.prog 3 #[v3 x y z, v3 x' y' z'] w fun e w' => e = .returned (.bool true) ∧ Below w.heap.size w w' := by
  have no : ∀ t, (inV x y z && inV x' y' z') = false → combV x y z x' y' z' t = .tuple #[v3 0 0 0, .int .i64 6] := fun t h => by unfold combV; rw [if_neg (by simp [h])]
  cases h1 : inV x y z
  · have ho : (inV x y z && inV x' y' z') = false := by simp [h1]
    exact adds_out x y z x' y' z' _ w (no 1 ho) (no (-1) ho) rfl (by rw [h1]; rfl) h1
  · cases h2 : inV x' y' z'
    · have ho : (inV x y z && inV x' y' z') = false := by simp [h2]
      exact adds_half x y z x' y' z' _ w (no 1 ho) (no (-1) ho) rfl (by rw [h1]; rfl) h1 h2
    · obtain ⟨p1, p2, p3, e0, g1, g2⟩ := comb_sum (t := 1) (a := x + x') (b := y + y') (c := z + z') h1 h2 (by omega) (by omega) (by omega)
      obtain ⟨q1, q2, q3, e1, g3, g4⟩ := comb_sum (t := -1) (a := x - x') (b := y - y') (c := z - z') h1 h2 (by omega) (by omega) (by omega)
      exact adds_in x y z x' y' z' p1 p2 p3 q1 q2 q3 e0 e1 _ w g1 g3 rfl (by rw [h1]; rfl) h1 h2 _ _ _ _ _ _ (fun W => refAdd_any x y z x' y' z' W h1 h2) g2 (fun W => refSub_any x y z x' y' z' W h1 h2) g4
end Go.Proofs.Ytnhoabehemnpnaa
