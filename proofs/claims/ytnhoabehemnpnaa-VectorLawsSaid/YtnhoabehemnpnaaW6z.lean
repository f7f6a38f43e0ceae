/- The walk of the statement VectorLaws. -/
import Derived.Test.YtnhoabehemnpnaaWA
import Derived.Test.YtnhoabehemnpnaaW6onr
import Derived.Test.YtnhoabehemnpnaaW6inr
import Derived.Test.YtnhoabehemnpnaaW6inb
import Derived.Test.YtnhoabehemnpnaaW6isr
import Derived.Test.YtnhoabehemnpnaaW6isb
namespace Go.Proofs.Ytnhoabehemnpnaa
open Go.RowKit
attribute [local go_sem ↓] Go.wp_at_zero Go.wp_at_succ

theorem vectorLaws_any (x y z x' y' z' x'' y'' z'' : Int) (w : World) :
    Calls Try.prog 8 #[v3 x y z, v3 x' y' z', v3 x'' y'' z''] w fun e w' => e = .returned (.bool true) ∧ Below w.heap.size w w' := by
  obtain ⟨p1, p2, p3, q1, q2, q3, j, k, u, h7, h8, hjk⟩ := laws_move x y z x' y' z' x'' y'' z''
  rcases two_cases (inV x y z) (inV x' y' z') with ⟨_, i1, i2⟩ | ho
  · obtain ⟨n, c1, c2, c3, h3, h4, h5, h6, b1, b2, b3, o1, o2⟩ := laws_in i1 i2
    rcases comb_cases x y z x' y' z' 1 with ⟨s1, s2, s3, e1, e2, e3, _, _, i3, h1⟩ | h1
    · have h2 : combV s1 s2 s3 x' y' z' (-1) = .tuple #[v3 x y z, .int .i64 0] := comb_ok i3 i2 i1 (by omega) (by omega) (by omega)
      rcases hjk with g | g | ⟨rfl, rfl, _, _, h9, h10⟩
      · exact laws_isr _ _ _ _ _ _ _ _ _ _ _ _ _ _ _ _ _ _ _ _ _ _ _ _ w h7 h8 h1 h2 h3 h4 h5 h6 (.inl g) o1 o2 (inV_true i1) (inV_true i2) ⟨b1, b2, b3⟩
      · exact laws_isr _ _ _ _ _ _ _ _ _ _ _ _ _ _ _ _ _ _ _ _ _ _ _ _ w h7 h8 h1 h2 h3 h4 h5 h6 (.inr g) o1 o2 (inV_true i1) (inV_true i2) ⟨b1, b2, b3⟩
      · exact laws_isb _ _ _ _ _ _ _ _ _ _ _ _ _ _ _ _ _ _ _ _ _ _ _ w h7 h8 h1 h2 h3 h4 h5 h6 h9 h10 o1 o2 (inV_true i1) (inV_true i2) ⟨b1, b2, b3⟩
    · rcases hjk with g | g | ⟨rfl, rfl, _, _, h9, h10⟩
      · exact laws_inr _ _ _ _ _ _ _ _ _ _ _ _ _ _ _ _ _ _ _ _ _ w h7 h8 h1 h3 h4 h5 h6 (.inl g) o1 o2 (inV_true i1) (inV_true i2) ⟨b1, b2, b3⟩
      · exact laws_inr _ _ _ _ _ _ _ _ _ _ _ _ _ _ _ _ _ _ _ _ _ w h7 h8 h1 h3 h4 h5 h6 (.inr g) o1 o2 (inV_true i1) (inV_true i2) ⟨b1, b2, b3⟩
      · exact laws_inb _ _ _ _ _ _ _ _ _ _ _ _ _ _ _ _ _ _ _ _ w h7 h8 h1 h3 h4 h5 h6 h9 h10 o1 o2 (inV_true i1) (inV_true i2) ⟨b1, b2, b3⟩
  · obtain ⟨h3, h4, h5, h6, h1⟩ := laws_out ho
    rcases hjk with g | g | ⟨_, _, i1, i2, _, _⟩
    · exact laws_onr _ _ _ _ _ _ _ _ _ _ _ _ _ _ _ _ _ w h7 h8 h1 h3 h4 h5 h6 (.inl g)
    · exact laws_onr _ _ _ _ _ _ _ _ _ _ _ _ _ _ _ _ _ w h7 h8 h1 h3 h4 h5 h6 (.inr g)
    · rw [i1, i2] at ho; cases ho
end Go.Proofs.Ytnhoabehemnpnaa
