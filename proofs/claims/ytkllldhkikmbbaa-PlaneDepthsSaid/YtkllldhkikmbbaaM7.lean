/- The depth of a box in a half-space: PlaneDepths. -/
import Derived.Test.YtkllldhkikmbbaaT7
import Derived.Test.YtkllldhkikmbbaaMD
import Derived.IntWalk
namespace Go.Proofs.Ytkllldhkikmbbaa.Vx
open Go Go.RowKit
theorem depths_true (a b c d x0 y0 z0 x1 y1 z1 k most : Int) : law07_PlaneDepths_ok a b c d x0 y0 z0 x1 y1 z1 k most = true ∧ law07_PlaneDepths_0 a b c d x0 y0 z0 x1 y1 z1 k most = true := by
  unfold law07_PlaneDepths_ok law07_PlaneDepths_0
  rw [both_ref]
  by_cases h : both a b c d x0 y0 z0 x1 y1 z1 = 0
  · by_cases hk : 0 ≤ k ∧ k ≤ 5 ∧ 0 ≤ most ∧ most ≤ 1000000
    · obtain ⟨d2, d1, d0⟩ := depth_code h ⟨hk.1, hk.2.1⟩ ⟨hk.2.2.1, hk.2.2.2⟩
      rw [d2, d1, d0, side_ref h, h]
      by_cases q : hiM a b c d x0 y0 z0 x1 y1 z1 > 0
      · simp [q]; exact hk
      · obtain ⟨r1, r0⟩ := depth_ref (most := most) h ⟨hk.1, hk.2.1⟩ q
        rw [r1, r0]
        generalize dpM (slM a b c k) (hiM a b c d x0 y0 z0 x1 y1 z1) most = D
        simp only [q, if_false, decide_false, show ¬ k < 0 by omega, show ¬ k > 5 by omega, show ¬ most < 0 by omega, show ¬ most > 1000000 by omega]
        simp
    · obtain ⟨d2, d1, d0⟩ := depth_range h hk
      rw [d2, d1, d0, h]
      have hor : k < 0 ∨ k > 5 ∨ most < 0 ∨ most > 1000000 := by omega
      have z : ¬ (((0 : Int) != 0) = true) := by decide
      simp only [decide_eq_true_eq, if_true]
      rw [if_neg z, if_neg z]
      by_cases k0 : k < 0
      · rw [if_pos k0, if_pos k0]; exact ⟨rfl, rfl⟩
      by_cases k1 : k > 5
      · rw [if_neg k0, if_neg k0, if_pos k1, if_pos k1]; exact ⟨rfl, rfl⟩
      by_cases k2 : most < 0
      · rw [if_neg k0, if_neg k0, if_neg k1, if_neg k1, if_pos k2, if_pos k2]; exact ⟨rfl, rfl⟩
      have k3 : most > 1000000 := by omega
      rw [if_neg k0, if_neg k0, if_neg k1, if_neg k1, if_neg k2, if_neg k2, if_pos k3, if_pos k3]; exact ⟨rfl, rfl⟩
  · obtain ⟨d2, d1, d0⟩ := depth_bad (k := k) (most := most) h
    rw [d2, d1, d0]
    simp [h]
/-- The statement's own function answers true at all inputs. -/
theorem planeDepths_any (a b c d x0 y0 z0 x1 y1 z1 k most : Int) (w : World) (_ : (Lit.int .i64 k).wf = true) (_ : (Lit.int .i64 most).wf = true) : Calls Go.Proofs.Try.prog 7 #[.agg #[.int .i64 a, .int .i64 b, .int .i64 c, .int .i64 d], .agg #[.int .i64 x0, .int .i64 y0, .int .i64 z0, .int .i64 x1, .int .i64 y1, .int .i64 z1], .int .i64 k, .int .i64 most] w fun e w' => e = .returned (.bool true) ∧ Below w.heap.size w w' := by
  have h := tree7_res a b c d x0 y0 z0 x1 y1 z1 k most
  obtain ⟨h1, h2⟩ := depths_true a b c d x0 y0 z0 x1 y1 z1 k most
  rw [h1, h2, if_pos rfl] at h
  exact fn_true mixed tab31_ok (L := 300) rfl (by rw [tree7_eq]; exact h) w
end Go.Proofs.Ytkllldhkikmbbaa.Vx
