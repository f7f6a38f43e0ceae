/- Cells and the hull: PlaneCells. -/
import Derived.Test.YtkllldhkikmbbaaT10
import Derived.Test.YtkllldhkikmbbaaMC
import Derived.IntWalk
namespace Go.Proofs.Ytkllldhkikmbbaa.Vx
open Go Go.RowKit
set_option maxHeartbeats 4000000 in
theorem cells_true (a b c d x0 y0 z0 x1 y1 z1 x y z : Int) : law07_PlaneCells_ok a b c d x0 y0 z0 x1 y1 z1 x y z = true ∧ law07_PlaneCells_0 a b c d x0 y0 z0 x1 y1 z1 x y z = true := by
  unfold law07_PlaneCells_ok law07_PlaneCells_0
  by_cases h : both a b c d x0 y0 z0 x1 y1 z1 = 0
  case neg =>
    obtain ⟨k, h6, _⟩ := hull_bad h
    rw [k, h6, side_bad h]
    have hz : (both a b c d x0 y0 z0 x1 y1 z1 != 0) = true := by simpa using h
    rw [if_pos hz]
    exact ⟨rfl, by simp⟩
  obtain ⟨k, h6, h0, h1, h2, h3, h4, h5⟩ := hull_code h
  have f1 : plane_Side_0 a b c d x0 y0 z0 x1 y1 z1 = 1 → 0 ≤ roomM a b c d x0 y0 z0 x1 y1 z1 ∧ loH a x0 x1 (roomM a b c d x0 y0 z0 x1 y1 z1) = x0 ∧ loH b y0 y1 (roomM a b c d x0 y0 z0 x1 y1 z1) = y0 ∧ loH c z0 z1 (roomM a b c d x0 y0 z0 x1 y1 z1) = z0 ∧
      hiH a x0 x1 (roomM a b c d x0 y0 z0 x1 y1 z1) = x1 ∧ hiH b y0 y1 (roomM a b c d x0 y0 z0 x1 y1 z1) = y1 ∧ hiH c z0 z1 (roomM a b c d x0 y0 z0 x1 y1 z1) = z1 := fun hs => hull_own h ((side_code (side_ok h)).1 hs)
  have f2 : (x0 ≤ x ∧ x < x1) ∧ (y0 ≤ y ∧ y < y1) ∧ (z0 ≤ z ∧ z < z1) → plane_Side_1 a b c d x y z (IntKind.i64.wrap (x + 1)) (IntKind.i64.wrap (y + 1)) (IntKind.i64.wrap (z + 1)) = 0 ∧ (plane_Side_0 a b c d x y z (IntKind.i64.wrap (x + 1)) (IntKind.i64.wrap (y + 1)) (IntKind.i64.wrap (z + 1)) = 1 →
      0 ≤ roomM a b c d x0 y0 z0 x1 y1 z1 ∧ (loH a x0 x1 (roomM a b c d x0 y0 z0 x1 y1 z1) ≤ x ∧ x < hiH a x0 x1 (roomM a b c d x0 y0 z0 x1 y1 z1)) ∧ (loH b y0 y1 (roomM a b c d x0 y0 z0 x1 y1 z1) ≤ y ∧ y < hiH b y0 y1 (roomM a b c d x0 y0 z0 x1 y1 z1)) ∧
      (loH c z0 z1 (roomM a b c d x0 y0 z0 x1 y1 z1) ≤ z ∧ z < hiH c z0 z1 (roomM a b c d x0 y0 z0 x1 y1 z1))) := fun ⟨hx, hy, hz⟩ => by
    obtain ⟨g1, g2⟩ := cell_side h hx hy hz
    exact ⟨g1, fun hs => hull_cell hx hy hz (g2 hs)⟩
  have l1 := loH_ge a x0 x1 (roomM a b c d x0 y0 z0 x1 y1 z1)
  have l2 := loH_ge b y0 y1 (roomM a b c d x0 y0 z0 x1 y1 z1)
  have l3 := loH_ge c z0 z1 (roomM a b c d x0 y0 z0 x1 y1 z1)
  have u1 := hiH_le a x0 x1 (roomM a b c d x0 y0 z0 x1 y1 z1)
  have u2 := hiH_le b y0 y1 (roomM a b c d x0 y0 z0 x1 y1 z1)
  have u3 := hiH_le c z0 z1 (roomM a b c d x0 y0 z0 x1 y1 z1)
  rw [k, h6, h0, h1, h2, h3, h4, h5, side_ok h]
  clear k h6 h0 h1 h2 h3 h4 h5 h
  generalize plane_Side_0 a b c d x0 y0 z0 x1 y1 z1 = S at *
  generalize plane_Side_1 a b c d x y z (IntKind.i64.wrap (x + 1)) (IntKind.i64.wrap (y + 1)) (IntKind.i64.wrap (z + 1)) = C at *
  generalize plane_Side_0 a b c d x y z (IntKind.i64.wrap (x + 1)) (IntKind.i64.wrap (y + 1)) (IntKind.i64.wrap (z + 1)) = E at *
  generalize roomM a b c d x0 y0 z0 x1 y1 z1 = R at *
  generalize loH a x0 x1 R = p0 at *
  generalize loH b y0 y1 R = p1 at *
  generalize loH c z0 z1 R = p2 at *
  generalize hiH a x0 x1 R = q0 at *
  generalize hiH b y0 y1 R = q1 at *
  generalize hiH c z0 z1 R = q2 at *
  refine ⟨rfl, ?_⟩
  have z0' : ¬ (((0 : Int) != 0) = true) := by decide
  rw [if_neg z0']
  have n9 : ((9 : Int) == 0) = false := by decide
  have y0' : ((0 : Int) == 0) = true := by decide
  have m9 : ((9 : Int) != 0) = true := by decide
  have m0 : ((0 : Int) != 0) = false := by decide
  by_cases hr : R < 0
  · have hS : (S == 1) = false := by simp; omega
    simp only [hr, if_true, hS, n9, m9, cond_false, cond_true, Bool.false_eq_true, if_false, Bool.cond_true_left, Bool.or_eq_true, decide_eq_true_eq, bne_iff_ne, ne_eq]
    (repeat' split) <;> first | rfl | (exfalso; omega)
  · simp only [hr, if_false, y0', m0, cond_false, cond_true, Bool.cond_true_left, Bool.cond_false_right, Bool.or_eq_true, Bool.and_eq_true, Bool.not_eq_true', decide_eq_true_eq, bne_iff_ne, ne_eq, beq_iff_eq, Bool.and_true]
    rw [if_neg ?_]
    · rw [if_neg (by omega)]
      (repeat' split) <;> first | rfl | (exfalso; omega) | omega | (simp only [Bool.and_eq_true, decide_eq_true_eq]; omega) | (simp; omega)
    · rintro ⟨hS, hn⟩
      obtain ⟨_, e0, e1, e2, e3, e4, e5⟩ := f1 hS
      subst e0 e1 e2 e3 e4 e5
      simp at hn
/-- The statement's own function answers true at all inputs. -/
theorem planeCells_any (a b c d x0 y0 z0 x1 y1 z1 x y z : Int) (w : World) : Calls Go.Proofs.Try.prog 10 #[.agg #[.int .i64 a, .int .i64 b, .int .i64 c, .int .i64 d], .agg #[.int .i64 x0, .int .i64 y0, .int .i64 z0, .int .i64 x1, .int .i64 y1, .int .i64 z1], .agg #[.int .i64 x, .int .i64 y, .int .i64 z]] w fun e w' => e = .returned (.bool true) ∧ Below w.heap.size w w' := by
  have h := tree10_res a b c d x0 y0 z0 x1 y1 z1 x y z
  obtain ⟨h1, h2⟩ := cells_true a b c d x0 y0 z0 x1 y1 z1 x y z
  rw [h1, h2, if_pos rfl] at h
  exact fn_true mixed tab31_ok (L := 300) rfl (by rw [tree10_eq]; exact h) w
end Go.Proofs.Ytkllldhkikmbbaa.Vx
