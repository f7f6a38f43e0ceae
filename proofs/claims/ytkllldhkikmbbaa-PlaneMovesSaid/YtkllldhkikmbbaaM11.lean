/- A box that is moved by its depth: PlaneMoves. -/
import Derived.Test.YtkllldhkikmbbaaT11
import Derived.Test.YtkllldhkikmbbaaMD
import Derived.IntWalk
namespace Go.Proofs.Ytkllldhkikmbbaa.Vx
open Go Go.RowKit
theorem side_code {a b c d x0 y0 z0 x1 y1 z1 : Int} (h : plane_Side_1 a b c d x0 y0 z0 x1 y1 z1 = 0) : (plane_Side_0 a b c d x0 y0 z0 x1 y1 z1 = 1 ↔ hiM a b c d x0 y0 z0 x1 y1 z1 ≤ 0) := by
  have hb : both a b c d x0 y0 z0 x1 y1 z1 = 0 := by
    unfold plane_Side_1 at h
    rw [both_plane] at h
    by_cases q : both a b c d x0 y0 z0 x1 y1 z1 = 0
    · exact q
    · rw [if_pos (by simpa using q)] at h; exact h
  have z : ¬ (((0 : Int) != 0) = true) := by decide
  unfold plane_Side_0
  rw [both_plane, hb, if_neg z, (ext_plane hb).1, (ext_plane hb).2]
  simp only [decide_eq_true_eq]
  by_cases q : hiM a b c d x0 y0 z0 x1 y1 z1 ≤ 0
  · rw [if_pos q]; simp [q]
  · rw [if_neg q]
    split <;> simp [q]
theorem moved_code {a b c x0 y0 z0 x1 y1 z1 k n : Int} (h0 : inR x0 ∧ inR y0 ∧ inR z0 ∧ inR x1 ∧ inR y1 ∧ inR z1) (hk : 0 ≤ k ∧ k ≤ 5) (hn : 0 ≤ n ∧ n ≤ 1000001) :
    law07_moved_ok x0 y0 z0 x1 y1 z1 k n = true ∧ ∃ p q r : Int, law07_moved_0 x0 y0 z0 x1 y1 z1 k n = x0 + p ∧ law07_moved_1 x0 y0 z0 x1 y1 z1 k n = y0 + q ∧ law07_moved_2 x0 y0 z0 x1 y1 z1 k n = z0 + r ∧
      law07_moved_3 x0 y0 z0 x1 y1 z1 k n = x1 + p ∧ law07_moved_4 x0 y0 z0 x1 y1 z1 k n = y1 + q ∧ law07_moved_5 x0 y0 z0 x1 y1 z1 k n = z1 + r ∧ a * p + b * q + c * r = slM a b c k * n := by
  obtain ⟨i0, i1, i2, i3, i4, i5⟩ := h0
  unfold inR at *
  have w0 : IntKind.i64.wrap (0 - n) = -n := by rw [wid (by omega)]; omega
  have wz : ∀ x : Int, -1000000 ≤ x ∧ x ≤ 1000000 → IntKind.i64.wrap (x + 0) = x + 0 := fun x h => wid (by omega)
  have wn : ∀ x : Int, -1000000 ≤ x ∧ x ≤ 1000000 → IntKind.i64.wrap (x + n) = x + n := fun x h => wid (by omega)
  have wm : ∀ x : Int, -1000000 ≤ x ∧ x ≤ 1000000 → IntKind.i64.wrap (x + -n) = x + -n := fun x h => wid (by omega)
  unfold law07_moved_ok law07_moved_0 law07_moved_1 law07_moved_2 law07_moved_3 law07_moved_4 law07_moved_5 slM
  rw [w0, wz x0 i0, wz y0 i1, wz z0 i2, wz x1 i3, wz y1 i4, wz z1 i5, wn x0 i0, wn y0 i1, wn z0 i2, wn x1 i3, wn y1 i4, wn z1 i5, wm x0 i0, wm y0 i1, wm z0 i2, wm x1 i3, wm y1 i4, wm z1 i5]
  rcases six_dirs hk with rfl | rfl | rfl | rfl | rfl | rfl
  · exact ⟨rfl, n, 0, 0, rfl, rfl, rfl, rfl, rfl, rfl, by simp⟩
  · exact ⟨rfl, -n, 0, 0, rfl, rfl, rfl, rfl, rfl, rfl, by simp [Int.neg_mul, Int.mul_neg]⟩
  · exact ⟨rfl, 0, n, 0, rfl, rfl, rfl, rfl, rfl, rfl, by simp⟩
  · exact ⟨rfl, 0, -n, 0, rfl, rfl, rfl, rfl, rfl, rfl, by simp [Int.neg_mul, Int.mul_neg]⟩
  · exact ⟨rfl, 0, 0, n, rfl, rfl, rfl, rfl, rfl, rfl, by simp⟩
  · exact ⟨rfl, 0, 0, -n, rfl, rfl, rfl, rfl, rfl, rfl, by simp [Int.neg_mul, Int.mul_neg]⟩
theorem hi_moved (a b c d x0 y0 z0 x1 y1 z1 p q r : Int) : hiM a b c d (x0 + p) (y0 + q) (z0 + r) (x1 + p) (y1 + q) (z1 + r) = hiM a b c d x0 y0 z0 x1 y1 z1 + (a * p + b * q + c * r) := by
  unfold hiM
  simp only [imax_eq, Int.mul_add]
  omega
/-- The side of a moved box. -/
theorem moved_side {a b c d x0 y0 z0 x1 y1 z1 k n : Int} (h0 : inR x0 ∧ inR y0 ∧ inR z0 ∧ inR x1 ∧ inR y1 ∧ inR z1) (hk : 0 ≤ k ∧ k ≤ 5) (hn : 0 ≤ n ∧ n ≤ 1000001) :
    law07_moved_ok x0 y0 z0 x1 y1 z1 k n = true ∧ (plane_Side_1 a b c d (law07_moved_0 x0 y0 z0 x1 y1 z1 k n) (law07_moved_1 x0 y0 z0 x1 y1 z1 k n) (law07_moved_2 x0 y0 z0 x1 y1 z1 k n) (law07_moved_3 x0 y0 z0 x1 y1 z1 k n) (law07_moved_4 x0 y0 z0 x1 y1 z1 k n) (law07_moved_5 x0 y0 z0 x1 y1 z1 k n) = 0 →
      (plane_Side_0 a b c d (law07_moved_0 x0 y0 z0 x1 y1 z1 k n) (law07_moved_1 x0 y0 z0 x1 y1 z1 k n) (law07_moved_2 x0 y0 z0 x1 y1 z1 k n) (law07_moved_3 x0 y0 z0 x1 y1 z1 k n) (law07_moved_4 x0 y0 z0 x1 y1 z1 k n) (law07_moved_5 x0 y0 z0 x1 y1 z1 k n) = 1 ↔ hiM a b c d x0 y0 z0 x1 y1 z1 + slM a b c k * n ≤ 0)) := by
  obtain ⟨h1, p, q, r, e0, e1, e2, e3, e4, e5, e6⟩ := moved_code (a := a) (b := b) (c := c) h0 hk hn
  refine ⟨h1, fun h => ?_⟩
  rw [e0, e1, e2, e3, e4, e5] at h ⊢
  rw [side_code h, hi_moved, e6]
theorem dp_facts {s hi most : Int} (hh : hi ≤ 0) (hm : 0 ≤ most) : 0 ≤ dpM s hi most ∧ dpM s hi most ≤ most ∧ hi + s * dpM s hi most ≤ 0 ∧ (dpM s hi most = most ∨ hi + s * (dpM s hi most + 1) > 0) := by
  unfold dpM
  by_cases q : s ≤ 0
  · rw [if_pos q]
    have := Int.mul_nonneg (a := -s) (b := most) (by omega) hm
    rw [Int.neg_mul] at this
    refine ⟨hm, by omega, by omega, .inl rfl⟩
  · rw [if_neg q]
    have h1 := Int.ediv_nonneg (a := -hi) (b := s) (by omega) (by omega)
    have h2 := Int.mul_ediv_self_le (x := -hi) (k := s) (by omega)
    have h3 := Int.lt_mul_ediv_self_add (x := -hi) (k := s) (by omega)
    have h4 : s * min most (-hi / s) ≤ s * (-hi / s) := Int.mul_le_mul_of_nonneg_left (by omega) (by omega)
    refine ⟨by omega, by omega, by omega, ?_⟩
    by_cases e : min most (-hi / s) = most
    · exact .inl e
    · right
      have e2 : min most (-hi / s) = -hi / s := by omega
      rw [e2, Int.mul_add]; omega
theorem moves_true (a b c d x0 y0 z0 x1 y1 z1 k most : Int) : law07_PlaneMoves_ok a b c d x0 y0 z0 x1 y1 z1 k most = true ∧ law07_PlaneMoves_0 a b c d x0 y0 z0 x1 y1 z1 k most = true := by
  unfold law07_PlaneMoves_ok law07_PlaneMoves_0
  by_cases h : both a b c d x0 y0 z0 x1 y1 z1 = 0
  case neg =>
    obtain ⟨d2, d1, d0⟩ := depth_bad (k := k) (most := most) h
    rw [d2, d1, d0]
    have hz : (both a b c d x0 y0 z0 x1 y1 z1 != 0) = true := by simpa using h
    rw [if_pos rfl, if_pos hz, if_pos hz]
    exact ⟨rfl, rfl⟩
  by_cases hk : 0 ≤ k ∧ k ≤ 5 ∧ 0 ≤ most ∧ most ≤ 1000000
  case neg =>
    obtain ⟨d2, d1, d0⟩ := depth_range h hk
    rw [d2, d1, d0]
    exact ⟨rfl, rfl⟩
  obtain ⟨d2, d1, d0⟩ := depth_code h ⟨hk.1, hk.2.1⟩ ⟨hk.2.2.1, hk.2.2.2⟩
  by_cases q : hiM a b c d x0 y0 z0 x1 y1 z1 > 0
  · rw [if_pos q] at d1 d0
    rw [d2, d1, d0]
    exact ⟨rfl, rfl⟩
  rw [if_neg q] at d1 d0
  rw [d2, d1, d0]
  obtain ⟨_, hin, _⟩ := facts h
  obtain ⟨f0, f1, f2, f3⟩ := dp_facts (s := slM a b c k) (hi := hiM a b c d x0 y0 z0 x1 y1 z1) (most := most) (by omega) hk.2.2.1
  generalize dpM (slM a b c k) (hiM a b c d x0 y0 z0 x1 y1 z1) most = n at *
  rw [wid (x := n + 1) (by omega)]
  obtain ⟨o1, s1⟩ := moved_side (a := a) (b := b) (c := c) (d := d) (k := k) (n := n) hin ⟨hk.1, hk.2.1⟩ (by omega)
  obtain ⟨o2, s2⟩ := moved_side (a := a) (b := b) (c := c) (d := d) (k := k) (n := n + 1) hin ⟨hk.1, hk.2.1⟩ (by omega)
  rw [o1, o2]
  generalize plane_Side_1 a b c d (law07_moved_0 x0 y0 z0 x1 y1 z1 k n) (law07_moved_1 x0 y0 z0 x1 y1 z1 k n) (law07_moved_2 x0 y0 z0 x1 y1 z1 k n) (law07_moved_3 x0 y0 z0 x1 y1 z1 k n) (law07_moved_4 x0 y0 z0 x1 y1 z1 k n) (law07_moved_5 x0 y0 z0 x1 y1 z1 k n) = A at *
  generalize plane_Side_0 a b c d (law07_moved_0 x0 y0 z0 x1 y1 z1 k n) (law07_moved_1 x0 y0 z0 x1 y1 z1 k n) (law07_moved_2 x0 y0 z0 x1 y1 z1 k n) (law07_moved_3 x0 y0 z0 x1 y1 z1 k n) (law07_moved_4 x0 y0 z0 x1 y1 z1 k n) (law07_moved_5 x0 y0 z0 x1 y1 z1 k n) = B at *
  generalize plane_Side_1 a b c d (law07_moved_0 x0 y0 z0 x1 y1 z1 k (n + 1)) (law07_moved_1 x0 y0 z0 x1 y1 z1 k (n + 1)) (law07_moved_2 x0 y0 z0 x1 y1 z1 k (n + 1)) (law07_moved_3 x0 y0 z0 x1 y1 z1 k (n + 1)) (law07_moved_4 x0 y0 z0 x1 y1 z1 k (n + 1)) (law07_moved_5 x0 y0 z0 x1 y1 z1 k (n + 1)) = C at *
  generalize plane_Side_0 a b c d (law07_moved_0 x0 y0 z0 x1 y1 z1 k (n + 1)) (law07_moved_1 x0 y0 z0 x1 y1 z1 k (n + 1)) (law07_moved_2 x0 y0 z0 x1 y1 z1 k (n + 1)) (law07_moved_3 x0 y0 z0 x1 y1 z1 k (n + 1)) (law07_moved_4 x0 y0 z0 x1 y1 z1 k (n + 1)) (law07_moved_5 x0 y0 z0 x1 y1 z1 k (n + 1)) = E at *
  generalize hX : hiM a b c d x0 y0 z0 x1 y1 z1 + slM a b c k * n = X at *
  generalize hY : hiM a b c d x0 y0 z0 x1 y1 z1 + slM a b c k * (n + 1) = Y at *
  clear hX hY d0 d1 d2
  simp only [decide_eq_true_eq, if_true, bne_iff_ne, beq_iff_eq, ne_eq]
  have z : ¬ ((0 : Int) = 0) = False := by simp
  constructor
  · (repeat' split) <;> first | rfl | (exfalso; omega)
  · (repeat' split) <;> first | rfl | (exfalso; omega) | (exact absurd trivial (by assumption)) | (simp; omega)
/-- The statement's own function answers true at all inputs. -/
theorem planeMoves_any (a b c d x0 y0 z0 x1 y1 z1 k most : Int) (w : World) (_ : (Lit.int .i64 k).wf = true) (_ : (Lit.int .i64 most).wf = true) : Calls Go.Proofs.Try.prog 11 #[.agg #[.int .i64 a, .int .i64 b, .int .i64 c, .int .i64 d], .agg #[.int .i64 x0, .int .i64 y0, .int .i64 z0, .int .i64 x1, .int .i64 y1, .int .i64 z1], .int .i64 k, .int .i64 most] w fun e w' => e = .returned (.bool true) ∧ Below w.heap.size w w' := by
  have h := tree11_res a b c d x0 y0 z0 x1 y1 z1 k most
  obtain ⟨h1, h2⟩ := moves_true a b c d x0 y0 z0 x1 y1 z1 k most
  rw [h1, h2, if_pos rfl] at h
  exact fn_true mixed tab31_ok (L := 300) rfl (by rw [tree11_eq]; exact h) w
end Go.Proofs.Ytkllldhkikmbbaa.Vx
