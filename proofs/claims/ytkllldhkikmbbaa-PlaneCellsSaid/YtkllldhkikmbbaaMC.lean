/- Cells and the hull of a half-space and a box, in plain numbers. -/
import Derived.Test.YtkllldhkikmbbaaMH
import Derived.IntWalk
namespace Go.Proofs.Ytkllldhkikmbbaa.Vx
open Go Go.RowKit
theorem hull_bad {a b c d x0 y0 z0 x1 y1 z1 : Int} (h : both a b c d x0 y0 z0 x1 y1 z1 ≠ 0) : plane_Hull_ok a b c d x0 y0 z0 x1 y1 z1 = true ∧ plane_Hull_6 a b c d x0 y0 z0 x1 y1 z1 = both a b c d x0 y0 z0 x1 y1 z1 ∧ plane_Hull_0 a b c d x0 y0 z0 x1 y1 z1 = 0 ∧ plane_Hull_1 a b c d x0 y0 z0 x1 y1 z1 = 0 ∧ plane_Hull_2 a b c d x0 y0 z0 x1 y1 z1 = 0 ∧ plane_Hull_3 a b c d x0 y0 z0 x1 y1 z1 = 0 ∧ plane_Hull_4 a b c d x0 y0 z0 x1 y1 z1 = 0 ∧ plane_Hull_5 a b c d x0 y0 z0 x1 y1 z1 = 0 := by
  have hz : (both a b c d x0 y0 z0 x1 y1 z1 != 0) = true := by simpa using h
  refine ⟨?_, ?_, ?_, ?_, ?_, ?_, ?_, ?_⟩
  all_goals
    first | unfold plane_Hull_ok | unfold plane_Hull_6 | unfold plane_Hull_0 | unfold plane_Hull_1 | unfold plane_Hull_2 | unfold plane_Hull_3 | unfold plane_Hull_4 | unfold plane_Hull_5
    rw [both_plane, if_pos hz]
theorem side_code {a b c d x0 y0 z0 x1 y1 z1 : Int} (h : plane_Side_1 a b c d x0 y0 z0 x1 y1 z1 = 0) : (plane_Side_0 a b c d x0 y0 z0 x1 y1 z1 = 1 ↔ hiM a b c d x0 y0 z0 x1 y1 z1 ≤ 0) := by
  have hb : both a b c d x0 y0 z0 x1 y1 z1 = 0 := by
    unfold plane_Side_1 at h
    rw [both_plane] at h
    by_cases q : both a b c d x0 y0 z0 x1 y1 z1 = 0
    · exact q
    · rw [if_pos (by simpa using q)] at h; exact h
  have z : ¬ (((0 : Int) != 0) = true) := by decide
  unfold plane_Side_0
  rw [both_plane, hb, if_neg z, (ext_plane hb).1, (ext_plane hb).2]
  simp only [decide_eq_true_eq]
  by_cases q : hiM a b c d x0 y0 z0 x1 y1 z1 ≤ 0
  · rw [if_pos q]; simp [q]
  · rw [if_neg q]
    split <;> simp [q]
theorem side_ok {a b c d x0 y0 z0 x1 y1 z1 : Int} (h : both a b c d x0 y0 z0 x1 y1 z1 = 0) : plane_Side_1 a b c d x0 y0 z0 x1 y1 z1 = 0 := by
  have z : ¬ (((0 : Int) != 0) = true) := by decide
  unfold plane_Side_1
  rw [both_plane, h, if_neg z]
theorem side_bad {a b c d x0 y0 z0 x1 y1 z1 : Int} (h : both a b c d x0 y0 z0 x1 y1 z1 ≠ 0) : plane_Side_1 a b c d x0 y0 z0 x1 y1 z1 = both a b c d x0 y0 z0 x1 y1 z1 := by
  have hz : (both a b c d x0 y0 z0 x1 y1 z1 != 0) = true := by simpa using h
  unfold plane_Side_1
  rw [both_plane, if_pos hz]
theorem axis_all {c lo hi : Int} (h : lo < hi) : leM c lo hi ≤ imax (c * lo) (c * hi) ∧ ∀ r, 0 ≤ r → imax (c * lo) (c * hi) - leM c lo hi ≤ r → loH c lo hi r = lo ∧ hiH c lo hi r = hi := by
  unfold leM loH hiH
  rw [imax_eq]
  rcases Int.lt_trichotomy c 0 with q | q | q
  · have h1 : c * hi ≤ c * lo := Int.mul_le_mul_of_nonpos_left (by omega) (by omega)
    have e : -c * (hi - 1 - lo) = c * lo - c * (hi - 1) := by rw [Int.mul_sub, Int.neg_mul, Int.neg_mul]; omega
    have e2 := Int.mul_nonneg (a := -c) (b := hi - 1 - lo) (by omega) (by omega)
    rw [if_neg (by omega)]
    refine ⟨by omega, fun r hr h2 => ?_⟩
    have h3 : hi - 1 - lo ≤ r / -c := (Int.le_ediv_iff_mul_le (by omega)).2 (by rw [Int.mul_comm]; omega)
    rw [if_pos q, if_neg (by omega)]
    omega
  · subst q; simp
  · have h1 : c * lo ≤ c * hi := Int.mul_le_mul_of_nonneg_left (by omega) (by omega)
    have e : c * (hi - lo - 1) = c * hi - c * (lo + 1) := by rw [Int.mul_sub, Int.mul_sub, Int.mul_add]; omega
    have e2 := Int.mul_nonneg (a := c) (b := hi - lo - 1) (by omega) (by omega)
    rw [if_pos (by omega)]
    refine ⟨by omega, fun r hr h2 => ?_⟩
    have h3 : hi - lo - 1 ≤ r / c := (Int.le_ediv_iff_mul_le q).2 (by rw [Int.mul_comm]; omega)
    rw [if_neg (by omega), if_pos (by omega)]
    omega
theorem axis_cell {c lo hi x : Int} (h0 : lo ≤ x) (h1 : x < hi) : leM c lo hi ≤ imax (c * x) (c * (x + 1)) ∧ ∀ r, 0 ≤ r → imax (c * x) (c * (x + 1)) - leM c lo hi ≤ r → loH c lo hi r ≤ x ∧ x < hiH c lo hi r := by
  unfold leM loH hiH
  rw [imax_eq]
  rcases Int.lt_trichotomy c 0 with q | q | q
  · have e : -c * (hi - 1 - x) = c * x - c * (hi - 1) := by rw [Int.mul_sub, Int.neg_mul, Int.neg_mul]; omega
    have e2 := Int.mul_nonneg (a := -c) (b := hi - 1 - x) (by omega) (by omega)
    have e3 : c * (x + 1) = c * x + c := by rw [Int.mul_add]; omega
    rw [if_neg (by omega)]
    refine ⟨by omega, fun r hr h2 => ?_⟩
    have h3 : hi - 1 - x ≤ r / -c := (Int.le_ediv_iff_mul_le (by omega)).2 (by rw [Int.mul_comm]; omega)
    rw [if_pos q, if_neg (by omega)]
    omega
  · subst q; simp; omega
  · have e : c * (x - lo) = c * (x + 1) - c * (lo + 1) := by rw [Int.mul_sub, Int.mul_add, Int.mul_add]; omega
    have e2 := Int.mul_nonneg (a := c) (b := x - lo) (by omega) (by omega)
    have e3 : c * (x + 1) = c * x + c := by rw [Int.mul_add]; omega
    rw [if_pos (by omega)]
    refine ⟨by omega, fun r hr h2 => ?_⟩
    have h3 : x - lo ≤ r / c := (Int.le_ediv_iff_mul_le q).2 (by rw [Int.mul_comm]; omega)
    rw [if_neg (by omega), if_pos (by omega)]
    omega
theorem loH_ge (c lo hi r : Int) : lo ≤ loH c lo hi r := by unfold loH; split <;> omega
theorem hiH_le (c lo hi r : Int) : hiH c lo hi r ≤ hi := by unfold hiH; split <;> omega
/-- A box in a half-space is its own hull. -/
theorem hull_own {a b c d x0 y0 z0 x1 y1 z1 : Int} (h : both a b c d x0 y0 z0 x1 y1 z1 = 0) (hh : hiM a b c d x0 y0 z0 x1 y1 z1 ≤ 0) :
    0 ≤ roomM a b c d x0 y0 z0 x1 y1 z1 ∧ loH a x0 x1 (roomM a b c d x0 y0 z0 x1 y1 z1) = x0 ∧ loH b y0 y1 (roomM a b c d x0 y0 z0 x1 y1 z1) = y0 ∧ loH c z0 z1 (roomM a b c d x0 y0 z0 x1 y1 z1) = z0 ∧
      hiH a x0 x1 (roomM a b c d x0 y0 z0 x1 y1 z1) = x1 ∧ hiH b y0 y1 (roomM a b c d x0 y0 z0 x1 y1 z1) = y1 ∧ hiH c z0 z1 (roomM a b c d x0 y0 z0 x1 y1 z1) = z1 := by
  obtain ⟨_, _, l1, l2, l3, _⟩ := facts h
  obtain ⟨a1, a2⟩ := axis_all (c := a) l1
  obtain ⟨b1, b2⟩ := axis_all (c := b) l2
  obtain ⟨c1, c2⟩ := axis_all (c := c) l3
  have hR : roomM a b c d x0 y0 z0 x1 y1 z1 = d - leM a x0 x1 - leM b y0 y1 - leM c z0 z1 := rfl
  unfold hiM at hh
  generalize roomM a b c d x0 y0 z0 x1 y1 z1 = R at *
  have h0 : 0 ≤ R := by omega
  obtain ⟨p1, p2⟩ := a2 R h0 (by omega)
  obtain ⟨q1, q2⟩ := b2 R h0 (by omega)
  obtain ⟨r1, r2⟩ := c2 R h0 (by omega)
  exact ⟨h0, p1, q1, r1, p2, q2, r2⟩
/-- A cell in a half-space is in the hull. -/
theorem hull_cell {a b c d x0 y0 z0 x1 y1 z1 x y z : Int} (hx : x0 ≤ x ∧ x < x1) (hy : y0 ≤ y ∧ y < y1) (hz : z0 ≤ z ∧ z < z1) (hh : hiM a b c d x y z (x + 1) (y + 1) (z + 1) ≤ 0) :
    0 ≤ roomM a b c d x0 y0 z0 x1 y1 z1 ∧ (loH a x0 x1 (roomM a b c d x0 y0 z0 x1 y1 z1) ≤ x ∧ x < hiH a x0 x1 (roomM a b c d x0 y0 z0 x1 y1 z1)) ∧ (loH b y0 y1 (roomM a b c d x0 y0 z0 x1 y1 z1) ≤ y ∧ y < hiH b y0 y1 (roomM a b c d x0 y0 z0 x1 y1 z1)) ∧
      (loH c z0 z1 (roomM a b c d x0 y0 z0 x1 y1 z1) ≤ z ∧ z < hiH c z0 z1 (roomM a b c d x0 y0 z0 x1 y1 z1)) := by
  obtain ⟨a1, a2⟩ := axis_cell (c := a) hx.1 hx.2
  obtain ⟨b1, b2⟩ := axis_cell (c := b) hy.1 hy.2
  obtain ⟨c1, c2⟩ := axis_cell (c := c) hz.1 hz.2
  have hR : roomM a b c d x0 y0 z0 x1 y1 z1 = d - leM a x0 x1 - leM b y0 y1 - leM c z0 z1 := rfl
  unfold hiM at hh
  generalize roomM a b c d x0 y0 z0 x1 y1 z1 = R at *
  have h0 : 0 ≤ R := by omega
  exact ⟨h0, a2 R h0 (by omega), b2 R h0 (by omega), c2 R h0 (by omega)⟩
theorem cell_side {a b c d x0 y0 z0 x1 y1 z1 x y z : Int} (h : both a b c d x0 y0 z0 x1 y1 z1 = 0) (hx : x0 ≤ x ∧ x < x1) (hy : y0 ≤ y ∧ y < y1) (hz : z0 ≤ z ∧ z < z1) :
    plane_Side_1 a b c d x y z (IntKind.i64.wrap (x + 1)) (IntKind.i64.wrap (y + 1)) (IntKind.i64.wrap (z + 1)) = 0 ∧ (plane_Side_0 a b c d x y z (IntKind.i64.wrap (x + 1)) (IntKind.i64.wrap (y + 1)) (IntKind.i64.wrap (z + 1)) = 1 → hiM a b c d x y z (x + 1) (y + 1) (z + 1) ≤ 0) := by
  obtain ⟨_, ⟨i0, i1, i2, i3, i4, i5⟩, _⟩ := facts h
  unfold inR at *
  rw [wid (x := x + 1) (by omega), wid (x := y + 1) (by omega), wid (x := z + 1) (by omega)]
  have hc : both a b c d x y z (x + 1) (y + 1) (z + 1) = 0 := by
    unfold both
    rw [(both_zero h).1, if_neg (by simp)]
    unfold bchk
    rw [if_neg (by omega), if_neg (by omega)]
  have h1 := side_ok hc
  exact ⟨h1, fun h2 => (side_code h1).1 h2⟩
end Go.Proofs.Ytkllldhkikmbbaa.Vx
