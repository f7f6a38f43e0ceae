/- The hull of a half-space and a box, in plain numbers. -/
import Derived.Test.YtkllldhkikmbbaaTH
import Derived.IntWalk
namespace Go.Proofs.Ytkllldhkikmbbaa.Vx
open Go Go.RowKit
theorem wid {x : Int} (h : -9223372036854775808 ≤ x ∧ x ≤ 9223372036854775807) : IntKind.i64.wrap x = x := IntWalk.i64_in x (by omega)
theorem mul_bd {a x A X : Int} (h1 : -A ≤ a ∧ a ≤ A) (h2 : -X ≤ x ∧ x ≤ X) : -(A * X) ≤ a * x ∧ a * x ≤ A * X := by
  have e1 := Int.mul_nonneg (a := A - a) (b := X + x) (by omega) (by omega)
  have e2 := Int.mul_nonneg (a := A + a) (b := X - x) (by omega) (by omega)
  have e3 := Int.mul_nonneg (a := A - a) (b := X - x) (by omega) (by omega)
  have e4 := Int.mul_nonneg (a := A + a) (b := X + x) (by omega) (by omega)
  simp only [Int.sub_mul, Int.mul_sub, Int.add_mul, Int.mul_add] at e1 e2 e3 e4
  omega

/-- The half-space's error. -/
def chk (a b c d : Int) : Int := if (a < -1000 ∨ 1000 < a) ∨ (b < -1000 ∨ 1000 < b) ∨ (c < -1000 ∨ 1000 < c) ∨ (d < -4000000000 ∨ 4000000000 < d) then 6 else if a = 0 ∧ b = 0 ∧ c = 0 then 1 else 0
def inR (x : Int) : Prop := -1000000 ≤ x ∧ x ≤ 1000000
instance (x : Int) : Decidable (inR x) := by unfold inR; infer_instance

theorem chk_plane (a b c d : Int) : plane_Check_0 a b c d = chk a b c d := by
  unfold plane_Check_0 chk
  simp only [decide_eq_true_eq, beq_iff_eq, Bool.and_true, Bool.and_eq_true]
  by_cases h : (a < -1000 ∨ 1000 < a) ∨ (b < -1000 ∨ 1000 < b) ∨ (c < -1000 ∨ 1000 < c) ∨ (d < -4000000000 ∨ 4000000000 < d)
  · rw [if_pos h]
    (repeat' split) <;> first | rfl | omega
  · rw [if_neg h]
    rw [if_neg (by omega), if_neg (by omega), if_neg (by omega), if_neg (by omega), if_neg (by omega), if_neg (by omega), if_neg (by omega), if_neg (by omega)]
theorem factor_ref (x : Int) : ref07_factor_0 x = decide (-1000 ≤ x ∧ x ≤ 1000) := by
  unfold ref07_factor_0
  simp only [decide_eq_true_eq]
  (repeat' split) <;> (simp; omega)
theorem chk_ref (a b c d : Int) : ref07_Check_0 a b c d = chk a b c d := by
  unfold ref07_Check_0 chk
  simp only [factor_ref, decide_eq_true_eq, beq_iff_eq]
  by_cases h : (a < -1000 ∨ 1000 < a) ∨ (b < -1000 ∨ 1000 < b) ∨ (c < -1000 ∨ 1000 < c) ∨ (d < -4000000000 ∨ 4000000000 < d)
  · rw [if_pos h]
    (repeat' split) <;> first | rfl | omega
  · rw [if_neg h, if_pos (by omega), if_pos (by omega), if_pos (by omega), if_neg (by omega), if_neg (by omega)]
    (repeat' split) <;> first | rfl | omega
/-- A point's value, as the reference has it, in plain numbers. -/
def valM (a b c d x y z : Int) : Int := a * x + b * y + c * z - d
theorem value_ref (a b c d x y z : Int) (h : chk a b c d = 0) (hx : inR x ∧ inR y ∧ inR z) : ref07_Value_0 a b c d x y z = valM a b c d x y z := by
  unfold ref07_Value_0 valM
  unfold chk at h
  unfold inR at hx
  split at h
  · cases h
  · have h1 := mul_bd (a := a) (x := x) (A := 1000) (X := 1000000) (by omega) (by omega)
    have h2 := mul_bd (a := b) (x := y) (A := 1000) (X := 1000000) (by omega) (by omega)
    have h3 := mul_bd (a := c) (x := z) (A := 1000) (X := 1000000) (by omega) (by omega)
    rw [wid (x := a * x) (by omega), wid (x := b * y) (by omega), wid (x := c * z) (by omega), wid (x := a * x + b * y) (by omega), wid (x := a * x + b * y + c * z) (by omega), wid (by omega)]
/-- The box's error. -/
def bchk (x0 x1 x2 x3 x4 x5 : Int) : Int := if (x0 < -1000000 ∨ 1000000 < x0) ∨ (x1 < -1000000 ∨ 1000000 < x1) ∨ (x2 < -1000000 ∨ 1000000 < x2) ∨ (x3 < -1000000 ∨ 1000000 < x3) ∨ (x4 < -1000000 ∨ 1000000 < x4) ∨ (x5 < -1000000 ∨ 1000000 < x5) then 6 else if x0 ≥ x3 ∨ x1 ≥ x4 ∨ x2 ≥ x5 then 1 else 0
theorem imin_lt (a b c : Int) : imin a b < c ↔ a < c ∨ b < c := by rw [imin_eq]; omega
theorem imax_gt (a b c : Int) : imax a b > c ↔ a > c ∨ b > c := by rw [imax_eq]; omega
theorem empty_box (x0 x1 x2 x3 x4 x5 : Int) : box_empty_0 x0 x1 x2 x3 x4 x5 = decide (x0 ≥ x3 ∨ x1 ≥ x4 ∨ x2 ≥ x5) := by
  unfold box_empty_0
  simp only [decide_eq_true_eq]
  (repeat' split) <;> (simp; omega)
theorem bchk_box (x0 x1 x2 x3 x4 x5 : Int) : box_Check_0 x0 x1 x2 x3 x4 x5 = bchk x0 x1 x2 x3 x4 x5 := by
  unfold box_Check_0 bchk
  simp only [empty_box, decide_eq_true_eq, imin_lt, imax_gt]
  by_cases h : (x0 < -1000000 ∨ 1000000 < x0) ∨ (x1 < -1000000 ∨ 1000000 < x1) ∨ (x2 < -1000000 ∨ 1000000 < x2) ∨ (x3 < -1000000 ∨ 1000000 < x3) ∨ (x4 < -1000000 ∨ 1000000 < x4) ∨ (x5 < -1000000 ∨ 1000000 < x5)
  · rw [if_pos h]
    (repeat' split) <;> first | rfl | omega
  · rw [if_neg h, if_neg (by omega), if_neg (by omega), if_neg (by omega), if_neg (by omega), if_neg (by omega), if_neg (by omega)]
theorem at0 (x0 x1 x2 : Int) : ref06_At_0 x0 x1 x2 0 = x0 := by unfold ref06_At_0; simp
theorem at1 (x0 x1 x2 : Int) : ref06_At_0 x0 x1 x2 (IntKind.i64.wrap (0 + 1)) = x1 := by
  rw [wid (x := 0 + 1) (by omega)]; unfold ref06_At_0; simp
theorem at2 (x0 x1 x2 : Int) : ref06_At_0 x0 x1 x2 (IntKind.i64.wrap (IntKind.i64.wrap (0 + 1) + 1)) = x2 := by
  rw [wid (x := 0 + 1) (by omega), wid (by omega)]; unfold ref06_At_0; simp
theorem bchk_ref (x0 x1 x2 x3 x4 x5 : Int) : ref06_Check_0 x0 x1 x2 x3 x4 x5 = bchk x0 x1 x2 x3 x4 x5 := by
  unfold ref06_Check_0 bchk
  simp only [at0, at1, at2, decide_eq_true_eq]
  by_cases h : (x0 < -1000000 ∨ 1000000 < x0) ∨ (x1 < -1000000 ∨ 1000000 < x1) ∨ (x2 < -1000000 ∨ 1000000 < x2) ∨ (x3 < -1000000 ∨ 1000000 < x3) ∨ (x4 < -1000000 ∨ 1000000 < x4) ∨ (x5 < -1000000 ∨ 1000000 < x5)
  · rw [if_pos h]
    (repeat' split) <;> first | rfl | omega
  · rw [if_neg h, if_neg (by omega), if_neg (by omega), if_neg (by omega), if_neg (by omega), if_neg (by omega), if_neg (by omega), if_neg (by omega), if_neg (by omega), if_neg (by omega), if_neg (by omega), if_neg (by omega), if_neg (by omega)]
    (repeat' split) <;> first | rfl | omega

/-- Both errors. -/
def both (a b c d x0 x1 x2 x3 x4 x5 : Int) : Int := if chk a b c d ≠ 0 then chk a b c d else bchk x0 x1 x2 x3 x4 x5
theorem both_plane (a b c d x0 x1 x2 x3 x4 x5 : Int) : plane_checkBoth_0 a b c d x0 x1 x2 x3 x4 x5 = both a b c d x0 x1 x2 x3 x4 x5 := by
  unfold plane_checkBoth_0 both
  simp only [chk_plane, bchk_box, bne_iff_ne]
theorem both_ref (a b c d x0 x1 x2 x3 x4 x5 : Int) : ref07_Valid_0 a b c d x0 x1 x2 x3 x4 x5 = both a b c d x0 x1 x2 x3 x4 x5 := by
  unfold ref07_Valid_0 both
  simp only [chk_ref, bchk_ref, bne_iff_ne]

theorem min4 (p0 p1 q0 q1 r : Int) : imin (imin (imin (p0 + q0 + r) (p1 + q0 + r)) (p0 + q1 + r)) (p1 + q1 + r) = imin p0 p1 + imin q0 q1 + r := by
  simp only [imin_eq]; omega
theorem min_assoc4 (m a b c e : Int) : imin (imin (imin (imin m a) b) c) e = imin m (imin (imin (imin a b) c) e) := by
  simp only [imin_eq]; omega
theorem min8 (p0 p1 q0 q1 r0 r1 : Int) : imin (imin (imin (imin (imin (imin (imin (p0 + q0 + r0) (p1 + q0 + r0)) (p0 + q1 + r0)) (p1 + q1 + r0)) (p0 + q0 + r1)) (p1 + q0 + r1)) (p0 + q1 + r1)) (p1 + q1 + r1) = imin p0 p1 + imin q0 q1 + imin r0 r1 := by
  rw [min_assoc4, min4, min4]
  simp only [imin_eq]; omega
theorem max4 (p0 p1 q0 q1 r : Int) : imax (imax (imax (p0 + q0 + r) (p1 + q0 + r)) (p0 + q1 + r)) (p1 + q1 + r) = imax p0 p1 + imax q0 q1 + r := by
  simp only [imax_eq]; omega
theorem max_assoc4 (m a b c e : Int) : imax (imax (imax (imax m a) b) c) e = imax m (imax (imax (imax a b) c) e) := by
  simp only [imax_eq]; omega
theorem max8 (p0 p1 q0 q1 r0 r1 : Int) : imax (imax (imax (imax (imax (imax (imax (p0 + q0 + r0) (p1 + q0 + r0)) (p0 + q1 + r0)) (p1 + q1 + r0)) (p0 + q0 + r1)) (p1 + q0 + r1)) (p0 + q1 + r1)) (p1 + q1 + r1) = imax p0 p1 + imax q0 q1 + imax r0 r1 := by
  rw [max_assoc4, max4, max4]
  simp only [imax_eq]; omega

def loM (a b c d x0 y0 z0 x1 y1 z1 : Int) : Int := imin (a * x0) (a * x1) + imin (b * y0) (b * y1) + imin (c * z0) (c * z1) - d
def hiM (a b c d x0 y0 z0 x1 y1 z1 : Int) : Int := imax (a * x0) (a * x1) + imax (b * y0) (b * y1) + imax (c * z0) (c * z1) - d
theorem bchk_zero {x0 x1 x2 x3 x4 x5 : Int} (h : bchk x0 x1 x2 x3 x4 x5 = 0) : (inR x0 ∧ inR x1 ∧ inR x2) ∧ (inR x3 ∧ inR x4 ∧ inR x5) ∧ x0 < x3 ∧ x1 < x4 ∧ x2 < x5 := by
  unfold bchk at h; unfold inR
  split at h
  · cases h
  · split at h
    · cases h
    · omega
theorem chk_zero' {a b c d : Int} (h : chk a b c d = 0) : (-1000 ≤ a ∧ a ≤ 1000) ∧ (-1000 ≤ b ∧ b ≤ 1000) ∧ (-1000 ≤ c ∧ c ≤ 1000) ∧ -4000000000 ≤ d ∧ d ≤ 4000000000 ∧ ¬ (a = 0 ∧ b = 0 ∧ c = 0) := by
  unfold chk at h
  split at h
  · cases h
  · split at h
    · cases h
    · omega
theorem both_zero {a b c d x0 x1 x2 x3 x4 x5 : Int} (h : both a b c d x0 x1 x2 x3 x4 x5 = 0) : chk a b c d = 0 ∧ bchk x0 x1 x2 x3 x4 x5 = 0 := by
  unfold both at h
  split at h
  · contradiction
  · rename_i h1; exact ⟨by omega, h⟩
theorem six {a b c d x0 y0 z0 x1 y1 z1 : Int} (h : both a b c d x0 y0 z0 x1 y1 z1 = 0) :
    (-1000000000 ≤ a * x0 ∧ a * x0 ≤ 1000000000) ∧ (-1000000000 ≤ a * x1 ∧ a * x1 ≤ 1000000000) ∧ (-1000000000 ≤ b * y0 ∧ b * y0 ≤ 1000000000) ∧ (-1000000000 ≤ b * y1 ∧ b * y1 ≤ 1000000000) ∧ (-1000000000 ≤ c * z0 ∧ c * z0 ≤ 1000000000) ∧ (-1000000000 ≤ c * z1 ∧ c * z1 ≤ 1000000000) := by
  obtain ⟨h1, h2⟩ := both_zero h
  obtain ⟨ha, hb, hc, _⟩ := chk_zero' h1
  obtain ⟨⟨i0, i1, i2⟩, ⟨i3, i4, i5⟩, _⟩ := bchk_zero h2
  unfold inR at *
  exact ⟨mul_bd (A := 1000) (X := 1000000) ha i0, mul_bd (A := 1000) (X := 1000000) ha i3, mul_bd (A := 1000) (X := 1000000) hb i1, mul_bd (A := 1000) (X := 1000000) hb i4, mul_bd (A := 1000) (X := 1000000) hc i2, mul_bd (A := 1000) (X := 1000000) hc i5⟩
theorem imin_bd {a b A : Int} (h1 : -A ≤ a ∧ a ≤ A) (h2 : -A ≤ b ∧ b ≤ A) : -A ≤ imin a b ∧ imin a b ≤ A := by rw [imin_eq]; omega
theorem imax_bd {a b A : Int} (h1 : -A ≤ a ∧ a ≤ A) (h2 : -A ≤ b ∧ b ≤ A) : -A ≤ imax a b ∧ imax a b ≤ A := by rw [imax_eq]; omega
theorem ext_plane {a b c d x0 y0 z0 x1 y1 z1 : Int} (h : both a b c d x0 y0 z0 x1 y1 z1 = 0) : plane_extremes_0 a b c d x0 y0 z0 x1 y1 z1 = loM a b c d x0 y0 z0 x1 y1 z1 ∧ plane_extremes_1 a b c d x0 y0 z0 x1 y1 z1 = hiM a b c d x0 y0 z0 x1 y1 z1 := by
  obtain ⟨h1, h2, h3, h4, h5, h6⟩ := six h
  obtain ⟨_, _, _, hd, hd', _⟩ := chk_zero' (both_zero h).1
  have n1 := imin_bd h1 h2; have n2 := imin_bd h3 h4; have n3 := imin_bd h5 h6
  have m1 := imax_bd h1 h2; have m2 := imax_bd h3 h4; have m3 := imax_bd h5 h6
  unfold plane_extremes_0 plane_extremes_1 loM hiM
  rw [wid (x := a * x0) (by omega), wid (x := a * x1) (by omega), wid (x := b * y0) (by omega), wid (x := b * y1) (by omega), wid (x := c * z0) (by omega), wid (x := c * z1) (by omega), wid (x := 0 - d) (by omega)]
  generalize imin (a * x0) (a * x1) = P at *
  generalize imin (b * y0) (b * y1) = Q at *
  generalize imin (c * z0) (c * z1) = R at *
  generalize imax (a * x0) (a * x1) = P' at *
  generalize imax (b * y0) (b * y1) = Q' at *
  generalize imax (c * z0) (c * z1) = R' at *
  rw [wid (x := 0 - d + P) (by omega), wid (x := 0 - d + P + Q) (by omega), wid (x := 0 - d + P + Q + R) (by omega), wid (x := 0 - d + P') (by omega), wid (x := 0 - d + P' + Q') (by omega), wid (x := 0 - d + P' + Q' + R') (by omega)]
  omega
theorem value_in {a b c d x y z : Int} (h : chk a b c d = 0) (hx : inR x ∧ inR y ∧ inR z) : ref07_Value_0 a b c d x y z = a * x + b * y + (c * z - d) := by
  rw [value_ref a b c d x y z h hx]; unfold valM; omega
theorem ext_ref {a b c d x0 y0 z0 x1 y1 z1 : Int} (h : both a b c d x0 y0 z0 x1 y1 z1 = 0) : ref07_Extremes_0 a b c d x0 y0 z0 x1 y1 z1 = loM a b c d x0 y0 z0 x1 y1 z1 ∧ ref07_Extremes_1 a b c d x0 y0 z0 x1 y1 z1 = hiM a b c d x0 y0 z0 x1 y1 z1 := by
  obtain ⟨h1, h2⟩ := both_zero h
  obtain ⟨⟨i0, i1, i2⟩, ⟨i3, i4, i5⟩, _⟩ := bchk_zero h2
  unfold ref07_Extremes_0 ref07_Extremes_1 loM hiM
  rw [value_in h1 ⟨i0, i1, i2⟩, value_in h1 ⟨i3, i1, i2⟩, value_in h1 ⟨i0, i4, i2⟩, value_in h1 ⟨i3, i4, i2⟩, value_in h1 ⟨i0, i1, i5⟩, value_in h1 ⟨i3, i1, i5⟩, value_in h1 ⟨i0, i4, i5⟩, value_in h1 ⟨i3, i4, i5⟩, min8, max8]
  simp only [imin_eq, imax_eq]
  omega
/-- The least contribution of an axis to the greatest value of a cell. -/
def leM (c lo hi : Int) : Int := if c > 0 then c * (lo + 1) else c * (hi - 1)
def roomM (a b c d x0 y0 z0 x1 y1 z1 : Int) : Int := d - leM a x0 x1 - leM b y0 y1 - leM c z0 z1
def loH (c lo hi r : Int) : Int := if c < 0 then max lo (hi - 1 - r / (-c)) else lo
def hiH (c lo hi r : Int) : Int := if c > 0 then min hi (lo + 1 + r / c) else hi
theorem le_axis {c lo hi : Int} (h : lo < hi) : imin (c * lo) (c * hi) + imax c (-c) = leM c lo hi := by
  unfold leM
  rw [imin_eq, imax_eq]
  rcases Int.lt_trichotomy c 0 with hc | hc | hc
  · have h1 : c * hi ≤ c * lo := Int.mul_le_mul_of_nonpos_left (by omega) (by omega)
    rw [if_neg (by omega), Int.mul_sub]; omega
  · subst hc; simp
  · have h1 : c * lo ≤ c * hi := Int.mul_le_mul_of_nonneg_left (by omega) (by omega)
    rw [if_pos (by omega), Int.mul_add]; omega
theorem le_bd {c lo hi : Int} (hc : -1000 ≤ c ∧ c ≤ 1000) (h0 : inR lo) (h1 : inR hi) (h : lo < hi) : -1000000000 ≤ leM c lo hi ∧ leM c lo hi ≤ 1000000000 := by
  unfold inR at h0 h1
  unfold leM
  split
  · exact mul_bd (A := 1000) (X := 1000000) (by omega) (by omega)
  · exact mul_bd (A := 1000) (X := 1000000) (by omega) (by omega)
theorem facts {a b c d x0 y0 z0 x1 y1 z1 : Int} (h : both a b c d x0 y0 z0 x1 y1 z1 = 0) :
    ((-1000 ≤ a ∧ a ≤ 1000) ∧ (-1000 ≤ b ∧ b ≤ 1000) ∧ (-1000 ≤ c ∧ c ≤ 1000) ∧ (-4000000000 ≤ d ∧ d ≤ 4000000000)) ∧ (inR x0 ∧ inR y0 ∧ inR z0 ∧ inR x1 ∧ inR y1 ∧ inR z1) ∧ x0 < x1 ∧ y0 < y1 ∧ z0 < z1 ∧
    ((-1000000000 ≤ leM a x0 x1 ∧ leM a x0 x1 ≤ 1000000000) ∧ (-1000000000 ≤ leM b y0 y1 ∧ leM b y0 y1 ≤ 1000000000) ∧ (-1000000000 ≤ leM c z0 z1 ∧ leM c z0 z1 ≤ 1000000000)) := by
  obtain ⟨h1, h2⟩ := both_zero h
  obtain ⟨ha, hb, hc, hd, hd', _⟩ := chk_zero' h1
  obtain ⟨⟨i0, i1, i2⟩, ⟨i3, i4, i5⟩, l1, l2, l3⟩ := bchk_zero h2
  exact ⟨⟨ha, hb, hc, hd, hd'⟩, ⟨i0, i1, i2, i3, i4, i5⟩, l1, l2, l3, le_bd ha i0 i3 l1, le_bd hb i1 i4 l2, le_bd hc i2 i5 l3⟩
theorem room_code {a b c d x0 y0 z0 x1 y1 z1 : Int} (h : both a b c d x0 y0 z0 x1 y1 z1 = 0) :
    IntKind.i64.wrap (IntKind.i64.wrap (IntKind.i64.wrap (IntKind.i64.wrap (0 - plane_extremes_0 a b c d x0 y0 z0 x1 y1 z1) - imax a (IntKind.i64.wrap (0 - a))) - imax b (IntKind.i64.wrap (0 - b))) - imax c (IntKind.i64.wrap (0 - c))) = roomM a b c d x0 y0 z0 x1 y1 z1 := by
  obtain ⟨⟨ha, hb, hc, hd⟩, _, l1, l2, l3, b1, b2, b3⟩ := facts h
  rw [(ext_plane h).1]
  obtain ⟨s1, s2, s3, s4, s5, s6⟩ := six h
  have n1 := imin_bd s1 s2; have n2 := imin_bd s3 s4; have n3 := imin_bd s5 s6
  have e1 := le_axis (c := a) l1
  have e2 := le_axis (c := b) l2
  have e3 := le_axis (c := c) l3
  rw [wid (x := 0 - a) (by omega), wid (x := 0 - b) (by omega), wid (x := 0 - c) (by omega), show (0 - a) = -a by omega, show (0 - b) = -b by omega, show (0 - c) = -c by omega]
  unfold loM roomM
  rw [← e1, ← e2, ← e3]
  have m1 : 0 ≤ imax a (-a) ∧ imax a (-a) ≤ 1000 := by rw [imax_eq]; omega
  have m2 : 0 ≤ imax b (-b) ∧ imax b (-b) ≤ 1000 := by rw [imax_eq]; omega
  have m3 : 0 ≤ imax c (-c) ∧ imax c (-c) ≤ 1000 := by rw [imax_eq]; omega
  generalize imin (a * x0) (a * x1) = P at *
  generalize imin (b * y0) (b * y1) = Q at *
  generalize imin (c * z0) (c * z1) = S at *
  generalize imax a (-a) = p at *
  generalize imax b (-b) = q at *
  generalize imax c (-c) = s at *
  rw [wid (x := 0 - (P + Q + S - d)) (by omega), wid (x := 0 - (P + Q + S - d) - p) (by omega), wid (x := 0 - (P + Q + S - d) - p - q) (by omega), wid (by omega)]
  omega
theorem div_in {r c : Int} (hr : 0 ≤ r ∧ r ≤ 10000000000) (hc : 0 < c) : r.tdiv c = r / c ∧ 0 ≤ r / c ∧ r / c ≤ r := by
  refine ⟨Int.tdiv_eq_ediv_of_nonneg hr.1, Int.ediv_nonneg hr.1 (by omega), Int.ediv_le_self _ hr.1⟩
theorem room_bd {a b c d x0 y0 z0 x1 y1 z1 : Int} (h : both a b c d x0 y0 z0 x1 y1 z1 = 0) : roomM a b c d x0 y0 z0 x1 y1 z1 ≤ 10000000000 := by
  obtain ⟨⟨ha, hb, hc, hd⟩, _, l1, l2, l3, b1, b2, b3⟩ := facts h
  unfold roomM; omega
/-- One end of the hull, as the code has it. -/
theorem hi_code {c lo hi r : Int} (hr : 0 ≤ r ∧ r ≤ 10000000000) (hlo : inR lo) :
    (if c > 0 then imin hi (IntKind.i64.wrap (IntKind.i64.wrap (lo + 1) + IntKind.i64.wrap (r.tdiv c))) else hi) = hiH c lo hi r := by
  unfold hiH; unfold inR at hlo
  split
  · rename_i h
    obtain ⟨e, e1, e2⟩ := div_in hr h
    rw [e, wid (x := lo + 1) (by omega), wid (x := r / c) (by omega), wid (by omega), imin_eq]
  · rfl
theorem lo_code {c lo hi r : Int} (hr : 0 ≤ r ∧ r ≤ 10000000000) (hhi : inR hi) (hc : -1000 ≤ c ∧ c ≤ 1000) :
    (if c > 0 then lo else if c < 0 then imax lo (IntKind.i64.wrap (IntKind.i64.wrap (hi - 1) - IntKind.i64.wrap (r.tdiv (IntKind.i64.wrap (0 - c))))) else lo) = loH c lo hi r := by
  unfold loH; unfold inR at hhi
  split
  · rw [if_neg (by omega)]
  · split
    · rename_i h
      have e0 : IntKind.i64.wrap (0 - c) = -c := by rw [wid (by omega)]; omega
      obtain ⟨e, e1, e2⟩ := div_in (c := -c) hr (by omega)
      rw [e0, e, wid (x := hi - 1) (by omega), wid (x := r / -c) (by omega), wid (by omega), imax_eq]
    · rfl
set_option maxHeartbeats 2000000 in
theorem hull_code {a b c d x0 y0 z0 x1 y1 z1 : Int} (h : both a b c d x0 y0 z0 x1 y1 z1 = 0) :
    plane_Hull_ok a b c d x0 y0 z0 x1 y1 z1 = true ∧ plane_Hull_6 a b c d x0 y0 z0 x1 y1 z1 = (if roomM a b c d x0 y0 z0 x1 y1 z1 < 0 then 9 else 0) ∧
    plane_Hull_0 a b c d x0 y0 z0 x1 y1 z1 = (if roomM a b c d x0 y0 z0 x1 y1 z1 < 0 then 0 else loH a x0 x1 (roomM a b c d x0 y0 z0 x1 y1 z1)) ∧
    plane_Hull_1 a b c d x0 y0 z0 x1 y1 z1 = (if roomM a b c d x0 y0 z0 x1 y1 z1 < 0 then 0 else loH b y0 y1 (roomM a b c d x0 y0 z0 x1 y1 z1)) ∧
    plane_Hull_2 a b c d x0 y0 z0 x1 y1 z1 = (if roomM a b c d x0 y0 z0 x1 y1 z1 < 0 then 0 else loH c z0 z1 (roomM a b c d x0 y0 z0 x1 y1 z1)) ∧
    plane_Hull_3 a b c d x0 y0 z0 x1 y1 z1 = (if roomM a b c d x0 y0 z0 x1 y1 z1 < 0 then 0 else hiH a x0 x1 (roomM a b c d x0 y0 z0 x1 y1 z1)) ∧
    plane_Hull_4 a b c d x0 y0 z0 x1 y1 z1 = (if roomM a b c d x0 y0 z0 x1 y1 z1 < 0 then 0 else hiH b y0 y1 (roomM a b c d x0 y0 z0 x1 y1 z1)) ∧
    plane_Hull_5 a b c d x0 y0 z0 x1 y1 z1 = (if roomM a b c d x0 y0 z0 x1 y1 z1 < 0 then 0 else hiH c z0 z1 (roomM a b c d x0 y0 z0 x1 y1 z1)) := by
  obtain ⟨⟨ha, hb, hc, hd⟩, ⟨i0, i1, i2, i3, i4, i5⟩, _⟩ := facts h
  have hrb := room_bd h
  have z : ((0 : Int) != 0) = false := rfl
  have wa : IntKind.i64.wrap (0 - a) = 0 - a := wid (by omega)
  have wb : IntKind.i64.wrap (0 - b) = 0 - b := wid (by omega)
  have wc : IntKind.i64.wrap (0 - c) = 0 - c := wid (by omega)
  refine ⟨?_, ?_, ?_, ?_, ?_, ?_, ?_, ?_⟩
  · unfold plane_Hull_ok
    rw [both_plane, h, room_code h]
    simp only [z, Bool.false_eq_true, if_false, decide_eq_true_eq]
    split
    · rfl
    · simp only [wa, wb, wc, beq_iff_eq]
      (repeat' split) <;> first | rfl | (exfalso; omega)
  · unfold plane_Hull_6
    rw [both_plane, h, room_code h]
    simp only [z, Bool.false_eq_true, if_false, decide_eq_true_eq]
  all_goals
    first | unfold plane_Hull_0 | unfold plane_Hull_1 | unfold plane_Hull_2 | unfold plane_Hull_3 | unfold plane_Hull_4 | unfold plane_Hull_5
    rw [both_plane, h, room_code h]
    simp only [z, Bool.false_eq_true, if_false, decide_eq_true_eq]
    split
    · rfl
    · rename_i hr
      first | exact lo_code ⟨by omega, hrb⟩ i3 ha | exact lo_code ⟨by omega, hrb⟩ i4 hb | exact lo_code ⟨by omega, hrb⟩ i5 hc | exact hi_code ⟨by omega, hrb⟩ i0 | exact hi_code ⟨by omega, hrb⟩ i1 | exact hi_code ⟨by omega, hrb⟩ i2
end Go.Proofs.Ytkllldhkikmbbaa.Vx
