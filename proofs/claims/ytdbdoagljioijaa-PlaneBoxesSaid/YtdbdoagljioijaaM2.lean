/- The numbers of half-spaces and boxes: PlaneBoxes. -/
import Derived.Test.YtdbdoagljioijaaT2
import Derived.IntWalk
namespace Go.Proofs.Ytdbdoagljioijaa.Vx
open Go Go.RowKit

theorem wid {x : Int} (h : -9223372036854775808 ≤ x ∧ x ≤ 9223372036854775807) : IntKind.i64.wrap x = x := IntWalk.i64_in x (by omega)
theorem mul_bd {a x A X : Int} (h1 : -A ≤ a ∧ a ≤ A) (h2 : -X ≤ x ∧ x ≤ X) : -(A * X) ≤ a * x ∧ a * x ≤ A * X := by
  have e1 := Int.mul_nonneg (a := A - a) (b := X + x) (by omega) (by omega)
  have e2 := Int.mul_nonneg (a := A + a) (b := X - x) (by omega) (by omega)
  have e3 := Int.mul_nonneg (a := A - a) (b := X - x) (by omega) (by omega)
  have e4 := Int.mul_nonneg (a := A + a) (b := X + x) (by omega) (by omega)
  simp only [Int.sub_mul, Int.mul_sub, Int.add_mul, Int.mul_add] at e1 e2 e3 e4
  omega

/-- The half-space's error. -/
def chk (a b c d : Int) : Int := if (a < -1000 ∨ 1000 < a) ∨ (b < -1000 ∨ 1000 < b) ∨ (c < -1000 ∨ 1000 < c) ∨ (d < -4000000000 ∨ 4000000000 < d) then 6 else if a = 0 ∧ b = 0 ∧ c = 0 then 1 else 0
def inR (x : Int) : Prop := -1000000 ≤ x ∧ x ≤ 1000000
instance (x : Int) : Decidable (inR x) := by unfold inR; infer_instance

theorem chk_plane (a b c d : Int) : plane_Check_0 a b c d = chk a b c d := by
  unfold plane_Check_0 chk
  simp only [decide_eq_true_eq, beq_iff_eq, Bool.and_true, Bool.and_eq_true]
  by_cases h : (a < -1000 ∨ 1000 < a) ∨ (b < -1000 ∨ 1000 < b) ∨ (c < -1000 ∨ 1000 < c) ∨ (d < -4000000000 ∨ 4000000000 < d)
  · rw [if_pos h]
    (repeat' split) <;> first | rfl | omega
  · rw [if_neg h]
    rw [if_neg (by omega), if_neg (by omega), if_neg (by omega), if_neg (by omega), if_neg (by omega), if_neg (by omega), if_neg (by omega), if_neg (by omega)]
theorem factor_ref (x : Int) : ref07_factor_0 x = decide (-1000 ≤ x ∧ x ≤ 1000) := by
  unfold ref07_factor_0
  simp only [decide_eq_true_eq]
  (repeat' split) <;> (simp; omega)
theorem chk_ref (a b c d : Int) : ref07_Check_0 a b c d = chk a b c d := by
  unfold ref07_Check_0 chk
  simp only [factor_ref, decide_eq_true_eq, beq_iff_eq]
  by_cases h : (a < -1000 ∨ 1000 < a) ∨ (b < -1000 ∨ 1000 < b) ∨ (c < -1000 ∨ 1000 < c) ∨ (d < -4000000000 ∨ 4000000000 < d)
  · rw [if_pos h]
    (repeat' split) <;> first | rfl | omega
  · rw [if_neg h, if_pos (by omega), if_pos (by omega), if_pos (by omega), if_neg (by omega), if_neg (by omega)]
    (repeat' split) <;> first | rfl | omega
/-- A point's value, as the reference has it, in plain numbers. -/
def valM (a b c d x y z : Int) : Int := a * x + b * y + c * z - d
theorem value_ref (a b c d x y z : Int) (h : chk a b c d = 0) (hx : inR x ∧ inR y ∧ inR z) : ref07_Value_0 a b c d x y z = valM a b c d x y z := by
  unfold ref07_Value_0 valM
  unfold chk at h
  unfold inR at hx
  split at h
  · cases h
  · have h1 := mul_bd (a := a) (x := x) (A := 1000) (X := 1000000) (by omega) (by omega)
    have h2 := mul_bd (a := b) (x := y) (A := 1000) (X := 1000000) (by omega) (by omega)
    have h3 := mul_bd (a := c) (x := z) (A := 1000) (X := 1000000) (by omega) (by omega)
    rw [wid (x := a * x) (by omega), wid (x := b * y) (by omega), wid (x := c * z) (by omega), wid (x := a * x + b * y) (by omega), wid (x := a * x + b * y + c * z) (by omega), wid (by omega)]
/-- The box's error. -/
def bchk (x0 x1 x2 x3 x4 x5 : Int) : Int := if (x0 < -1000000 ∨ 1000000 < x0) ∨ (x1 < -1000000 ∨ 1000000 < x1) ∨ (x2 < -1000000 ∨ 1000000 < x2) ∨ (x3 < -1000000 ∨ 1000000 < x3) ∨ (x4 < -1000000 ∨ 1000000 < x4) ∨ (x5 < -1000000 ∨ 1000000 < x5) then 6 else if x0 ≥ x3 ∨ x1 ≥ x4 ∨ x2 ≥ x5 then 1 else 0
theorem imin_lt (a b c : Int) : imin a b < c ↔ a < c ∨ b < c := by rw [imin_eq]; omega
theorem imax_gt (a b c : Int) : imax a b > c ↔ a > c ∨ b > c := by rw [imax_eq]; omega
theorem empty_box (x0 x1 x2 x3 x4 x5 : Int) : box_empty_0 x0 x1 x2 x3 x4 x5 = decide (x0 ≥ x3 ∨ x1 ≥ x4 ∨ x2 ≥ x5) := by
  unfold box_empty_0
  simp only [decide_eq_true_eq]
  (repeat' split) <;> (simp; omega)
theorem bchk_box (x0 x1 x2 x3 x4 x5 : Int) : box_Check_0 x0 x1 x2 x3 x4 x5 = bchk x0 x1 x2 x3 x4 x5 := by
  unfold box_Check_0 bchk
  simp only [empty_box, decide_eq_true_eq, imin_lt, imax_gt]
  by_cases h : (x0 < -1000000 ∨ 1000000 < x0) ∨ (x1 < -1000000 ∨ 1000000 < x1) ∨ (x2 < -1000000 ∨ 1000000 < x2) ∨ (x3 < -1000000 ∨ 1000000 < x3) ∨ (x4 < -1000000 ∨ 1000000 < x4) ∨ (x5 < -1000000 ∨ 1000000 < x5)
  · rw [if_pos h]
    (repeat' split) <;> first | rfl | omega
  · rw [if_neg h, if_neg (by omega), if_neg (by omega), if_neg (by omega), if_neg (by omega), if_neg (by omega), if_neg (by omega)]
theorem at0 (x0 x1 x2 : Int) : ref06_At_0 x0 x1 x2 0 = x0 := by unfold ref06_At_0; simp
theorem at1 (x0 x1 x2 : Int) : ref06_At_0 x0 x1 x2 (IntKind.i64.wrap (0 + 1)) = x1 := by
  rw [wid (x := 0 + 1) (by omega)]; unfold ref06_At_0; simp
theorem at2 (x0 x1 x2 : Int) : ref06_At_0 x0 x1 x2 (IntKind.i64.wrap (IntKind.i64.wrap (0 + 1) + 1)) = x2 := by
  rw [wid (x := 0 + 1) (by omega), wid (by omega)]; unfold ref06_At_0; simp
theorem bchk_ref (x0 x1 x2 x3 x4 x5 : Int) : ref06_Check_0 x0 x1 x2 x3 x4 x5 = bchk x0 x1 x2 x3 x4 x5 := by
  unfold ref06_Check_0 bchk
  simp only [at0, at1, at2, decide_eq_true_eq]
  by_cases h : (x0 < -1000000 ∨ 1000000 < x0) ∨ (x1 < -1000000 ∨ 1000000 < x1) ∨ (x2 < -1000000 ∨ 1000000 < x2) ∨ (x3 < -1000000 ∨ 1000000 < x3) ∨ (x4 < -1000000 ∨ 1000000 < x4) ∨ (x5 < -1000000 ∨ 1000000 < x5)
  · rw [if_pos h]
    (repeat' split) <;> first | rfl | omega
  · rw [if_neg h, if_neg (by omega), if_neg (by omega), if_neg (by omega), if_neg (by omega), if_neg (by omega), if_neg (by omega), if_neg (by omega), if_neg (by omega), if_neg (by omega), if_neg (by omega), if_neg (by omega), if_neg (by omega)]
    (repeat' split) <;> first | rfl | omega

/-- Both errors. -/
def both (a b c d x0 x1 x2 x3 x4 x5 : Int) : Int := if chk a b c d ≠ 0 then chk a b c d else bchk x0 x1 x2 x3 x4 x5
theorem both_plane (a b c d x0 x1 x2 x3 x4 x5 : Int) : plane_checkBoth_0 a b c d x0 x1 x2 x3 x4 x5 = both a b c d x0 x1 x2 x3 x4 x5 := by
  unfold plane_checkBoth_0 both
  simp only [chk_plane, bchk_box, bne_iff_ne]
theorem both_ref (a b c d x0 x1 x2 x3 x4 x5 : Int) : ref07_Valid_0 a b c d x0 x1 x2 x3 x4 x5 = both a b c d x0 x1 x2 x3 x4 x5 := by
  unfold ref07_Valid_0 both
  simp only [chk_ref, bchk_ref, bne_iff_ne]

theorem min4 (p0 p1 q0 q1 r : Int) : imin (imin (imin (p0 + q0 + r) (p1 + q0 + r)) (p0 + q1 + r)) (p1 + q1 + r) = imin p0 p1 + imin q0 q1 + r := by
  simp only [imin_eq]; omega
theorem min_assoc4 (m a b c e : Int) : imin (imin (imin (imin m a) b) c) e = imin m (imin (imin (imin a b) c) e) := by
  simp only [imin_eq]; omega
theorem min8 (p0 p1 q0 q1 r0 r1 : Int) : imin (imin (imin (imin (imin (imin (imin (p0 + q0 + r0) (p1 + q0 + r0)) (p0 + q1 + r0)) (p1 + q1 + r0)) (p0 + q0 + r1)) (p1 + q0 + r1)) (p0 + q1 + r1)) (p1 + q1 + r1) = imin p0 p1 + imin q0 q1 + imin r0 r1 := by
  rw [min_assoc4, min4, min4]
  simp only [imin_eq]; omega
theorem max4 (p0 p1 q0 q1 r : Int) : imax (imax (imax (p0 + q0 + r) (p1 + q0 + r)) (p0 + q1 + r)) (p1 + q1 + r) = imax p0 p1 + imax q0 q1 + r := by
  simp only [imax_eq]; omega
theorem max_assoc4 (m a b c e : Int) : imax (imax (imax (imax m a) b) c) e = imax m (imax (imax (imax a b) c) e) := by
  simp only [imax_eq]; omega
theorem max8 (p0 p1 q0 q1 r0 r1 : Int) : imax (imax (imax (imax (imax (imax (imax (p0 + q0 + r0) (p1 + q0 + r0)) (p0 + q1 + r0)) (p1 + q1 + r0)) (p0 + q0 + r1)) (p1 + q0 + r1)) (p0 + q1 + r1)) (p1 + q1 + r1) = imax p0 p1 + imax q0 q1 + imax r0 r1 := by
  rw [max_assoc4, max4, max4]
  simp only [imax_eq]; omega

def loM (a b c d x0 y0 z0 x1 y1 z1 : Int) : Int := imin (a * x0) (a * x1) + imin (b * y0) (b * y1) + imin (c * z0) (c * z1) - d
def hiM (a b c d x0 y0 z0 x1 y1 z1 : Int) : Int := imax (a * x0) (a * x1) + imax (b * y0) (b * y1) + imax (c * z0) (c * z1) - d
theorem bchk_zero {x0 x1 x2 x3 x4 x5 : Int} (h : bchk x0 x1 x2 x3 x4 x5 = 0) : (inR x0 ∧ inR x1 ∧ inR x2) ∧ (inR x3 ∧ inR x4 ∧ inR x5) ∧ x0 < x3 ∧ x1 < x4 ∧ x2 < x5 := by
  unfold bchk at h; unfold inR
  split at h
  · cases h
  · split at h
    · cases h
    · omega
theorem chk_zero' {a b c d : Int} (h : chk a b c d = 0) : (-1000 ≤ a ∧ a ≤ 1000) ∧ (-1000 ≤ b ∧ b ≤ 1000) ∧ (-1000 ≤ c ∧ c ≤ 1000) ∧ -4000000000 ≤ d ∧ d ≤ 4000000000 ∧ ¬ (a = 0 ∧ b = 0 ∧ c = 0) := by
  unfold chk at h
  split at h
  · cases h
  · split at h
    · cases h
    · omega
theorem both_zero {a b c d x0 x1 x2 x3 x4 x5 : Int} (h : both a b c d x0 x1 x2 x3 x4 x5 = 0) : chk a b c d = 0 ∧ bchk x0 x1 x2 x3 x4 x5 = 0 := by
  unfold both at h
  split at h
  · contradiction
  · rename_i h1; exact ⟨by omega, h⟩
theorem six {a b c d x0 y0 z0 x1 y1 z1 : Int} (h : both a b c d x0 y0 z0 x1 y1 z1 = 0) :
    (-1000000000 ≤ a * x0 ∧ a * x0 ≤ 1000000000) ∧ (-1000000000 ≤ a * x1 ∧ a * x1 ≤ 1000000000) ∧ (-1000000000 ≤ b * y0 ∧ b * y0 ≤ 1000000000) ∧ (-1000000000 ≤ b * y1 ∧ b * y1 ≤ 1000000000) ∧ (-1000000000 ≤ c * z0 ∧ c * z0 ≤ 1000000000) ∧ (-1000000000 ≤ c * z1 ∧ c * z1 ≤ 1000000000) := by
  obtain ⟨h1, h2⟩ := both_zero h
  obtain ⟨ha, hb, hc, _⟩ := chk_zero' h1
  obtain ⟨⟨i0, i1, i2⟩, ⟨i3, i4, i5⟩, _⟩ := bchk_zero h2
  unfold inR at *
  exact ⟨mul_bd (A := 1000) (X := 1000000) ha i0, mul_bd (A := 1000) (X := 1000000) ha i3, mul_bd (A := 1000) (X := 1000000) hb i1, mul_bd (A := 1000) (X := 1000000) hb i4, mul_bd (A := 1000) (X := 1000000) hc i2, mul_bd (A := 1000) (X := 1000000) hc i5⟩
theorem imin_bd {a b A : Int} (h1 : -A ≤ a ∧ a ≤ A) (h2 : -A ≤ b ∧ b ≤ A) : -A ≤ imin a b ∧ imin a b ≤ A := by rw [imin_eq]; omega
theorem imax_bd {a b A : Int} (h1 : -A ≤ a ∧ a ≤ A) (h2 : -A ≤ b ∧ b ≤ A) : -A ≤ imax a b ∧ imax a b ≤ A := by rw [imax_eq]; omega
theorem ext_plane {a b c d x0 y0 z0 x1 y1 z1 : Int} (h : both a b c d x0 y0 z0 x1 y1 z1 = 0) : plane_extremes_0 a b c d x0 y0 z0 x1 y1 z1 = loM a b c d x0 y0 z0 x1 y1 z1 ∧ plane_extremes_1 a b c d x0 y0 z0 x1 y1 z1 = hiM a b c d x0 y0 z0 x1 y1 z1 := by
  obtain ⟨h1, h2, h3, h4, h5, h6⟩ := six h
  obtain ⟨_, _, _, hd, hd', _⟩ := chk_zero' (both_zero h).1
  have n1 := imin_bd h1 h2; have n2 := imin_bd h3 h4; have n3 := imin_bd h5 h6
  have m1 := imax_bd h1 h2; have m2 := imax_bd h3 h4; have m3 := imax_bd h5 h6
  unfold plane_extremes_0 plane_extremes_1 loM hiM
  rw [wid (x := a * x0) (by omega), wid (x := a * x1) (by omega), wid (x := b * y0) (by omega), wid (x := b * y1) (by omega), wid (x := c * z0) (by omega), wid (x := c * z1) (by omega), wid (x := 0 - d) (by omega)]
  generalize imin (a * x0) (a * x1) = P at *
  generalize imin (b * y0) (b * y1) = Q at *
  generalize imin (c * z0) (c * z1) = R at *
  generalize imax (a * x0) (a * x1) = P' at *
  generalize imax (b * y0) (b * y1) = Q' at *
  generalize imax (c * z0) (c * z1) = R' at *
  rw [wid (x := 0 - d + P) (by omega), wid (x := 0 - d + P + Q) (by omega), wid (x := 0 - d + P + Q + R) (by omega), wid (x := 0 - d + P') (by omega), wid (x := 0 - d + P' + Q') (by omega), wid (x := 0 - d + P' + Q' + R') (by omega)]
  omega
theorem value_in {a b c d x y z : Int} (h : chk a b c d = 0) (hx : inR x ∧ inR y ∧ inR z) : ref07_Value_0 a b c d x y z = a * x + b * y + (c * z - d) := by
  rw [value_ref a b c d x y z h hx]; unfold valM; omega
theorem ext_ref {a b c d x0 y0 z0 x1 y1 z1 : Int} (h : both a b c d x0 y0 z0 x1 y1 z1 = 0) : ref07_Extremes_0 a b c d x0 y0 z0 x1 y1 z1 = loM a b c d x0 y0 z0 x1 y1 z1 ∧ ref07_Extremes_1 a b c d x0 y0 z0 x1 y1 z1 = hiM a b c d x0 y0 z0 x1 y1 z1 := by
  obtain ⟨h1, h2⟩ := both_zero h
  obtain ⟨⟨i0, i1, i2⟩, ⟨i3, i4, i5⟩, _⟩ := bchk_zero h2
  unfold ref07_Extremes_0 ref07_Extremes_1 loM hiM
  rw [value_in h1 ⟨i0, i1, i2⟩, value_in h1 ⟨i3, i1, i2⟩, value_in h1 ⟨i0, i4, i2⟩, value_in h1 ⟨i3, i4, i2⟩, value_in h1 ⟨i0, i1, i5⟩, value_in h1 ⟨i3, i1, i5⟩, value_in h1 ⟨i0, i4, i5⟩, value_in h1 ⟨i3, i4, i5⟩, min8, max8]
  simp only [imin_eq, imax_eq]
  omega
theorem planeBoxes_true (a b c d x0 y0 z0 x1 y1 z1 : Int) : law07_PlaneBoxes_0 a b c d x0 y0 z0 x1 y1 z1 = true := by
  unfold law07_PlaneBoxes_0 plane_Extremes_0 plane_Extremes_1 plane_Extremes_2 plane_Side_0 plane_Side_1
  simp only [both_plane, both_ref]
  by_cases h : both a b c d x0 y0 z0 x1 y1 z1 = 0
  · obtain ⟨e0, e1⟩ := ext_plane h
    obtain ⟨f0, f1⟩ := ext_ref h
    unfold ref07_Side_0
    simp [h, e0, e1, f0, f1]
  · simp [h]

/-- The statement's own function answers true at all inputs. -/
theorem planeBoxes_any (a b c d x0 y0 z0 x1 y1 z1 : Int) (w : World) : Calls Go.Proofs.Try.prog 4 #[.agg #[.int .i64 a, .int .i64 b, .int .i64 c, .int .i64 d], .agg #[.int .i64 x0, .int .i64 y0, .int .i64 z0, .int .i64 x1, .int .i64 y1, .int .i64 z1]] w fun e w' => e = .returned (.bool true) ∧ Below w.heap.size w w' := by
  have h := tree4_res a b c d x0 y0 z0 x1 y1 z1
  rw [planeBoxes_true] at h
  exact fn_true mixed tab21_ok (L := 300) rfl (by rw [tree4_eq]; exact h) w
end Go.Proofs.Ytdbdoagljioijaa.Vx
