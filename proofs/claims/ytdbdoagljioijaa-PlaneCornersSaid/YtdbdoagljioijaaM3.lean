/- The numbers of half-spaces and corners: PlaneCorners. -/
import Derived.Test.YtdbdoagljioijaaT3
import Derived.IntWalk
namespace Go.Proofs.Ytdbdoagljioijaa.Vx
open Go Go.RowKit

theorem wid {x : Int} (h : -9223372036854775808 ≤ x ∧ x ≤ 9223372036854775807) : IntKind.i64.wrap x = x := IntWalk.i64_in x (by omega)
theorem mul_bd {a x A X : Int} (h1 : -A ≤ a ∧ a ≤ A) (h2 : -X ≤ x ∧ x ≤ X) : -(A * X) ≤ a * x ∧ a * x ≤ A * X := by
  have e1 := Int.mul_nonneg (a := A - a) (b := X + x) (by omega) (by omega)
  have e2 := Int.mul_nonneg (a := A + a) (b := X - x) (by omega) (by omega)
  have e3 := Int.mul_nonneg (a := A - a) (b := X - x) (by omega) (by omega)
  have e4 := Int.mul_nonneg (a := A + a) (b := X + x) (by omega) (by omega)
  simp only [Int.sub_mul, Int.mul_sub, Int.add_mul, Int.mul_add] at e1 e2 e3 e4
  omega

/-- The half-space's error. -/
def chk (a b c d : Int) : Int := if (a < -1000 ∨ 1000 < a) ∨ (b < -1000 ∨ 1000 < b) ∨ (c < -1000 ∨ 1000 < c) ∨ (d < -4000000000 ∨ 4000000000 < d) then 6 else if a = 0 ∧ b = 0 ∧ c = 0 then 1 else 0
def inR (x : Int) : Prop := -1000000 ≤ x ∧ x ≤ 1000000
instance (x : Int) : Decidable (inR x) := by unfold inR; infer_instance

theorem chk_plane (a b c d : Int) : plane_Check_0 a b c d = chk a b c d := by
  unfold plane_Check_0 chk
  simp only [decide_eq_true_eq, beq_iff_eq, Bool.and_true, Bool.and_eq_true]
  by_cases h : (a < -1000 ∨ 1000 < a) ∨ (b < -1000 ∨ 1000 < b) ∨ (c < -1000 ∨ 1000 < c) ∨ (d < -4000000000 ∨ 4000000000 < d)
  · rw [if_pos h]
    (repeat' split) <;> first | rfl | omega
  · rw [if_neg h]
    rw [if_neg (by omega), if_neg (by omega), if_neg (by omega), if_neg (by omega), if_neg (by omega), if_neg (by omega), if_neg (by omega), if_neg (by omega)]
/-- A point's value, as the reference has it, in plain numbers. -/
def valM (a b c d x y z : Int) : Int := a * x + b * y + c * z - d
theorem dot_ok (a b c x y z : Int) (h : inR a ∧ inR b ∧ inR c) : vector_Dot_1 a b c x y z = if inR x ∧ inR y ∧ inR z then 0 else 6 := by
  unfold vector_Dot_1
  unfold inR at h ⊢
  simp only [decide_eq_true_eq]
  by_cases hx : (-1000000 ≤ x ∧ x ≤ 1000000) ∧ (-1000000 ≤ y ∧ y ≤ 1000000) ∧ (-1000000 ≤ z ∧ z ≤ 1000000)
  · rw [if_pos hx]
    repeat rw [if_neg (by omega)]
  · rw [if_neg hx]
    rw [if_neg (by omega), if_neg (by omega), if_neg (by omega), if_neg (by omega), if_neg (by omega), if_neg (by omega)]
    (repeat' split) <;> first | rfl | omega
theorem dot_val (a b c x y z : Int) (h : inR a ∧ inR b ∧ inR c) (hx : inR x ∧ inR y ∧ inR z) : vector_Dot_0 a b c x y z = a * x + b * y + c * z := by
  unfold vector_Dot_0 vector_dot_0
  unfold inR at h hx
  have h1 := mul_bd (a := a) (x := x) (A := 1000000) (X := 1000000) (by omega) (by omega)
  have h2 := mul_bd (a := b) (x := y) (A := 1000000) (X := 1000000) (by omega) (by omega)
  have h3 := mul_bd (a := c) (x := z) (A := 1000000) (X := 1000000) (by omega) (by omega)
  simp only [decide_eq_true_eq]
  repeat rw [if_neg (by omega)]
  rw [wid (x := a * x) (by omega), wid (x := b * y) (by omega), wid (x := c * z) (by omega), wid (x := 0 + a * x) (by omega), wid (x := 0 + a * x + b * y) (by omega), wid (by omega)]
  omega
theorem chk_zero {a b c d : Int} (h : chk a b c d = 0) : inR a ∧ inR b ∧ inR c := by
  unfold chk at h; unfold inR
  split at h
  · cases h
  · omega
/-- plane.Value, in plain numbers. -/
theorem value_plane (a b c d x y z : Int) : plane_Value_1 a b c d x y z = (if chk a b c d ≠ 0 then chk a b c d else if inR x ∧ inR y ∧ inR z then 0 else 6) ∧
    plane_Value_0 a b c d x y z = (if chk a b c d ≠ 0 then 0 else if inR x ∧ inR y ∧ inR z then valM a b c d x y z else 0) := by
  unfold plane_Value_1 plane_Value_0
  simp only [chk_plane, bne_iff_ne]
  by_cases h : chk a b c d = 0
  · have h0 := chk_zero h
    have hb := dot_ok a b c x y z h0
    simp only [h, ne_eq, not_true_eq_false, if_false, hb]
    by_cases hx : inR x ∧ inR y ∧ inR z
    · have hv := dot_val a b c x y z h0 hx
      simp only [hx, and_self, if_true, not_true_eq_false, if_false, hv, true_and]
      unfold valM
      unfold chk at h
      unfold inR at hx
      split at h
      · cases h
      · have h1 := mul_bd (a := a) (x := x) (A := 1000) (X := 1000000) (by omega) (by omega)
        have h2 := mul_bd (a := b) (x := y) (A := 1000) (X := 1000000) (by omega) (by omega)
        have h3 := mul_bd (a := c) (x := z) (A := 1000) (X := 1000000) (by omega) (by omega)
        exact wid (by omega)
    · simp [hx]
  · simp [h]

/-- The box's error. -/
def bchk (x0 x1 x2 x3 x4 x5 : Int) : Int := if (x0 < -1000000 ∨ 1000000 < x0) ∨ (x1 < -1000000 ∨ 1000000 < x1) ∨ (x2 < -1000000 ∨ 1000000 < x2) ∨ (x3 < -1000000 ∨ 1000000 < x3) ∨ (x4 < -1000000 ∨ 1000000 < x4) ∨ (x5 < -1000000 ∨ 1000000 < x5) then 6 else if x0 ≥ x3 ∨ x1 ≥ x4 ∨ x2 ≥ x5 then 1 else 0
theorem imin_lt (a b c : Int) : imin a b < c ↔ a < c ∨ b < c := by rw [imin_eq]; omega
theorem imax_gt (a b c : Int) : imax a b > c ↔ a > c ∨ b > c := by rw [imax_eq]; omega
theorem empty_box (x0 x1 x2 x3 x4 x5 : Int) : box_empty_0 x0 x1 x2 x3 x4 x5 = decide (x0 ≥ x3 ∨ x1 ≥ x4 ∨ x2 ≥ x5) := by
  unfold box_empty_0
  simp only [decide_eq_true_eq]
  (repeat' split) <;> (simp; omega)
theorem bchk_box (x0 x1 x2 x3 x4 x5 : Int) : box_Check_0 x0 x1 x2 x3 x4 x5 = bchk x0 x1 x2 x3 x4 x5 := by
  unfold box_Check_0 bchk
  simp only [empty_box, decide_eq_true_eq, imin_lt, imax_gt]
  by_cases h : (x0 < -1000000 ∨ 1000000 < x0) ∨ (x1 < -1000000 ∨ 1000000 < x1) ∨ (x2 < -1000000 ∨ 1000000 < x2) ∨ (x3 < -1000000 ∨ 1000000 < x3) ∨ (x4 < -1000000 ∨ 1000000 < x4) ∨ (x5 < -1000000 ∨ 1000000 < x5)
  · rw [if_pos h]
    (repeat' split) <;> first | rfl | omega
  · rw [if_neg h, if_neg (by omega), if_neg (by omega), if_neg (by omega), if_neg (by omega), if_neg (by omega), if_neg (by omega)]
/-- Both errors. -/
def both (a b c d x0 x1 x2 x3 x4 x5 : Int) : Int := if chk a b c d ≠ 0 then chk a b c d else bchk x0 x1 x2 x3 x4 x5
theorem both_plane (a b c d x0 x1 x2 x3 x4 x5 : Int) : plane_checkBoth_0 a b c d x0 x1 x2 x3 x4 x5 = both a b c d x0 x1 x2 x3 x4 x5 := by
  unfold plane_checkBoth_0 both
  simp only [chk_plane, bchk_box, bne_iff_ne]
def loM (a b c d x0 y0 z0 x1 y1 z1 : Int) : Int := imin (a * x0) (a * x1) + imin (b * y0) (b * y1) + imin (c * z0) (c * z1) - d
def hiM (a b c d x0 y0 z0 x1 y1 z1 : Int) : Int := imax (a * x0) (a * x1) + imax (b * y0) (b * y1) + imax (c * z0) (c * z1) - d
theorem bchk_zero {x0 x1 x2 x3 x4 x5 : Int} (h : bchk x0 x1 x2 x3 x4 x5 = 0) : (inR x0 ∧ inR x1 ∧ inR x2) ∧ (inR x3 ∧ inR x4 ∧ inR x5) ∧ x0 < x3 ∧ x1 < x4 ∧ x2 < x5 := by
  unfold bchk at h; unfold inR
  split at h
  · cases h
  · split at h
    · cases h
    · omega
theorem chk_zero' {a b c d : Int} (h : chk a b c d = 0) : (-1000 ≤ a ∧ a ≤ 1000) ∧ (-1000 ≤ b ∧ b ≤ 1000) ∧ (-1000 ≤ c ∧ c ≤ 1000) ∧ -4000000000 ≤ d ∧ d ≤ 4000000000 ∧ ¬ (a = 0 ∧ b = 0 ∧ c = 0) := by
  unfold chk at h
  split at h
  · cases h
  · split at h
    · cases h
    · omega
theorem both_zero {a b c d x0 x1 x2 x3 x4 x5 : Int} (h : both a b c d x0 x1 x2 x3 x4 x5 = 0) : chk a b c d = 0 ∧ bchk x0 x1 x2 x3 x4 x5 = 0 := by
  unfold both at h
  split at h
  · contradiction
  · rename_i h1; exact ⟨by omega, h⟩
theorem six {a b c d x0 y0 z0 x1 y1 z1 : Int} (h : both a b c d x0 y0 z0 x1 y1 z1 = 0) :
    (-1000000000 ≤ a * x0 ∧ a * x0 ≤ 1000000000) ∧ (-1000000000 ≤ a * x1 ∧ a * x1 ≤ 1000000000) ∧ (-1000000000 ≤ b * y0 ∧ b * y0 ≤ 1000000000) ∧ (-1000000000 ≤ b * y1 ∧ b * y1 ≤ 1000000000) ∧ (-1000000000 ≤ c * z0 ∧ c * z0 ≤ 1000000000) ∧ (-1000000000 ≤ c * z1 ∧ c * z1 ≤ 1000000000) := by
  obtain ⟨h1, h2⟩ := both_zero h
  obtain ⟨ha, hb, hc, _⟩ := chk_zero' h1
  obtain ⟨⟨i0, i1, i2⟩, ⟨i3, i4, i5⟩, _⟩ := bchk_zero h2
  unfold inR at *
  exact ⟨mul_bd (A := 1000) (X := 1000000) ha i0, mul_bd (A := 1000) (X := 1000000) ha i3, mul_bd (A := 1000) (X := 1000000) hb i1, mul_bd (A := 1000) (X := 1000000) hb i4, mul_bd (A := 1000) (X := 1000000) hc i2, mul_bd (A := 1000) (X := 1000000) hc i5⟩
theorem imin_bd {a b A : Int} (h1 : -A ≤ a ∧ a ≤ A) (h2 : -A ≤ b ∧ b ≤ A) : -A ≤ imin a b ∧ imin a b ≤ A := by rw [imin_eq]; omega
theorem imax_bd {a b A : Int} (h1 : -A ≤ a ∧ a ≤ A) (h2 : -A ≤ b ∧ b ≤ A) : -A ≤ imax a b ∧ imax a b ≤ A := by rw [imax_eq]; omega
theorem ext_plane {a b c d x0 y0 z0 x1 y1 z1 : Int} (h : both a b c d x0 y0 z0 x1 y1 z1 = 0) : plane_extremes_0 a b c d x0 y0 z0 x1 y1 z1 = loM a b c d x0 y0 z0 x1 y1 z1 ∧ plane_extremes_1 a b c d x0 y0 z0 x1 y1 z1 = hiM a b c d x0 y0 z0 x1 y1 z1 := by
  obtain ⟨h1, h2, h3, h4, h5, h6⟩ := six h
  obtain ⟨_, _, _, hd, hd', _⟩ := chk_zero' (both_zero h).1
  have n1 := imin_bd h1 h2; have n2 := imin_bd h3 h4; have n3 := imin_bd h5 h6
  have m1 := imax_bd h1 h2; have m2 := imax_bd h3 h4; have m3 := imax_bd h5 h6
  unfold plane_extremes_0 plane_extremes_1 loM hiM
  rw [wid (x := a * x0) (by omega), wid (x := a * x1) (by omega), wid (x := b * y0) (by omega), wid (x := b * y1) (by omega), wid (x := c * z0) (by omega), wid (x := c * z1) (by omega), wid (x := 0 - d) (by omega)]
  generalize imin (a * x0) (a * x1) = P at *
  generalize imin (b * y0) (b * y1) = Q at *
  generalize imin (c * z0) (c * z1) = R at *
  generalize imax (a * x0) (a * x1) = P' at *
  generalize imax (b * y0) (b * y1) = Q' at *
  generalize imax (c * z0) (c * z1) = R' at *
  rw [wid (x := 0 - d + P) (by omega), wid (x := 0 - d + P + Q) (by omega), wid (x := 0 - d + P + Q + R) (by omega), wid (x := 0 - d + P') (by omega), wid (x := 0 - d + P' + Q') (by omega), wid (x := 0 - d + P' + Q' + R') (by omega)]
  omega
theorem lo_lt {p q a : Int} (h : p < q) (ha : a ≠ 0) : imin (a * p) (a * q) < imax (a * p) (a * q) := by
  have : a * p ≠ a * q := fun e => by have := Int.eq_of_mul_eq_mul_left ha e; omega
  rw [imin_eq, imax_eq]; omega
theorem lo_le (u v : Int) : imin u v ≤ imax u v := by rw [imin_eq, imax_eq]; omega
theorem lo_hi {a b c d x0 y0 z0 x1 y1 z1 : Int} (h : both a b c d x0 y0 z0 x1 y1 z1 = 0) : loM a b c d x0 y0 z0 x1 y1 z1 < hiM a b c d x0 y0 z0 x1 y1 z1 := by
  obtain ⟨h1, h2⟩ := both_zero h
  obtain ⟨_, _, _, _, _, hn⟩ := chk_zero' h1
  obtain ⟨_, _, hx, hy, hz⟩ := bchk_zero h2
  unfold loM hiM
  have ex := lo_le (a * x0) (a * x1)
  have ey := lo_le (b * y0) (b * y1)
  have ez := lo_le (c * z0) (c * z1)
  by_cases ha : a = 0
  · by_cases hb : b = 0
    · have := lo_lt hz (a := c) (by omega); omega
    · have := lo_lt hy hb; omega
  · have := lo_lt hx ha; omega
theorem corner {a b c d x0 y0 z0 x1 y1 z1 x y z : Int} (h : both a b c d x0 y0 z0 x1 y1 z1 = 0) (hx : x = x0 ∨ x = x1) (hy : y = y0 ∨ y = y1) (hz : z = z0 ∨ z = z1) :
    plane_Value_1 a b c d x y z = 0 ∧ loM a b c d x0 y0 z0 x1 y1 z1 ≤ plane_Value_0 a b c d x y z ∧ plane_Value_0 a b c d x y z ≤ hiM a b c d x0 y0 z0 x1 y1 z1 := by
  obtain ⟨h1, h2⟩ := both_zero h
  obtain ⟨⟨i0, i1, i2⟩, ⟨i3, i4, i5⟩, _⟩ := bchk_zero h2
  have jx : inR x := by rcases hx with rfl | rfl <;> assumption
  have jy : inR y := by rcases hy with rfl | rfl <;> assumption
  have jz : inR z := by rcases hz with rfl | rfl <;> assumption
  obtain ⟨e1, e0⟩ := value_plane a b c d x y z
  simp only [h1, ne_eq, not_true_eq_false, if_false, jx, jy, jz, and_self, if_true] at e1 e0
  rw [e1, e0]
  unfold valM loM hiM
  simp only [imin_eq, imax_eq]
  have ax : a * x = a * x0 ∨ a * x = a * x1 := by rcases hx with rfl | rfl <;> simp
  have ay : b * y = b * y0 ∨ b * y = b * y1 := by rcases hy with rfl | rfl <;> simp
  have az : c * z = c * z0 ∨ c * z = c * z1 := by rcases hz with rfl | rfl <;> simp
  clear e1 e0 hx hy hz jx jy jz i0 i1 i2 i3 i4 i5
  refine ⟨trivial, ?_, ?_⟩ <;> omega
theorem tail {lo hi v v1 s : Int} (h1 : v1 = 0) (h2 : lo ≤ v ∧ v ≤ hi) (h4 : lo < hi) (hs : s = if hi ≤ 0 then 1 else if lo ≥ 0 then 2 else 3) : (if v1 == 0 then (if decide (lo ≤ v) then (if decide (v ≤ hi) then (if decide (lo < hi) then (if (s == 1) == decide (hi ≤ 0) then ((s == 2) == decide (lo ≥ 0)) else (Bool.false)) else (Bool.false)) else (Bool.false)) else (Bool.false)) else (Bool.false)) = true := by
  subst h1
  rw [decide_eq_true h2.1, decide_eq_true h2.2, decide_eq_true h4]
  subst hs
  by_cases a : hi ≤ 0
  · have b : ¬ (lo ≥ 0) := by omega
    simp [a, b]
  · by_cases b : lo ≥ 0 <;> simp [a, b]
theorem planeCorners_true (a b c d x0 y0 z0 x1 y1 z1 n : Int) : law07_PlaneCorners_0 a b c d x0 y0 z0 x1 y1 z1 n = true := by
  have hE2 : plane_Extremes_2 a b c d x0 y0 z0 x1 y1 z1 = both a b c d x0 y0 z0 x1 y1 z1 := by
    unfold plane_Extremes_2
    simp only [both_plane, bne_iff_ne]
    split <;> omega
  have hS1 : plane_Side_1 a b c d x0 y0 z0 x1 y1 z1 = both a b c d x0 y0 z0 x1 y1 z1 := by
    unfold plane_Side_1
    simp only [both_plane, bne_iff_ne]
    split <;> omega
  unfold law07_PlaneCorners_0
  rw [hE2, hS1, bne_self_eq_false, if_neg Bool.false_ne_true]
  by_cases h : both a b c d x0 y0 z0 x1 y1 z1 = 0
  · obtain ⟨e0, e1⟩ := ext_plane h
    have hl := lo_hi h
    have hE0 : plane_Extremes_0 a b c d x0 y0 z0 x1 y1 z1 = loM a b c d x0 y0 z0 x1 y1 z1 := by unfold plane_Extremes_0; simp only [both_plane, h, e0]; rfl
    have hE1 : plane_Extremes_1 a b c d x0 y0 z0 x1 y1 z1 = hiM a b c d x0 y0 z0 x1 y1 z1 := by unfold plane_Extremes_1; simp only [both_plane, h, e1]; rfl
    have hS0 : plane_Side_0 a b c d x0 y0 z0 x1 y1 z1 = if hiM a b c d x0 y0 z0 x1 y1 z1 ≤ 0 then 1 else if loM a b c d x0 y0 z0 x1 y1 z1 ≥ 0 then 2 else 3 := by
      unfold plane_Side_0; simp only [both_plane, h, e0, e1, bne_self_eq_false, Bool.false_eq_true, if_false, decide_eq_true_eq]
    have T : ∀ {x y z : Int}, (x = x0 ∨ x = x1) → (y = y0 ∨ y = y1) → (z = z0 ∨ z = z1) → _ := fun {x y z} hx hy hz =>
      tail (lo := loM a b c d x0 y0 z0 x1 y1 z1) (hi := hiM a b c d x0 y0 z0 x1 y1 z1) (v := plane_Value_0 a b c d x y z) (v1 := plane_Value_1 a b c d x y z) (corner h hx hy hz).1 (corner h hx hy hz).2 hl hS0
    rw [h, hE0, hE1, bne_self_eq_false, if_neg Bool.false_ne_true]
    cases c1 : (n.tmod 2 != 0)
    · rw [if_neg Bool.false_ne_true]
      cases c2 : ((IntKind.i64.wrap (n.tdiv 2)).tmod 2 != 0)
      · rw [if_neg Bool.false_ne_true]
        cases c3 : ((IntKind.i64.wrap (n.tdiv 4)).tmod 2 != 0)
        · rw [if_neg Bool.false_ne_true]
          exact T (Or.inl rfl) (Or.inl rfl) (Or.inl rfl)
        · rw [if_pos rfl]
          exact T (Or.inl rfl) (Or.inl rfl) (Or.inr rfl)
      · rw [if_pos rfl]
        cases c3 : ((IntKind.i64.wrap (n.tdiv 4)).tmod 2 != 0)
        · rw [if_neg Bool.false_ne_true]
          exact T (Or.inl rfl) (Or.inr rfl) (Or.inl rfl)
        · rw [if_pos rfl]
          exact T (Or.inl rfl) (Or.inr rfl) (Or.inr rfl)
    · rw [if_pos rfl]
      cases c2 : ((IntKind.i64.wrap (n.tdiv 2)).tmod 2 != 0)
      · rw [if_neg Bool.false_ne_true]
        cases c3 : ((IntKind.i64.wrap (n.tdiv 4)).tmod 2 != 0)
        · rw [if_neg Bool.false_ne_true]
          exact T (Or.inr rfl) (Or.inl rfl) (Or.inl rfl)
        · rw [if_pos rfl]
          exact T (Or.inr rfl) (Or.inl rfl) (Or.inr rfl)
      · rw [if_pos rfl]
        cases c3 : ((IntKind.i64.wrap (n.tdiv 4)).tmod 2 != 0)
        · rw [if_neg Bool.false_ne_true]
          exact T (Or.inr rfl) (Or.inr rfl) (Or.inl rfl)
        · rw [if_pos rfl]
          exact T (Or.inr rfl) (Or.inr rfl) (Or.inr rfl)
  · have hS0 : plane_Side_0 a b c d x0 y0 z0 x1 y1 z1 = 0 := by
      unfold plane_Side_0; simp only [both_plane, bne_iff_ne]; rw [if_pos h]
    rw [if_pos (bne_iff_ne.mpr h), hS0]; rfl

/-- The statement's own function answers true at all inputs. -/
theorem planeCorners_any (a b c d x0 y0 z0 x1 y1 z1 n : Int) (w : World) (_ : (Lit.int .i64 n).wf = true) : Calls Go.Proofs.Try.prog 9 #[.agg #[.int .i64 a, .int .i64 b, .int .i64 c, .int .i64 d], .agg #[.int .i64 x0, .int .i64 y0, .int .i64 z0, .int .i64 x1, .int .i64 y1, .int .i64 z1], .int .i64 n] w fun e w' => e = .returned (.bool true) ∧ Below w.heap.size w w' := by
  have h := tree9_res a b c d x0 y0 z0 x1 y1 z1 n
  rw [planeCorners_true] at h
  exact fn_true mixed tab17_ok (L := 300) rfl (by rw [tree9_eq]; exact h) w
end Go.Proofs.Ytdbdoagljioijaa.Vx
