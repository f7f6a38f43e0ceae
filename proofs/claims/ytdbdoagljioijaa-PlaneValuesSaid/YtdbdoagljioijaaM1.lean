/- The numbers of half-spaces: PlaneValues. -/
import Derived.Test.YtdbdoagljioijaaT1
import Derived.IntWalk
namespace Go.Proofs.Ytdbdoagljioijaa.Vx
open Go Go.RowKit

theorem wid {x : Int} (h : -9223372036854775808 ≤ x ∧ x ≤ 9223372036854775807) : IntKind.i64.wrap x = x := IntWalk.i64_in x (by omega)
theorem mul_bd {a x A X : Int} (h1 : -A ≤ a ∧ a ≤ A) (h2 : -X ≤ x ∧ x ≤ X) : -(A * X) ≤ a * x ∧ a * x ≤ A * X := by
  have e1 := Int.mul_nonneg (a := A - a) (b := X + x) (by omega) (by omega)
  have e2 := Int.mul_nonneg (a := A + a) (b := X - x) (by omega) (by omega)
  have e3 := Int.mul_nonneg (a := A - a) (b := X - x) (by omega) (by omega)
  have e4 := Int.mul_nonneg (a := A + a) (b := X + x) (by omega) (by omega)
  simp only [Int.sub_mul, Int.mul_sub, Int.add_mul, Int.mul_add] at e1 e2 e3 e4
  omega

/-- The half-space's error. -/
def chk (a b c d : Int) : Int := if (a < -1000 ∨ 1000 < a) ∨ (b < -1000 ∨ 1000 < b) ∨ (c < -1000 ∨ 1000 < c) ∨ (d < -4000000000 ∨ 4000000000 < d) then 6 else if a = 0 ∧ b = 0 ∧ c = 0 then 1 else 0
def inR (x : Int) : Prop := -1000000 ≤ x ∧ x ≤ 1000000
instance (x : Int) : Decidable (inR x) := by unfold inR; infer_instance

theorem chk_plane (a b c d : Int) : plane_Check_0 a b c d = chk a b c d := by
  unfold plane_Check_0 chk
  simp only [decide_eq_true_eq, beq_iff_eq, Bool.and_true, Bool.and_eq_true]
  by_cases h : (a < -1000 ∨ 1000 < a) ∨ (b < -1000 ∨ 1000 < b) ∨ (c < -1000 ∨ 1000 < c) ∨ (d < -4000000000 ∨ 4000000000 < d)
  · rw [if_pos h]
    (repeat' split) <;> first | rfl | omega
  · rw [if_neg h]
    rw [if_neg (by omega), if_neg (by omega), if_neg (by omega), if_neg (by omega), if_neg (by omega), if_neg (by omega), if_neg (by omega), if_neg (by omega)]
theorem factor_ref (x : Int) : ref07_factor_0 x = decide (-1000 ≤ x ∧ x ≤ 1000) := by
  unfold ref07_factor_0
  simp only [decide_eq_true_eq]
  (repeat' split) <;> (simp; omega)
theorem chk_ref (a b c d : Int) : ref07_Check_0 a b c d = chk a b c d := by
  unfold ref07_Check_0 chk
  simp only [factor_ref, decide_eq_true_eq, beq_iff_eq]
  by_cases h : (a < -1000 ∨ 1000 < a) ∨ (b < -1000 ∨ 1000 < b) ∨ (c < -1000 ∨ 1000 < c) ∨ (d < -4000000000 ∨ 4000000000 < d)
  · rw [if_pos h]
    (repeat' split) <;> first | rfl | omega
  · rw [if_neg h, if_pos (by omega), if_pos (by omega), if_pos (by omega), if_neg (by omega), if_neg (by omega)]
    (repeat' split) <;> first | rfl | omega
theorem in_ref (x y z : Int) : ref03_In_0 x y z = decide (inR x ∧ inR y ∧ inR z) := by
  unfold ref03_In_0 ref03_in_0 inR
  simp only [decide_eq_true_eq]
  (repeat' split) <;> first | (simp; omega) | (simp_all; done) | (simp_all; omega)

/-- A point's value, as the reference has it, in plain numbers. -/
def valM (a b c d x y z : Int) : Int := a * x + b * y + c * z - d
theorem value_ref (a b c d x y z : Int) (h : chk a b c d = 0) (hx : inR x ∧ inR y ∧ inR z) : ref07_Value_0 a b c d x y z = valM a b c d x y z := by
  unfold ref07_Value_0 valM
  unfold chk at h
  unfold inR at hx
  split at h
  · cases h
  · have h1 := mul_bd (a := a) (x := x) (A := 1000) (X := 1000000) (by omega) (by omega)
    have h2 := mul_bd (a := b) (x := y) (A := 1000) (X := 1000000) (by omega) (by omega)
    have h3 := mul_bd (a := c) (x := z) (A := 1000) (X := 1000000) (by omega) (by omega)
    rw [wid (x := a * x) (by omega), wid (x := b * y) (by omega), wid (x := c * z) (by omega), wid (x := a * x + b * y) (by omega), wid (x := a * x + b * y + c * z) (by omega), wid (by omega)]
theorem dot_ok (a b c x y z : Int) (h : inR a ∧ inR b ∧ inR c) : vector_Dot_1 a b c x y z = if inR x ∧ inR y ∧ inR z then 0 else 6 := by
  unfold vector_Dot_1
  unfold inR at h ⊢
  simp only [decide_eq_true_eq]
  by_cases hx : (-1000000 ≤ x ∧ x ≤ 1000000) ∧ (-1000000 ≤ y ∧ y ≤ 1000000) ∧ (-1000000 ≤ z ∧ z ≤ 1000000)
  · rw [if_pos hx]
    repeat rw [if_neg (by omega)]
  · rw [if_neg hx]
    rw [if_neg (by omega), if_neg (by omega), if_neg (by omega), if_neg (by omega), if_neg (by omega), if_neg (by omega)]
    (repeat' split) <;> first | rfl | omega
theorem dot_val (a b c x y z : Int) (h : inR a ∧ inR b ∧ inR c) (hx : inR x ∧ inR y ∧ inR z) : vector_Dot_0 a b c x y z = a * x + b * y + c * z := by
  unfold vector_Dot_0 vector_dot_0
  unfold inR at h hx
  have h1 := mul_bd (a := a) (x := x) (A := 1000000) (X := 1000000) (by omega) (by omega)
  have h2 := mul_bd (a := b) (x := y) (A := 1000000) (X := 1000000) (by omega) (by omega)
  have h3 := mul_bd (a := c) (x := z) (A := 1000000) (X := 1000000) (by omega) (by omega)
  simp only [decide_eq_true_eq]
  repeat rw [if_neg (by omega)]
  rw [wid (x := a * x) (by omega), wid (x := b * y) (by omega), wid (x := c * z) (by omega), wid (x := 0 + a * x) (by omega), wid (x := 0 + a * x + b * y) (by omega), wid (by omega)]
  omega
theorem chk_zero {a b c d : Int} (h : chk a b c d = 0) : inR a ∧ inR b ∧ inR c := by
  unfold chk at h; unfold inR
  split at h
  · cases h
  · omega
/-- plane.Value, in plain numbers. -/
theorem value_plane (a b c d x y z : Int) : plane_Value_1 a b c d x y z = (if chk a b c d ≠ 0 then chk a b c d else if inR x ∧ inR y ∧ inR z then 0 else 6) ∧
    plane_Value_0 a b c d x y z = (if chk a b c d ≠ 0 then 0 else if inR x ∧ inR y ∧ inR z then valM a b c d x y z else 0) := by
  unfold plane_Value_1 plane_Value_0
  simp only [chk_plane, bne_iff_ne]
  by_cases h : chk a b c d = 0
  · have h0 := chk_zero h
    have hb := dot_ok a b c x y z h0
    simp only [h, ne_eq, not_true_eq_false, if_false, hb]
    by_cases hx : inR x ∧ inR y ∧ inR z
    · have hv := dot_val a b c x y z h0 hx
      simp only [hx, and_self, if_true, not_true_eq_false, if_false, hv, true_and]
      unfold valM
      unfold chk at h
      unfold inR at hx
      split at h
      · cases h
      · have h1 := mul_bd (a := a) (x := x) (A := 1000) (X := 1000000) (by omega) (by omega)
        have h2 := mul_bd (a := b) (x := y) (A := 1000) (X := 1000000) (by omega) (by omega)
        have h3 := mul_bd (a := c) (x := z) (A := 1000) (X := 1000000) (by omega) (by omega)
        exact wid (by omega)
    · simp [hx]
  · simp [h]

theorem planeValues_true (a b c d x y z : Int) : law07_PlaneValues_0 a b c d x y z = true := by
  unfold law07_PlaneValues_0
  obtain ⟨h1, h2⟩ := value_plane a b c d x y z
  simp only [chk_plane, chk_ref, in_ref, h1, h2]
  by_cases h : chk a b c d = 0
  · by_cases hx : inR x ∧ inR y ∧ inR z
    · have hv := value_ref a b c d x y z h hx
      simp [h, hx, hv]
    · simp [h, hx]
  · simp [h]

/-- The statement's own function answers true at all inputs. -/
theorem planeValues_any (a b c d x y z : Int) (w : World) : Calls Go.Proofs.Try.prog 3 #[.agg #[.int .i64 a, .int .i64 b, .int .i64 c, .int .i64 d], .agg #[.int .i64 x, .int .i64 y, .int .i64 z]] w fun e w' => e = .returned (.bool true) ∧ Below w.heap.size w w' := by
  have h := tree3_res a b c d x y z
  rw [planeValues_true] at h
  exact fn_true mixed tab15_ok (L := 300) rfl (by rw [tree3_eq]; exact h) w
end Go.Proofs.Ytdbdoagljioijaa.Vx
