/- The relations of boxes: BoxRelates. -/
import Derived.Test.YtgpcgcflmimnbaaT4c
import Derived.IntWalk
import Derived.Laws.BitsLemmas
namespace Go.Proofs.Ytgpcgcflmimnbaa.Vx
open Go Go.RowKit
theorem wid {x : Int} (h : -9223372036854775808 ≤ x ∧ x ≤ 9223372036854775807) : IntKind.i64.wrap x = x := IntWalk.i64_in x (by omega)
/-- The box's error. -/
def bchk (x0 x1 x2 x3 x4 x5 : Int) : Int := if (x0 < -1000000 ∨ 1000000 < x0) ∨ (x1 < -1000000 ∨ 1000000 < x1) ∨ (x2 < -1000000 ∨ 1000000 < x2) ∨ (x3 < -1000000 ∨ 1000000 < x3) ∨ (x4 < -1000000 ∨ 1000000 < x4) ∨ (x5 < -1000000 ∨ 1000000 < x5) then 6 else if x0 ≥ x3 ∨ x1 ≥ x4 ∨ x2 ≥ x5 then 1 else 0
theorem imin_lt (a b c : Int) : imin a b < c ↔ a < c ∨ b < c := by rw [imin_eq]; omega
theorem imax_gt (a b c : Int) : imax a b > c ↔ a > c ∨ b > c := by rw [imax_eq]; omega
theorem empty_box (x0 x1 x2 x3 x4 x5 : Int) : box_empty_0 x0 x1 x2 x3 x4 x5 = decide (x0 ≥ x3 ∨ x1 ≥ x4 ∨ x2 ≥ x5) := by
  unfold box_empty_0
  simp only [decide_eq_true_eq]
  (repeat' split) <;> (simp; omega)
theorem bchk_box (x0 x1 x2 x3 x4 x5 : Int) : box_Check_0 x0 x1 x2 x3 x4 x5 = bchk x0 x1 x2 x3 x4 x5 := by
  unfold box_Check_0 bchk
  simp only [empty_box, decide_eq_true_eq, imin_lt, imax_gt]
  by_cases h : (x0 < -1000000 ∨ 1000000 < x0) ∨ (x1 < -1000000 ∨ 1000000 < x1) ∨ (x2 < -1000000 ∨ 1000000 < x2) ∨ (x3 < -1000000 ∨ 1000000 < x3) ∨ (x4 < -1000000 ∨ 1000000 < x4) ∨ (x5 < -1000000 ∨ 1000000 < x5)
  · rw [if_pos h]
    (repeat' split) <;> first | rfl | omega
  · rw [if_neg h, if_neg (by omega), if_neg (by omega), if_neg (by omega), if_neg (by omega), if_neg (by omega), if_neg (by omega)]
theorem at0 (x0 x1 x2 : Int) : ref06_At_0 x0 x1 x2 0 = x0 := by unfold ref06_At_0; simp
theorem at1 (x0 x1 x2 : Int) : ref06_At_0 x0 x1 x2 (IntKind.i64.wrap (0 + 1)) = x1 := by
  rw [wid (x := 0 + 1) (by omega)]; unfold ref06_At_0; simp
theorem at2 (x0 x1 x2 : Int) : ref06_At_0 x0 x1 x2 (IntKind.i64.wrap (IntKind.i64.wrap (0 + 1) + 1)) = x2 := by
  rw [wid (x := 0 + 1) (by omega), wid (by omega)]; unfold ref06_At_0; simp
theorem bchk_ref (x0 x1 x2 x3 x4 x5 : Int) : ref06_Check_0 x0 x1 x2 x3 x4 x5 = bchk x0 x1 x2 x3 x4 x5 := by
  unfold ref06_Check_0 bchk
  simp only [at0, at1, at2, decide_eq_true_eq]
  by_cases h : (x0 < -1000000 ∨ 1000000 < x0) ∨ (x1 < -1000000 ∨ 1000000 < x1) ∨ (x2 < -1000000 ∨ 1000000 < x2) ∨ (x3 < -1000000 ∨ 1000000 < x3) ∨ (x4 < -1000000 ∨ 1000000 < x4) ∨ (x5 < -1000000 ∨ 1000000 < x5)
  · rw [if_pos h]
    (repeat' split) <;> first | rfl | omega
  · rw [if_neg h, if_neg (by omega), if_neg (by omega), if_neg (by omega), if_neg (by omega), if_neg (by omega), if_neg (by omega), if_neg (by omega), if_neg (by omega), if_neg (by omega), if_neg (by omega), if_neg (by omega), if_neg (by omega)]
    (repeat' split) <;> first | rfl | omega
theorem bchk_zero {x0 x1 x2 x3 x4 x5 : Int} (h : bchk x0 x1 x2 x3 x4 x5 = 0) : (-1000000 ≤ x0 ∧ x0 ≤ 1000000) ∧ (-1000000 ≤ x1 ∧ x1 ≤ 1000000) ∧ (-1000000 ≤ x2 ∧ x2 ≤ 1000000) ∧ (-1000000 ≤ x3 ∧ x3 ≤ 1000000) ∧ (-1000000 ≤ x4 ∧ x4 ≤ 1000000) ∧ (-1000000 ≤ x5 ∧ x5 ≤ 1000000) ∧ x0 < x3 ∧ x1 < x4 ∧ x2 < x5 := by
  unfold bchk at h
  split at h
  · cases h
  · split at h
    · cases h
    · omega
/-- Where a box touches another one, by what is known of its sides. -/
def tB (b0 e0 e1 b1 e2 e3 b2 e4 e5 : Bool) : Int := if b0 && e0 then 0 else if b0 && e1 then 1 else if b1 && e2 then 2 else if b1 && e3 then 3 else if b2 && e4 then 4 else if b2 && e5 then 5 else -1
def tM (x0 x1 x2 x3 x4 x5 x6 x7 x8 x9 x10 x11 : Int) : Int :=
  tB (decide (max x1 x7 < min x4 x10 ∧ max x2 x8 < min x5 x11)) (x6 == x3) (x9 == x0) (decide (max x0 x6 < min x3 x9 ∧ max x2 x8 < min x5 x11)) (x7 == x4) (x10 == x1) (decide (max x0 x6 < min x3 x9 ∧ max x1 x7 < min x4 x10)) (x8 == x5) (x11 == x2)
theorem beside0 (x0 x1 x2 x3 x4 x5 x6 x7 x8 x9 x10 x11 : Int) : box_beside_at0_0 x0 x1 x2 x3 x4 x5 x6 x7 x8 x9 x10 x11 = decide (max x1 x7 < min x4 x10 ∧ max x2 x8 < min x5 x11) := by
  unfold box_beside_at0_0
  simp only [empty_box, imin_eq, imax_eq, decide_eq_true_eq]
  split <;> (simp; omega)
theorem beside1 (x0 x1 x2 x3 x4 x5 x6 x7 x8 x9 x10 x11 : Int) : box_beside_at1_0 x0 x1 x2 x3 x4 x5 x6 x7 x8 x9 x10 x11 = decide (max x0 x6 < min x3 x9 ∧ max x2 x8 < min x5 x11) := by
  unfold box_beside_at1_0
  simp only [empty_box, imin_eq, imax_eq, decide_eq_true_eq]
  split <;> (simp; omega)
theorem beside2 (x0 x1 x2 x3 x4 x5 x6 x7 x8 x9 x10 x11 : Int) : box_beside_at2_0 x0 x1 x2 x3 x4 x5 x6 x7 x8 x9 x10 x11 = decide (max x0 x6 < min x3 x9 ∧ max x1 x7 < min x4 x10) := by
  unfold box_beside_at2_0
  simp only [empty_box, imin_eq, imax_eq, decide_eq_true_eq]
  split <;> (simp; omega)
theorem touch_box (x0 x1 x2 x3 x4 x5 x6 x7 x8 x9 x10 x11 : Int) (h1 : bchk x0 x1 x2 x3 x4 x5 = 0) (h2 : bchk x6 x7 x8 x9 x10 x11 = 0) :
    box_Touch_0 x0 x1 x2 x3 x4 x5 x6 x7 x8 x9 x10 x11 = (if tM x0 x1 x2 x3 x4 x5 x6 x7 x8 x9 x10 x11 = -1 then 0 else tM x0 x1 x2 x3 x4 x5 x6 x7 x8 x9 x10 x11) ∧
    box_Touch_1 x0 x1 x2 x3 x4 x5 x6 x7 x8 x9 x10 x11 = (if tM x0 x1 x2 x3 x4 x5 x6 x7 x8 x9 x10 x11 = -1 then 9 else 0) := by
  have w0 : IntKind.i64.wrap (0 + IntKind.i64.wrap (2 * 0)) = 0 := by decide
  have w1 : IntKind.i64.wrap (1 + IntKind.i64.wrap (2 * 0)) = 1 := by decide
  have w2 : IntKind.i64.wrap (0 + IntKind.i64.wrap (2 * IntKind.i64.wrap (0 + 1))) = 2 := by decide
  have w3 : IntKind.i64.wrap (1 + IntKind.i64.wrap (2 * IntKind.i64.wrap (0 + 1))) = 3 := by decide
  have w4 : IntKind.i64.wrap (0 + IntKind.i64.wrap (2 * IntKind.i64.wrap (IntKind.i64.wrap (0 + 1) + 1))) = 4 := by decide
  have w5 : IntKind.i64.wrap (1 + IntKind.i64.wrap (2 * IntKind.i64.wrap (IntKind.i64.wrap (0 + 1) + 1))) = 5 := by decide
  have z : ((0 : Int) != 0) = false := rfl
  unfold box_Touch_0 box_Touch_1 tM
  simp only [bchk_box, h1, h2, z, Bool.false_eq_true, if_false, beside0, beside1, beside2, w0, w1, w2, w3, w4, w5]
  generalize decide (max x1 x7 < min x4 x10 ∧ max x2 x8 < min x5 x11) = b0
  generalize decide (max x0 x6 < min x3 x9 ∧ max x2 x8 < min x5 x11) = b1
  generalize decide (max x0 x6 < min x3 x9 ∧ max x1 x7 < min x4 x10) = b2
  generalize (x6 == x3) = e0
  generalize (x9 == x0) = e1
  generalize (x7 == x4) = e2
  generalize (x10 == x1) = e3
  generalize (x8 == x5) = e4
  generalize (x11 == x2) = e5
  unfold tB
  cases b0 <;> cases b1 <;> cases b2 <;> cases e0 <;> cases e1 <;> cases e2 <;> cases e3 <;> cases e4 <;> cases e5 <;> decide
theorem over_box (x0 x1 x2 x3 x4 x5 x6 x7 x8 x9 x10 x11 : Int) : box_Overlap_0 x0 x1 x2 x3 x4 x5 x6 x7 x8 x9 x10 x11 = decide (max x0 x6 < min x3 x9 ∧ max x1 x7 < min x4 x10 ∧ max x2 x8 < min x5 x11) := by
  unfold box_Overlap_0
  simp only [empty_box, imin_eq, imax_eq, decide_eq_true_eq]
  split <;> (simp; omega)
theorem has_same (x0 x1 x2 x3 x4 x5 x6 x7 x8 : Int) : box_Has_0 x0 x1 x2 x3 x4 x5 x6 x7 x8 = ref06_Has_0 x0 x1 x2 x3 x4 x5 x6 x7 x8 := by
  unfold box_Has_0 ref06_Has_0
  simp only [decide_eq_true_eq]
  (repeat' split) <;> first | rfl | omega
theorem inside_same (x0 x1 x2 x3 x4 x5 x6 x7 x8 x9 x10 x11 : Int) : box_Inside_0 x0 x1 x2 x3 x4 x5 x6 x7 x8 x9 x10 x11 = ref06_Inside_0 x0 x1 x2 x3 x4 x5 x6 x7 x8 x9 x10 x11 := by
  unfold box_Inside_0 ref06_Inside_0
  simp only [at0, at1, at2, imin_eq, imax_eq, Bool.and_true, Bool.and_eq_true, beq_iff_eq, decide_eq_true_eq]
  (repeat' split) <;> first | rfl | omega
theorem overlap_same (x0 x1 x2 x3 x4 x5 x6 x7 x8 x9 x10 x11 : Int) : box_Overlap_0 x0 x1 x2 x3 x4 x5 x6 x7 x8 x9 x10 x11 = ref06_Overlap_0 x0 x1 x2 x3 x4 x5 x6 x7 x8 x9 x10 x11 := by
  unfold box_Overlap_0 ref06_Overlap_0 ref06_full_0
  simp only [empty_box, imin_eq, imax_eq, decide_eq_true_eq]
  (repeat' split) <;> first | rfl | omega | (simp_all; done) | (simp_all; omega)
theorem at_one (x0 x1 x2 : Int) : ref06_At_0 x0 x1 x2 1 = x1 := by unfold ref06_At_0; simp
theorem at_two (x0 x1 x2 : Int) : ref06_At_0 x0 x1 x2 2 = x2 := by unfold ref06_At_0; simp
theorem m_0 (x0 x1 x2 x3 x4 x5 x6 x7 x8 x9 x10 x11 : Int) : m32_0 x0 x1 x2 x3 x4 x5 x6 x7 x8 x9 x10 x11 = decide (max x1 x7 < min x4 x10 ∧ max x2 x8 < min x5 x11) := by
  unfold m32_0 apart
  simp only [at_one, at_two, imin_eq, imax_eq, decide_eq_true_eq]
  (repeat' split) <;> (simp; omega)
theorem m_1 (x0 x1 x2 x3 x4 x5 x6 x7 x8 x9 x10 x11 : Int) : m32_1 x0 x1 x2 x3 x4 x5 x6 x7 x8 x9 x10 x11 = decide (max x0 x6 < min x3 x9 ∧ max x2 x8 < min x5 x11) := by
  unfold m32_1 apart
  simp only [at0, at_two, imin_eq, imax_eq, decide_eq_true_eq]
  (repeat' split) <;> (simp; omega)
theorem m_2 (x0 x1 x2 x3 x4 x5 x6 x7 x8 x9 x10 x11 : Int) : m32_2 x0 x1 x2 x3 x4 x5 x6 x7 x8 x9 x10 x11 = decide (max x0 x6 < min x3 x9 ∧ max x1 x7 < min x4 x10) := by
  unfold m32_2 apart
  simp only [at0, at_one, imin_eq, imax_eq, decide_eq_true_eq]
  (repeat' split) <;> (simp; omega)
theorem touch_ref (x0 x1 x2 x3 x4 x5 x6 x7 x8 x9 x10 x11 : Int) : ref06_Touch_0 x0 x1 x2 x3 x4 x5 x6 x7 x8 x9 x10 x11 = tM x0 x1 x2 x3 x4 x5 x6 x7 x8 x9 x10 x11 := by
  unfold ref06_Touch_0 tM e32
  simp only [m_0, m_1, m_2, at0, at_one, at_two]
  generalize decide (max x1 x7 < min x4 x10 ∧ max x2 x8 < min x5 x11) = b0
  generalize decide (max x0 x6 < min x3 x9 ∧ max x2 x8 < min x5 x11) = b1
  generalize decide (max x0 x6 < min x3 x9 ∧ max x1 x7 < min x4 x10) = b2
  generalize (x6 == x3) = e0
  generalize (x9 == x0) = e1
  generalize (x7 == x4) = e2
  generalize (x10 == x1) = e3
  generalize (x8 == x5) = e4
  generalize (x11 == x2) = e5
  unfold tB
  cases b0 <;> cases b1 <;> cases b2 <;> cases e0 <;> cases e1 <;> cases e2 <;> cases e3 <;> cases e4 <;> cases e5 <;> rfl
theorem tM_in (x0 x1 x2 x3 x4 x5 x6 x7 x8 x9 x10 x11 : Int) : tM x0 x1 x2 x3 x4 x5 x6 x7 x8 x9 x10 x11 = -1 ∨ 0 ≤ tM x0 x1 x2 x3 x4 x5 x6 x7 x8 x9 x10 x11 := by
  unfold tM tB
  (repeat' split) <;> omega
theorem touch_bad (x0 x1 x2 x3 x4 x5 x6 x7 x8 x9 x10 x11 : Int) (h : ¬ (bchk x0 x1 x2 x3 x4 x5 = 0 ∧ bchk x6 x7 x8 x9 x10 x11 = 0)) :
    box_Touch_0 x0 x1 x2 x3 x4 x5 x6 x7 x8 x9 x10 x11 = 0 ∧ box_Touch_1 x0 x1 x2 x3 x4 x5 x6 x7 x8 x9 x10 x11 = (if bchk x0 x1 x2 x3 x4 x5 = 0 then bchk x6 x7 x8 x9 x10 x11 else bchk x0 x1 x2 x3 x4 x5) := by
  unfold box_Touch_0 box_Touch_1
  simp only [bchk_box]
  by_cases h1 : bchk x0 x1 x2 x3 x4 x5 = 0
  · have h2 : bchk x6 x7 x8 x9 x10 x11 ≠ 0 := fun h2 => h ⟨h1, h2⟩
    simp [h1, h2]
  · simp [h1]
theorem both_law (x0 x1 x2 x3 x4 x5 x6 x7 x8 x9 x10 x11 : Int) : law06_both_0 x0 x1 x2 x3 x4 x5 x6 x7 x8 x9 x10 x11 = if bchk x0 x1 x2 x3 x4 x5 = 0 then bchk x6 x7 x8 x9 x10 x11 else bchk x0 x1 x2 x3 x4 x5 := by
  unfold law06_both_0
  simp only [bchk_ref, bne_iff_ne]
  (repeat' split) <;> first | rfl | contradiction | omega
theorem relates_true (x0 x1 x2 x3 x4 x5 x6 x7 x8 x9 x10 x11 x12 x13 x14 : Int) : law06_BoxRelates_0 x0 x1 x2 x3 x4 x5 x6 x7 x8 x9 x10 x11 x12 x13 x14 = true := by
  unfold law06_BoxRelates_0
  by_cases h : bchk x0 x1 x2 x3 x4 x5 = 0 ∧ bchk x6 x7 x8 x9 x10 x11 = 0
  · obtain ⟨t0, t1⟩ := touch_box x0 x1 x2 x3 x4 x5 x6 x7 x8 x9 x10 x11 h.1 h.2
    have ht := tM_in x0 x1 x2 x3 x4 x5 x6 x7 x8 x9 x10 x11
    simp only [has_same, inside_same, overlap_same, both_law, h.1, h.2, if_true, touch_ref, t0, t1]
    generalize tM x0 x1 x2 x3 x4 x5 x6 x7 x8 x9 x10 x11 = q at ht
    rcases ht with rfl | hq
    · simp
    · have h1 : ¬ q = -1 := by omega
      have h2 : ¬ q < 0 := by omega
      simp [h1, h2, hq]
  · obtain ⟨t0, t1⟩ := touch_bad x0 x1 x2 x3 x4 x5 x6 x7 x8 x9 x10 x11 h
    have hb : (if bchk x0 x1 x2 x3 x4 x5 = 0 then bchk x6 x7 x8 x9 x10 x11 else bchk x0 x1 x2 x3 x4 x5) ≠ 0 := by
      split <;> omega
    simp only [has_same, inside_same, overlap_same, both_law, t0, t1]
    generalize (if bchk x0 x1 x2 x3 x4 x5 = 0 then bchk x6 x7 x8 x9 x10 x11 else bchk x0 x1 x2 x3 x4 x5) = q at hb
    simp [hb]
/-- The statement's own function answers true at all inputs. -/
theorem boxRelates_any (x0 x1 x2 x3 x4 x5 x6 x7 x8 x9 x10 x11 x12 x13 x14 : Int) (w : World) : Calls Go.Proofs.Try.prog 4 #[.agg #[.int .i64 x0, .int .i64 x1, .int .i64 x2, .int .i64 x3, .int .i64 x4, .int .i64 x5], .agg #[.int .i64 x6, .int .i64 x7, .int .i64 x8, .int .i64 x9, .int .i64 x10, .int .i64 x11], .agg #[.int .i64 x12, .int .i64 x13, .int .i64 x14]] w fun e w' => e = .returned (.bool true) ∧ Below w.heap.size w w' := by
  have h := tree4_res x0 x1 x2 x3 x4 x5 x6 x7 x8 x9 x10 x11 x12 x13 x14
  rw [relates_true] at h
  exact fn_true mixed tab23_ok (L := 300) rfl (by rw [tree4_eq]; exact h) w
end Go.Proofs.Ytgpcgcflmimnbaa.Vx
