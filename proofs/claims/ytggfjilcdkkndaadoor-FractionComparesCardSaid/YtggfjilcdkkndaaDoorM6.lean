/- Fractions are compared as they should be: FractionCompares. -/
import Derived.Test.YtggfjilcdkkndaaDoorM
import Derived.IntWalk
namespace Go.Proofs.YtggfjilcdkkndaaDoor.Vx
open Go Go.RowKit
set_option maxHeartbeats 2000000 in
theorem cmp_same {x0 x1 x2 x3 : Int} (ha : ref04_Valid_0 x0 x1 = true) (hb : ref04_Valid_0 x2 x3 = true) : fraction_compare_0 x0 x1 x2 x3 = ref04_Cmp_0 x0 x1 x2 x3 := by
  obtain ⟨a1, a2⟩ := valid_in ha
  obtain ⟨b1, b2⟩ := valid_in hb
  obtain ⟨p0, p1, p2, p3⟩ := parts_in a2 b1
  obtain ⟨q0, q1, q2, q3⟩ := parts_in b2 a1
  have t0 : ∀ x y, fraction_times_0 (fraction_size_0 x) (fraction_size_0 y) = ref04_times_0 x y := fun _ _ => rfl
  have t1 : ∀ x y, fraction_times_1 (fraction_size_0 x) (fraction_size_0 y) = ref04_times_1 x y := fun _ _ => rfl
  unfold fraction_compare_0 ref04_Cmp_0
  simp only [t0, t1]
  rw [m64_eq, p3, q3]
  generalize ref04_times_0 x0 x3 = P at *
  generalize ref04_times_1 x0 x3 = p at *
  generalize ref04_times_0 x2 x1 = Q at *
  generalize ref04_times_1 x2 x1 = q at *
  have cw : ∀ a b c d : Int, _fraction_wide_compare_0 a b c d = if a < c ∨ a = c ∧ b < d then -1 else if a = c ∧ b = d then 0 else 1 := by
    intro a b c d
    unfold _fraction_wide_compare_0 cmp_Compare_uint64__0
    simp only [bne_self_eq_false, Bool.false_eq_true, if_false, decide_eq_true_eq, bne_iff_ne, ne_eq]
    (repeat' split) <;> omega
  rw [cw, cw]
  by_cases hx : x0 < 0 <;> by_cases hy : x2 < 0
  all_goals
    simp only [hx, hy, decide_true, decide_false, Bool.not_true, Bool.not_false, beq_self_eq_true, Bool.false_eq_true, if_true, if_false, Bool.cond_true_left, Bool.cond_false_right, Bool.or_eq_true, Bool.and_eq_true, decide_eq_true_eq, beq_iff_eq, Int.ofNat_eq_natCast, Bool.true_beq, Bool.false_beq]
    (repeat' split) <;> first | rfl | omega
theorem compares_true (x0 x1 x2 x3 : Int) : law04_FractionCompares_ok x0 x1 x2 x3 = true ∧ law04_FractionCompares_0 x0 x1 x2 x3 = true := by
  have htwo : law04_two_0 x0 x1 x2 x3 = (ref04_Valid_0 x0 x1 && ref04_Valid_0 x2 x3) := by
    unfold law04_two_0
    cases ref04_Valid_0 x0 x1 <;> cases ref04_Valid_0 x2 x3 <;> rfl
  have hcmp : fraction_Cmp_0 x0 x1 x2 x3 = if ref04_Valid_0 x0 x1 = true ∧ ref04_Valid_0 x2 x3 = true then ref04_Cmp_0 x0 x1 x2 x3 else 0 := by
    unfold fraction_Cmp_0
    rw [valid_same, valid_same]
    by_cases ha : ref04_Valid_0 x0 x1 = true
    · by_cases hb : ref04_Valid_0 x2 x3 = true
      · rw [cmp_same ha hb]; simp [ha, hb]
      · simp [ha, hb]
    · simp [ha]
  unfold law04_FractionCompares_ok law04_FractionCompares_0
  rw [okCmp, htwo, hcmp]
  by_cases ha : ref04_Valid_0 x0 x1 = true
  · obtain ⟨f1, f2⟩ := floor_same ha
    obtain ⟨r1, r2⟩ := round_same ha
    rw [f1, f2, r1, r2]
    by_cases hb : ref04_Valid_0 x2 x3 = true
    · simp [ha, hb]
    · simp [ha, hb]
  · have f0 : fraction_Floor_0 x0 x1 = 0 := by unfold fraction_Floor_0; rw [valid_same]; simp [ha]
    have r0 : fraction_Round_0 x0 x1 = 0 := by unfold fraction_Round_0; rw [valid_same]; simp [ha]
    rw [f0, r0]
    simp [ha]
/-- The statement's own function answers true at all inputs. -/
theorem fractionCompares_any (x0 x1 x2 x3 : Int) (w : World) (hgl : GlobOk w) : Calls Go.Proofs.Tryd.prog 6 #[.agg #[.int .i64 x0, .int .i64 x1], .agg #[.int .i64 x2, .int .i64 x3]] w fun e w' => e = .returned (.bool true) ∧ Below w.heap.size w w' := by
  have h := tree6_res x0 x1 x2 x3
  obtain ⟨h1, h2⟩ := compares_true x0 x1 x2 x3
  rw [h1, h2, if_pos rfl] at h
  exact fn_true mixed tab31_ok (L := 300) rfl (by rw [tree6_eq]; exact h) w hgl
end Go.Proofs.YtggfjilcdkkndaaDoor.Vx
