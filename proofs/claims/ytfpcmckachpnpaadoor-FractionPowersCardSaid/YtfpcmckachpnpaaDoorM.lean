/- Fractions in plain numbers. -/
import Derived.Test.YtfpcmckachpnpaaDoorT4
import Derived.IntWalk
namespace Go.Proofs.YtfpcmckachpnpaaDoor.Vx
open Go Go.RowKit
theorem wid {x : Int} (h : -9223372036854775808 ≤ x ∧ x ≤ 9223372036854775807) : IntKind.i64.wrap x = x := IntWalk.i64_in x (by omega)
theorem size_same (x : Int) : fraction_size_0 x = ref04_size_0 x := rfl
theorem size_eq {x : Int} (h : -1000000000000000000 < x ∧ x < 1000000000000000000) : ref04_size_0 x = x.natAbs := by
  unfold ref04_size_0
  simp only [decide_eq_true_eq]
  split
  · rw [IntKind.wrap_u64, IntKind.wrap_u64]; omega
  · rw [IntKind.wrap_u64]; omega
/-- A fraction. -/
theorem valid_same (x0 x1 : Int) : fraction_Valid_0 x0 x1 = ref04_Valid_0 x0 x1 := by
  unfold fraction_Valid_0 ref04_Valid_0
  simp only [decide_eq_true_eq]
  by_cases h1 : x1 ≥ 1
  · have : fraction_size_0 x1 = IntKind.u64.wrap x1 := by
      unfold fraction_size_0
      simp only [decide_eq_true_eq]
      rw [if_neg (by omega)]
    rw [this]
    rfl
  · rw [if_neg h1, if_neg h1]
theorem valid_in {x0 x1 : Int} (h : ref04_Valid_0 x0 x1 = true) : (1 ≤ x1 ∧ x1 < 1000000000000000000) ∧ (-1000000000000000000 < x0 ∧ x0 < 1000000000000000000) := by
  unfold ref04_Valid_0 at h
  simp only [decide_eq_true_eq] at h
  split at h
  · split at h
    · split at h
      · split at h
        · omega
        · cases h
      · cases h
    · cases h
  · cases h
/-- The parts of a product. -/
theorem parts_in {x y : Int} (hx : -1000000000000000000 < x ∧ x < 1000000000000000000) (hy : 1 ≤ y ∧ y < 1000000000000000000) :
    (0 ≤ ref04_times_0 x y ∧ ref04_times_0 x y < 1000000000000000000) ∧ (0 ≤ ref04_times_1 x y ∧ ref04_times_1 x y < 18446744073709551616) ∧ (x ≠ 0 → ¬ (ref04_times_0 x y = 0 ∧ ref04_times_1 x y = 0)) ∧ ref04_times_2 x y = decide (x < 0) := by
  refine ⟨?_, lo_in x y, ?_, ?_⟩
  · unfold ref04_times_0
    rw [size_eq hx, size_eq (by omega)]
    have h0 : 0 ≤ (x.natAbs : Int) * y.natAbs := Int.mul_nonneg (by omega) (by omega)
    have h1 : (x.natAbs : Int) * y.natAbs ≤ 1000000000000000000 * 1000000000000000000 := Int.mul_le_mul (by omega) (by omega) (by omega) (by omega)
    omega
  · intro hn
    unfold ref04_times_0 ref04_times_1
    rw [size_eq hx, size_eq (by omega)]
    have h0 : 0 < (x.natAbs : Int) * y.natAbs := Int.mul_pos (by omega) (by omega)
    omega
  · unfold ref04_times_2
    have : decide (y < 0) = false := by simp; omega
    rw [this]
    cases decide (x < 0) <;> rfl
theorem ok54 (x0 x1 x2 x3 : Int) : fraction_compare_ok x0 x1 x2 x3 = true := by
  unfold fraction_compare_ok fraction_times_ok
  simp only [size_in2, Bool.and_self, if_true]
  split <;> rfl
theorem okCmp (x0 x1 x2 x3 : Int) : fraction_Cmp_ok x0 x1 x2 x3 = true := by
  unfold fraction_Cmp_ok
  simp only [ok54, if_true]
  (repeat' split) <;> rfl
theorem floor_same {x0 x1 : Int} (h : ref04_Valid_0 x0 x1 = true) : ref04_Floor_ok x0 x1 = true ∧ fraction_Floor_0 x0 x1 = ref04_Floor_0 x0 x1 := by
  obtain ⟨h1, h2⟩ := valid_in h
  have hz : (x1 == 0) = false := by simp; omega
  unfold ref04_Floor_ok fraction_Floor_0 ref04_Floor_0
  rw [valid_same, h, hz]
  simp
theorem round_pos {n d : Int} (hd : 1 ≤ d ∧ d < 1000000000000000000) (hn : 0 ≤ n ∧ n < 1000000000000000000) : ref04_RoundP_ok n d = true ∧ ref04_RoundP_0 n d = if 2 * (n % d) ≥ d then n / d + 1 else n / d := by
  have hz : (d == 0) = false := by simp; omega
  have e1 : n.tmod d = n % d := Int.tmod_eq_emod_of_nonneg hn.1
  have e2 : n.tdiv d = n / d := Int.tdiv_eq_ediv_of_nonneg hn.1
  have m0 := Int.emod_nonneg n (show d ≠ 0 by omega)
  have m1 := Int.emod_lt_of_pos n (show 0 < d by omega)
  have q0 := Int.ediv_nonneg hn.1 (show 0 ≤ d by omega)
  have q1 := Int.ediv_le_self d hn.1
  unfold ref04_RoundP_ok ref04_RoundP_0
  rw [hz, e1, e2, wid (x := 2 * (n % d)) (by omega), wid (x := n / d) (by omega), wid (x := n / d + 1) (by omega)]
  simp only [decide_eq_true_eq, show ¬ n < 0 by omega, if_false, Bool.false_eq_true, and_self]
theorem round_same {x0 x1 : Int} (h : ref04_Valid_0 x0 x1 = true) : ref04_Round_ok x0 x1 = true ∧ fraction_Round_0 x0 x1 = ref04_Round_0 x0 x1 := by
  obtain ⟨h1, h2⟩ := valid_in h
  have hz : (x1 == 0) = false := by simp; omega
  by_cases hn : x0 < 0
  · obtain ⟨p1, p2⟩ := round_pos (n := -x0) h1 (by omega)
    have e0 : IntKind.i64.wrap (0 - x0) = -x0 := by rw [wid (by omega)]; omega
    have e1 : x0.tmod x1 = -((-x0) % x1) := by
      rw [show x0 = -(-x0) by omega, Int.neg_tmod, Int.tmod_eq_emod_of_nonneg (by omega)]; simp
    have e2 : x0.tdiv x1 = -((-x0) / x1) := by
      rw [show x0 = -(-x0) by omega, Int.neg_tdiv, Int.tdiv_eq_ediv_of_nonneg (by omega)]; simp
    have m0 := Int.emod_nonneg (-x0) (show x1 ≠ 0 by omega)
    have m1 := Int.emod_lt_of_pos (-x0) (show 0 < x1 by omega)
    have q0 := Int.ediv_nonneg (a := -x0) (b := x1) (by omega) (by omega)
    have q1 := Int.ediv_le_self (a := -x0) x1 (by omega)
    unfold ref04_Round_ok ref04_Round_0 fraction_Round_0
    rw [valid_same, h, e0, p1, p2, e1, e2]
    generalize (-x0) % x1 = m at *
    generalize (-x0) / x1 = q at *
    rw [wid (x := 2 * -m) (by omega), wid (x := -q) (by omega), wid (x := 0 - x1) (by omega), wid (x := -q + 1) (by omega), wid (x := -q - 1) (by omega)]
    simp only [decide_eq_true_eq, hn, if_true, Bool.not_true, Bool.false_eq_true, if_false, true_and]
    by_cases hm : 2 * m ≥ x1
    · rw [if_neg (by omega), if_pos (by omega), if_pos hm, wid (by omega)]; omega
    · rw [if_neg (by omega), if_neg (by omega), if_neg hm, wid (by omega)]; omega
  · have e1 : x0.tmod x1 = x0 % x1 := Int.tmod_eq_emod_of_nonneg (by omega)
    have m0 := Int.emod_nonneg x0 (show x1 ≠ 0 by omega)
    have m1 := Int.emod_lt_of_pos x0 (show 0 < x1 by omega)
    unfold ref04_Round_ok ref04_Round_0 fraction_Round_0
    rw [valid_same, h, hz, e1, wid (x := 2 * (x0 % x1)) (by omega), wid (x := 0 - x1) (by omega)]
    simp only [decide_eq_true_eq, hn, if_false, Bool.not_true, Bool.false_eq_true, true_and]
    by_cases hm : 2 * (x0 % x1) ≥ x1
    · rw [if_pos hm, if_pos hm]
    · rw [if_neg hm, if_neg hm, if_neg (by omega)]
end Go.Proofs.YtfpcmckachpnpaaDoor.Vx
