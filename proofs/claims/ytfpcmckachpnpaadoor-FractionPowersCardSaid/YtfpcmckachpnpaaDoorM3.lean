/- A fraction is made as it should be. -/
import Derived.Test.YtfpcmckachpnpaaDoorD7
import Derived.Test.YtfpcmckachpnpaaDoorM
import Derived.IntWalk
namespace Go.Proofs.YtfpcmckachpnpaaDoor.Vx
open Go Go.RowKit
set_option linter.unusedVariables false
theorem euclid_gcd : ∀ (k a b : Nat), b < k → euclid k (a : Int) (b : Int) = ((Nat.gcd a b : Nat) : Int) := by
  intro k
  induction k with
  | zero => intro a b h; exact absurd h (Nat.not_lt_zero _)
  | succ k ih =>
    intro a b h
    show (if (b : Int) = 0 then (a : Int) else euclid k (b : Int) ((a : Int).tmod (b : Int))) = _
    by_cases hb : b = 0
    · subst hb; rw [if_pos (show ((0 : Nat) : Int) = 0 from rfl), Nat.gcd_zero_right]
    · rw [if_neg (by omega)]
      have h1 := Nat.mod_lt a (Nat.pos_of_ne_zero hb)
      show euclid k (b : Int) ((a % b : Nat) : Int) = _
      rw [ih b (a % b) (by omega), Nat.gcd_comm a b, Nat.gcd_rec b a, Nat.gcd_comm]
theorem gcdA_eq (a b : Nat) : gcdA (a : Int) (b : Int) = ((Nat.gcd a b : Nat) : Int) := by
  unfold gcdA
  rw [Int.natAbs_natCast, euclid_gcd _ _ _ (Nat.lt_succ_self _)]
theorem size_in64 {x : Int} (h : -9223372036854775808 ≤ x ∧ x ≤ 9223372036854775807) : ref04_size_0 x = x.natAbs := by
  unfold ref04_size_0
  simp only [decide_eq_true_eq]
  split
  · rw [IntKind.wrap_u64, IntKind.wrap_u64]; omega
  · rw [IntKind.wrap_u64]; omega
theorem one_parts {x : Int} (h : -9223372036854775808 ≤ x ∧ x ≤ 9223372036854775807) : ref04_times_0 x 1 = 0 ∧ ref04_times_1 x 1 = x.natAbs ∧ ref04_times_2 x 1 = decide (x < 0) := by
  have h1 : ref04_size_0 1 = 1 := by rw [size_in64 (by omega)]; rfl
  unfold ref04_times_0 ref04_times_1 ref04_times_2
  rw [size_in64 h, h1, Int.mul_one]
  refine ⟨by omega, by omega, ?_⟩
  rw [show decide ((1 : Int) < 0) = false from rfl]
  cases decide (x < 0) <;> rfl
theorem cw63 (a b c d : Int) : lessB a b c d = decide (a < c ∨ a = c ∧ b < d) := by
  have cw : _fraction_wide_compare_0 a b c d = if a < c ∨ a = c ∧ b < d then -1 else if a = c ∧ b = d then 0 else 1 := by
    unfold _fraction_wide_compare_0 cmp_Compare_uint64__0
    simp only [bne_self_eq_false, Bool.false_eq_true, if_false, decide_eq_true_eq, bne_iff_ne, ne_eq]
    (repeat' split) <;> omega
  unfold lessB
  rw [cw]
  by_cases h : a < c ∨ a = c ∧ b < d
  · rw [if_pos h, decide_eq_true h]; rfl
  · rw [if_neg h, decide_eq_false h]; split <;> rfl
theorem big_same {n d : Int} (hn : 0 ≤ n ∧ n < 18446744073709551616) (hd : 0 ≤ d ∧ d < 18446744073709551616) : bigB 0 n 0 d = decide (n ≥ 1000000000000000000 ∨ d ≥ 1000000000000000000) ∧ bigL n d = decide (n ≥ 1000000000000000000 ∨ d ≥ 1000000000000000000) := by
  constructor
  · unfold bigB
    rw [cw63, cw63, eq_comm]
    by_cases h1 : n ≥ 1000000000000000000
    · rw [decide_eq_true (Or.inl h1), decide_eq_false (show ¬ ((0 : Int) < 0 ∨ (0 : Int) = 0 ∧ n < 1000000000000000000) by omega)]; rfl
    · rw [decide_eq_true (show ((0 : Int) < 0 ∨ (0 : Int) = 0 ∧ n < 1000000000000000000) by omega)]
      by_cases h2 : d ≥ 1000000000000000000
      · rw [decide_eq_true (Or.inr h2), decide_eq_false (show ¬ ((0 : Int) < 0 ∨ (0 : Int) = 0 ∧ d < 1000000000000000000) by omega)]; rfl
      · rw [decide_eq_false (show ¬ (n ≥ 1000000000000000000 ∨ d ≥ 1000000000000000000) by omega), decide_eq_true (show ((0 : Int) < 0 ∨ (0 : Int) = 0 ∧ d < 1000000000000000000) by omega)]; rfl
  · unfold bigL
    rw [show n / 18446744073709551616 = 0 by omega, show d / 18446744073709551616 = 0 by omega, show n % 18446744073709551616 = n by omega, show d % 18446744073709551616 = d by omega, show decide ((0 : Int) > 0) = false from rfl, cond_false]
    by_cases h1 : n ≥ 1000000000000000000
    · rw [decide_eq_true h1, decide_eq_true (Or.inl h1)]; rfl
    · rw [decide_eq_false h1]
      by_cases h2 : d ≥ 1000000000000000000
      · rw [decide_eq_true h2, decide_eq_true (Or.inr h2)]; rfl
      · rw [decide_eq_false h2, decide_eq_false (show ¬ (n ≥ 1000000000000000000 ∨ d ≥ 1000000000000000000) by omega)]; rfl
theorem valid_of {n d : Int} (h1 : 1 ≤ d) (h2 : d < 1000000000000000000) (h3 : -1000000000000000000 < n) (h4 : n < 1000000000000000000) (hg : Nat.gcd n.natAbs d.natAbs = 1) : ref04_Valid_0 n d = true := by
  unfold ref04_Valid_0
  rw [decide_eq_true (show d ≥ 1 by omega), decide_eq_true h2, decide_eq_true (show n > -1000000000000000000 by omega), decide_eq_true h4]
  have hd : IntKind.u64.wrap d = (d.natAbs : Int) := by rw [IntKind.wrap_u64]; omega
  rw [size_in64 (by omega), hd, gcdA_eq, hg]
  rfl
theorem new_true {x0 x1 : Int} (h0 : -9223372036854775808 ≤ x0 ∧ x0 ≤ 9223372036854775807) (h1 : -9223372036854775808 ≤ x1 ∧ x1 ≤ 9223372036854775807) :
    fraction_New_ok x0 x1 = true ∧ ref04_New_ok x0 x1 = true ∧ fraction_New_0 x0 x1 = ref04_New_0 x0 x1 ∧ fraction_New_1 x0 x1 = ref04_New_1 x0 x1 ∧ fraction_New_2 x0 x1 = ref04_New_2 x0 x1 ∧ (fraction_New_2 x0 x1 = 0 → ref04_Valid_0 (fraction_New_0 x0 x1) (fraction_New_1 x0 x1) = true) := by
  obtain ⟨p0, p1, p2⟩ := one_parts h0
  obtain ⟨q0, q1, q2⟩ := one_parts h1
  unfold fraction_New_ok ref04_New_ok fraction_New_0 fraction_New_1 fraction_New_2 ref04_New_0 ref04_New_1 ref04_New_2
  rw [size_same, size_same, size_in64 h0, size_in64 h1, p0, p1, p2, q0, q1, q2, gcdA_eq]
  by_cases hz : x1 = 0
  · subst hz
    simp
  · have hz' : (x1 == 0) = false := by rw [beq_eq_false_iff_ne]; exact hz
    rw [hz']
    simp only [Bool.false_eq_true, if_false]
    have hN : x0.natAbs < 18446744073709551616 := by omega
    have hD : x1.natAbs < 18446744073709551616 := by omega
    have hD0 : 0 < x1.natAbs := by omega
    have w0 : ∀ k : Nat, w128 0 (k : Int) = (k : Int) := fun k => by unfold w128; omega
    rw [w0, w0]
    unfold gW
    rw [w0, w0, Int.toNat_natCast, Int.toNat_natCast, Nat.gcd_comm x1.natAbs x0.natAbs]
    have gpos : 0 < Nat.gcd x0.natAbs x1.natAbs := Nat.gcd_pos_of_pos_right _ hD0
    have cop : Nat.gcd (x0.natAbs / Nat.gcd x0.natAbs x1.natAbs) (x1.natAbs / Nat.gcd x0.natAbs x1.natAbs) = 1 := by rw [Nat.gcd_div (Nat.gcd_dvd_left _ _) (Nat.gcd_dvd_right _ _), Nat.div_self gpos]
    have dpos : 0 < x1.natAbs / Nat.gcd x0.natAbs x1.natAbs := Nat.div_pos (Nat.le_of_dvd hD0 (Nat.gcd_dvd_right _ _)) gpos
    have nle : x0.natAbs / Nat.gcd x0.natAbs x1.natAbs ≤ x0.natAbs := Nat.div_le_self _ _
    have dle : x1.natAbs / Nat.gcd x0.natAbs x1.natAbs ≤ x1.natAbs := Nat.div_le_self _ _
    have gne : (((Nat.gcd x0.natAbs x1.natAbs : Nat) : Int) == 0) = false := by rw [beq_eq_false_iff_ne]; omega
    have dq : ∀ a g : Nat, (a : Int).tdiv (g : Int) = ((a / g : Nat) : Int) := fun _ _ => rfl
    have eq : ∀ a g : Nat, (a : Int) / (g : Int) = ((a / g : Nat) : Int) := fun _ _ => rfl
    rw [dq, dq, eq, eq, gne]
    generalize x0.natAbs / Nat.gcd x0.natAbs x1.natAbs = n at *
    generalize x1.natAbs / Nat.gcd x0.natAbs x1.natAbs = d at *
    have wn : IntKind.u64.wrap (n : Int) = n := by rw [IntKind.wrap_u64]; omega
    have wd : IntKind.u64.wrap (d : Int) = d := by rw [IntKind.wrap_u64]; omega
    rw [wn, wd]
    obtain ⟨b1, b2⟩ := big_same (n := (n : Int)) (d := (d : Int)) (by omega) (by omega)
    unfold bounded_0 bounded_1 bounded_2 lowest_0 lowest_1 lowest_2
    rw [b1, b2, show (n : Int) % 18446744073709551616 = n by omega, show (d : Int) % 18446744073709551616 = d by omega]
    have i0 : inU 0 = true := rfl
    have i1 : inU (x0.natAbs : Int) = true := inU_of (by omega) (by omega)
    have i2 : inU (x1.natAbs : Int) = true := inU_of (by omega) (by omega)
    rw [i0, i1, i2, decide_eq_true (show ((x1.natAbs : Nat) : Int) > 0 by omega)]
    refine ⟨rfl, rfl, rfl, rfl, rfl, ?_⟩
    by_cases hb : (n : Int) ≥ 1000000000000000000 ∨ (d : Int) ≥ 1000000000000000000
    · rw [decide_eq_true hb]
      intro h; cases h
    · rw [decide_eq_false hb]
      intro _
      simp only [Bool.false_eq_true, if_false]
      have en : IntKind.i64.wrap (n : Int) = n := wid (by omega)
      have ed : IntKind.i64.wrap (d : Int) = d := wid (by omega)
      rw [en, ed, wid (show -9223372036854775808 ≤ 0 - (n : Int) ∧ 0 - (n : Int) ≤ 9223372036854775807 by omega)]
      split
      · refine valid_of (by omega) (by omega) (by omega) (by omega) ?_
        rw [show (0 - (n : Int)).natAbs = n by omega, Int.natAbs_natCast]; exact cop
      · refine valid_of (by omega) (by omega) (by omega) (by omega) ?_
        rw [Int.natAbs_natCast, Int.natAbs_natCast]; exact cop
/-- The statement's own function answers true at all inputs. -/
theorem fractionNew_any {x0 x1 : Int} (h0 : -9223372036854775808 ≤ x0 ∧ x0 ≤ 9223372036854775807) (h1 : -9223372036854775808 ≤ x1 ∧ x1 ≤ 9223372036854775807) (x2 x3 : Int) (w : World) (hgl : GlobOk w) : Calls Go.Proofs.Tryd.prog 3 #[.int .i64 x0, .int .i64 x1, .agg #[.int .i64 x2, .int .i64 x3]] w fun e w' => e = .returned (.bool true) ∧ Below w.heap.size w w' := by
  have h := tree3_res x0 x1 x2 x3
  obtain ⟨e1, e2, e3, e4, e5, e6⟩ := new_true h0 h1
  have ok : law04_FractionNew_ok x0 x1 x2 x3 = true := by unfold law04_FractionNew_ok; rw [e1, e2]; rfl
  have val : law04_FractionNew_0 x0 x1 x2 x3 = true := by
    unfold law04_FractionNew_0
    rw [valid_same, valid_same]
    have c0 : (fraction_New_2 x0 x1 == ref04_New_2 x0 x1) = true := by rw [e5]; exact beq_self_eq_true _
    have c1 : (fraction_New_0 x0 x1 == ref04_New_0 x0 x1) = true := by rw [e3]; exact beq_self_eq_true _
    have c2 : (fraction_New_1 x0 x1 == ref04_New_1 x0 x1) = true := by rw [e4]; exact beq_self_eq_true _
    rw [c0, c1, c2]
    by_cases h2 : fraction_New_2 x0 x1 = 0
    · rw [e6 h2]
      simp [h2]
    · simp [h2]
  rw [ok, val, if_pos rfl] at h
  exact fn_true mixed tab43_ok (L := 300) rfl (by rw [tree3_eq]; exact h) w hgl
end Go.Proofs.YtfpcmckachpnpaaDoor.Vx
