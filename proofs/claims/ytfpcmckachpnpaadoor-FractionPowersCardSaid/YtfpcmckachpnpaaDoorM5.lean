/- Products and powers of fractions. -/
import Derived.Test.YtfpcmckachpnpaaDoorT5
import Derived.Test.YtfpcmckachpnpaaDoorM3
namespace Go.Proofs.YtfpcmckachpnpaaDoor.Vx
open Go Go.RowKit
set_option linter.unusedVariables false
/-- Two fractions in lowest terms: what their product shares. -/
theorem cross {n1 d1 n2 d2 : Nat} (h1 : Nat.gcd n1 d1 = 1) (h2 : Nat.gcd n2 d2 = 1) (p1 : 0 < d1) (p2 : 0 < d2) :
    ∃ f s a b c e : Nat, f = Nat.gcd n1 d2 ∧ s = Nat.gcd n2 d1 ∧ 0 < f ∧ 0 < s ∧ n1 = f * a ∧ d2 = f * b ∧ n2 = s * c ∧ d1 = s * e ∧ 0 < b ∧ 0 < e ∧ Nat.gcd (a * c) (e * b) = 1 ∧ Nat.gcd (d1 * d2) (n1 * n2) = f * s := by
  obtain ⟨a, ha⟩ := Nat.gcd_dvd_left n1 d2
  obtain ⟨b, hb⟩ := Nat.gcd_dvd_right n1 d2
  obtain ⟨c, hc⟩ := Nat.gcd_dvd_left n2 d1
  obtain ⟨e, he⟩ := Nat.gcd_dvd_right n2 d1
  have hf : 0 < Nat.gcd n1 d2 := Nat.gcd_pos_of_pos_right _ p2
  have hs : 0 < Nat.gcd n2 d1 := Nat.gcd_pos_of_pos_right _ p1
  have cab : Nat.gcd a b = 1 := by
    have := Nat.gcd_mul_left (Nat.gcd n1 d2) a b
    rw [← ha, ← hb] at this
    exact Nat.eq_of_mul_eq_mul_left hf (by rw [← this, Nat.mul_one])
  have cce : Nat.gcd c e = 1 := by
    have := Nat.gcd_mul_left (Nat.gcd n2 d1) c e
    rw [← hc, ← he] at this
    exact Nat.eq_of_mul_eq_mul_left hs (by rw [← this, Nat.mul_one])
  have one : ∀ {x y u v : Nat}, Nat.gcd u v = 1 → x ∣ u → y ∣ v → Nat.gcd x y = 1 := fun {x y u v} h hx hy => Nat.eq_one_of_dvd_one (h ▸ Nat.dvd_gcd (Nat.dvd_trans (Nat.gcd_dvd_left x y) hx) (Nat.dvd_trans (Nat.gcd_dvd_right x y) hy))
  have cae : Nat.gcd a e = 1 := one h1 ⟨_, ha.trans (Nat.mul_comm _ _)⟩ ⟨_, he.trans (Nat.mul_comm _ _)⟩
  have ccb : Nat.gcd c b = 1 := one h2 ⟨_, hc.trans (Nat.mul_comm _ _)⟩ ⟨_, hb.trans (Nat.mul_comm _ _)⟩
  have hac : Nat.gcd (a * c) (e * b) = 1 := by
    have k1 : Nat.Coprime (a * c) e := Nat.Coprime.mul_left cae cce
    have k2 : Nat.Coprime (a * c) b := Nat.Coprime.mul_left cab ccb
    exact Nat.Coprime.mul_right k1 k2
  refine ⟨_, _, a, b, c, e, rfl, rfl, hf, hs, ha, hb, hc, he, ?_, ?_, hac, ?_⟩
  · rcases Nat.eq_zero_or_pos b with h | h
    · subst h; rw [Nat.mul_zero] at hb; omega
    · exact h
  · rcases Nat.eq_zero_or_pos e with h | h
    · subst h; rw [Nat.mul_zero] at he; omega
    · exact h
  · have e1 : d1 * d2 = (Nat.gcd n1 d2 * Nat.gcd n2 d1) * (e * b) := by
      conv => lhs; rw [he, hb]
      simp only [Nat.mul_assoc, Nat.mul_comm, Nat.mul_left_comm]
    have e2 : n1 * n2 = (Nat.gcd n1 d2 * Nat.gcd n2 d1) * (a * c) := by
      conv => lhs; rw [ha, hc]
      simp only [Nat.mul_assoc, Nat.mul_comm, Nat.mul_left_comm]
    rw [e1, e2, Nat.gcd_mul_left, Nat.gcd_comm (e * b), hac, Nat.mul_one]
theorem valid_facts {n d : Int} (h : ref04_Valid_0 n d = true) : 1 ≤ d ∧ d < 1000000000000000000 ∧ -1000000000000000000 < n ∧ n < 1000000000000000000 ∧ Nat.gcd n.natAbs d.natAbs = 1 := by
  unfold ref04_Valid_0 at h
  by_cases h1 : d ≥ 1
  · by_cases h2 : d < 1000000000000000000
    · by_cases h3 : n > -1000000000000000000
      · by_cases h4 : n < 1000000000000000000
        · rw [decide_eq_true h1, decide_eq_true h2, decide_eq_true h3, decide_eq_true h4] at h
          have hd : IntKind.u64.wrap d = (d.natAbs : Int) := by rw [IntKind.wrap_u64]; omega
          rw [size_in64 (by omega), hd, gcdA_eq] at h
          by_cases hg : ((Nat.gcd n.natAbs d.natAbs : Nat) : Int) = 1
          · exact ⟨h1, h2, h3, h4, by omega⟩
          · rw [show (((Nat.gcd n.natAbs d.natAbs : Nat) : Int) == 1) = false from beq_eq_false_iff_ne.2 hg] at h
            cases h
        · rw [decide_eq_false h4] at h; revert h; cases decide (d ≥ 1) <;> cases decide (d < 1000000000000000000) <;> cases decide (n > -1000000000000000000) <;> (intro h; cases h)
      · rw [decide_eq_false h3] at h; revert h; cases decide (d ≥ 1) <;> cases decide (d < 1000000000000000000) <;> (intro h; cases h)
    · rw [decide_eq_false h2] at h; revert h; cases decide (d ≥ 1) <;> (intro h; cases h)
  · rw [decide_eq_false h1] at h; cases h
theorem bigB_gen {x y : Int} (hx : 0 ≤ x) (hy : 0 ≤ y) : bigB (x / 18446744073709551616) (x % 18446744073709551616) (y / 18446744073709551616) (y % 18446744073709551616) = decide (x ≥ 1000000000000000000 ∨ y ≥ 1000000000000000000) := by
  unfold bigB
  rw [cw63, cw63]
  by_cases h1 : x ≥ 1000000000000000000
  · rw [decide_eq_false (show ¬ (x / 18446744073709551616 < 0 ∨ x / 18446744073709551616 = 0 ∧ x % 18446744073709551616 < 1000000000000000000) by omega), decide_eq_true (Or.inl h1)]; rfl
  · rw [decide_eq_true (show (x / 18446744073709551616 < 0 ∨ x / 18446744073709551616 = 0 ∧ x % 18446744073709551616 < 1000000000000000000) by omega)]
    by_cases h2 : y ≥ 1000000000000000000
    · rw [decide_eq_false (show ¬ (y / 18446744073709551616 < 0 ∨ y / 18446744073709551616 = 0 ∧ y % 18446744073709551616 < 1000000000000000000) by omega), decide_eq_true (Or.inr h2)]; rfl
    · rw [decide_eq_true (show (y / 18446744073709551616 < 0 ∨ y / 18446744073709551616 = 0 ∧ y % 18446744073709551616 < 1000000000000000000) by omega), decide_eq_false (by omega)]; rfl
theorem bigL_gen {x y : Int} (hx : 0 ≤ x) (hy : 0 ≤ y) : bigL x y = decide (x ≥ 1000000000000000000 ∨ y ≥ 1000000000000000000) := by
  unfold bigL
  by_cases h1 : x / 18446744073709551616 > 0
  · rw [decide_eq_true h1, decide_eq_true (Or.inl (by omega))]; rfl
  · rw [decide_eq_false h1]
    by_cases h2 : x % 18446744073709551616 ≥ 1000000000000000000
    · rw [decide_eq_true h2, decide_eq_true (Or.inl (by omega))]; rfl
    · rw [decide_eq_false h2]
      by_cases h3 : y / 18446744073709551616 > 0
      · rw [decide_eq_true h3, decide_eq_true (Or.inr (by omega))]; rfl
      · rw [decide_eq_false h3]
        by_cases h4 : y % 18446744073709551616 ≥ 1000000000000000000
        · rw [decide_eq_true h4, decide_eq_true (Or.inr (by omega))]; rfl
        · rw [decide_eq_false h4, decide_eq_false (by omega)]; rfl
theorem w128_parts (x : Int) : w128 (x / 18446744073709551616) (x % 18446744073709551616) = x := by unfold w128; omega
/-- The product of two fractions in lowest terms. -/
theorem prod_same {x0 x1 x2 x3 : Int} (ha : ref04_Valid_0 x0 x1 = true) (hb : ref04_Valid_0 x2 x3 = true) :
    fraction_product_ok x0 x1 x2 x3 = true ∧ ref04_Mul_ok x0 x1 x2 x3 = true ∧ fraction_product_0 x0 x1 x2 x3 = ref04_Mul_0 x0 x1 x2 x3 ∧ fraction_product_1 x0 x1 x2 x3 = ref04_Mul_1 x0 x1 x2 x3 ∧ fraction_product_2 x0 x1 x2 x3 = ref04_Mul_2 x0 x1 x2 x3 ∧
      (fraction_product_2 x0 x1 x2 x3 = 0 → ref04_Valid_0 (fraction_product_0 x0 x1 x2 x3) (fraction_product_1 x0 x1 x2 x3) = true) := by
  obtain ⟨a1, a2, a3, a4, a5⟩ := valid_facts ha
  obtain ⟨b1, b2, b3, b4, b5⟩ := valid_facts hb
  obtain ⟨f, s, a, b, c, e, hf, hs, pf, ps, e1, e2, e3, e4, pb, pe, hg, hG⟩ := cross a5 b5 (by omega) (by omega)
  have s0 : ref04_size_0 x0 = (x0.natAbs : Int) := size_in64 (by omega)
  have s1 : ref04_size_0 x1 = (x1.natAbs : Int) := size_in64 (by omega)
  have s2 : ref04_size_0 x2 = (x2.natAbs : Int) := size_in64 (by omega)
  have s3 : ref04_size_0 x3 = (x3.natAbs : Int) := size_in64 (by omega)
  have dq : ∀ a g : Nat, (a : Int).tdiv (g : Int) = ((a / g : Nat) : Int) := fun _ _ => rfl
  have fne : ((f : Int) == 0) = false := by rw [beq_eq_false_iff_ne]; omega
  have sne : ((s : Int) == 0) = false := by rw [beq_eq_false_iff_ne]; omega
  have q0 : x0.natAbs / f = a := by rw [e1]; exact Nat.mul_div_cancel_left _ pf
  have q3 : x3.natAbs / f = b := by rw [e2]; exact Nat.mul_div_cancel_left _ pf
  have q2 : x2.natAbs / s = c := by rw [e3]; exact Nat.mul_div_cancel_left _ ps
  have q1 : x1.natAbs / s = e := by rw [e4]; exact Nat.mul_div_cancel_left _ ps
  have la : a ≤ x0.natAbs := q0 ▸ Nat.div_le_self _ _
  have lb : b ≤ x3.natAbs := q3 ▸ Nat.div_le_self _ _
  have lc : c ≤ x2.natAbs := q2 ▸ Nat.div_le_self _ _
  have le : e ≤ x1.natAbs := q1 ▸ Nat.div_le_self _ _
  have wr : ∀ k : Nat, k < 18446744073709551616 → IntKind.u64.wrap (k : Int) = k := fun k h => by rw [IntKind.wrap_u64]; omega
  have iU : ∀ k : Nat, k < 18446744073709551616 → inU (k : Int) = true := fun k h => inU_of (by omega) (by omega)
  have g1 : gcdA (x0.natAbs : Int) (x3.natAbs : Int) = (f : Int) := by rw [gcdA_eq, ← hf]
  have g2 : gcdA (x2.natAbs : Int) (x1.natAbs : Int) = (s : Int) := by rw [gcdA_eq, ← hs]
  have nn : (x0.natAbs : Int) * (x2.natAbs : Int) = ((x0.natAbs * x2.natAbs : Nat) : Int) := by push_cast; rfl
  have dd : (x1.natAbs : Int) * (x3.natAbs : Int) = ((x1.natAbs * x3.natAbs : Nat) : Int) := by push_cast; rfl
  have bn : x0.natAbs * x2.natAbs < 1000000000000000000 * 1000000000000000000 := Nat.mul_lt_mul'' (by omega) (by omega)
  have bd : x1.natAbs * x3.natAbs < 1000000000000000000 * 1000000000000000000 := Nat.mul_lt_mul'' (by omega) (by omega)
  have dpos : 0 < x1.natAbs * x3.natAbs := Nat.mul_pos (by omega) (by omega)
  have qn : x0.natAbs * x2.natAbs / (f * s) = a * c := by
    rw [e1, e3, show f * a * (s * c) = (f * s) * (a * c) by simp only [Nat.mul_assoc, Nat.mul_left_comm]]
    exact Nat.mul_div_cancel_left _ (Nat.mul_pos pf ps)
  have qd : x1.natAbs * x3.natAbs / (f * s) = e * b := by
    rw [e4, e2, show s * e * (f * b) = (f * s) * (e * b) by simp only [Nat.mul_comm, Nat.mul_left_comm]]
    exact Nat.mul_div_cancel_left _ (Nat.mul_pos pf ps)
  have hgW : gW (((x1.natAbs * x3.natAbs : Nat) : Int) / 18446744073709551616) (((x1.natAbs * x3.natAbs : Nat) : Int) % 18446744073709551616) (((x0.natAbs * x2.natAbs : Nat) : Int) / 18446744073709551616) (((x0.natAbs * x2.natAbs : Nat) : Int) % 18446744073709551616) = ((f * s : Nat) : Int) := by
    unfold gW
    rw [w128_parts, w128_parts, Int.toNat_natCast, Int.toNat_natCast, hG]
  have eq : ∀ a g : Nat, (a : Int) / (g : Int) = ((a / g : Nat) : Int) := fun _ _ => rfl
  have ac : (a : Int) * (c : Int) = ((a * c : Nat) : Int) := by push_cast; rfl
  have eb : (e : Int) * (b : Int) = ((e * b : Nat) : Int) := by push_cast; rfl
  unfold fraction_product_ok ref04_Mul_ok fraction_product_0 fraction_product_1 fraction_product_2 ref04_Mul_0 ref04_Mul_1 ref04_Mul_2 fraction_times_ok fraction_times_0 fraction_times_1 ref04_times_0 ref04_times_1 ref04_times_2
  rw [size_same, size_same, size_same, size_same, s0, s1, s2, s3, g1, g2, fne, sne, dq, dq, dq, dq, q0, q1, q2, q3, wr a (by omega), wr b (by omega), wr c (by omega), wr e (by omega), iU a (by omega), iU b (by omega), iU c (by omega), iU e (by omega), nn, dd, hgW, w128_parts, w128_parts, eq, eq, qn, qd, ac, eb]
  have pe2 : 0 < e * b := Nat.mul_pos pe pb
  unfold bounded_0 bounded_1 bounded_2 lowest_0 lowest_1 lowest_2
  rw [bigB_gen (by omega) (by omega), bigL_gen (by omega) (by omega)]
  refine ⟨rfl, ?_, rfl, rfl, rfl, ?_⟩
  · rw [inU_of (by omega) (by omega), inU_of (by omega) (by omega), inU_of (by omega) (by omega), inU_of (by omega) (by omega), decide_eq_true (show (((x1.natAbs * x3.natAbs : Nat) : Int)) > 0 by omega)]
    rfl
  · by_cases hb : ((a * c : Nat) : Int) ≥ 1000000000000000000 ∨ ((e * b : Nat) : Int) ≥ 1000000000000000000
    · rw [decide_eq_true hb]
      intro h; cases h
    · rw [decide_eq_false hb]
      intro _
      simp only [Bool.false_eq_true, if_false]
      generalize a * c = n at *
      generalize e * b = d at *
      rw [show (n : Int) % 18446744073709551616 = n by omega, show (d : Int) % 18446744073709551616 = d by omega]
      have en : IntKind.i64.wrap (n : Int) = n := wid (by omega)
      have ed : IntKind.i64.wrap (d : Int) = d := wid (by omega)
      rw [en, ed, wid (show -9223372036854775808 ≤ 0 - (n : Int) ∧ 0 - (n : Int) ≤ 9223372036854775807 by omega)]
      split
      · refine valid_of (by omega) (by omega) (by omega) (by omega) ?_
        rw [show (0 - (n : Int)).natAbs = n by omega, Int.natAbs_natCast]; exact hg
      · refine valid_of (by omega) (by omega) (by omega) (by omega) ?_
        rw [Int.natAbs_natCast, Int.natAbs_natCast]; exact hg

/-- Both loops go the same way. -/
theorem power_loops {x0 x1 n : Int} (ha : ref04_Valid_0 x0 x1 = true) (hn : n ≤ 64) : ∀ (k : Nat) (i u v : Int), 0 ≤ i → i ≤ n → n - i ≤ k → ref04_Valid_0 u v = true →
    ∃ j p q : Int, lgo (nx25_5 n x0 x1 0 0) k (S25_5.mk i u v) = S25_5.mk j p q ∧ lgo (nx26_3 n x0 x1 0 0) k (S26_3.mk i u v) = S26_3.mk j p q ∧ ref04_Valid_0 p q = true ∧ (j < n → (fraction_product_2 p q x0 x1 != 0) = true) ∧ j ≤ n := by
  intro k
  induction k with
  | zero =>
    intro i u v h0 h1 h2 hv
    exact ⟨i, u, v, rfl, rfl, hv, fun h => by omega, h1⟩
  | succ k ih =>
    intro i u v h0 h1 h2 hv
    obtain ⟨e1, e2, e3, e4, e5, e6⟩ := prod_same hv ha
    by_cases hi : i < n
    · cases hp : (fraction_product_2 u v x0 x1 != 0) with
      | true =>
        have n1 : nx25_5 n x0 x1 0 0 (S25_5.mk i u v) = none := by
          unfold nx25_5
          simp only [decide_eq_true hi, if_true, e1, hp]
        have n2 : nx26_3 n x0 x1 0 0 (S26_3.mk i u v) = none := by
          unfold nx26_3
          simp only [decide_eq_true hi, if_true, e2, ← e5, hp]
        exact ⟨i, u, v, lgo_none n1, lgo_none n2, hv, fun _ => hp, h1⟩
      | false =>
        have n1 : nx25_5 n x0 x1 0 0 (S25_5.mk i u v) = some (S25_5.mk (i + 1) (fraction_product_0 u v x0 x1) (fraction_product_1 u v x0 x1)) := by
          unfold nx25_5
          simp only [decide_eq_true hi, if_true, e1, hp, Bool.false_eq_true, if_false, wid (show -9223372036854775808 ≤ i + 1 ∧ i + 1 ≤ 9223372036854775807 by omega)]
        have n2 : nx26_3 n x0 x1 0 0 (S26_3.mk i u v) = some (S26_3.mk (i + 1) (fraction_product_0 u v x0 x1) (fraction_product_1 u v x0 x1)) := by
          unfold nx26_3
          simp only [decide_eq_true hi, if_true, e2, ← e5, ← e3, ← e4, hp, Bool.false_eq_true, if_false, wid (show -9223372036854775808 ≤ i + 1 ∧ i + 1 ≤ 9223372036854775807 by omega)]
        rw [lgo_some n1, lgo_some n2]
        exact ih (i + 1) _ _ (by omega) (by omega) (by omega) (e6 (by simpa using hp))
    · have n1 : nx25_5 n x0 x1 0 0 (S25_5.mk i u v) = none := by
        unfold nx25_5
        simp only [decide_eq_false hi, Bool.false_eq_true, if_false]
      have n2 : nx26_3 n x0 x1 0 0 (S26_3.mk i u v) = none := by
        unfold nx26_3
        simp only [decide_eq_false hi, Bool.false_eq_true, if_false]
      exact ⟨i, u, v, lgo_none n1, lgo_none n2, hv, fun h => absurd h hi, h1⟩
theorem valid_one : ref04_Valid_0 1 1 = true := valid_of (by omega) (by omega) (by omega) (by omega) rfl
theorem powers_true (x0 x1 n : Int) : law04_FractionPowers_ok x0 x1 n = true ∧ law04_FractionPowers_0 x0 x1 n = true := by
  unfold law04_FractionPowers_ok law04_FractionPowers_0 fraction_Power_ok fraction_Power_0 fraction_Power_1 fraction_Power_2 ref04_Power_ok ref04_Power_0 ref04_Power_1 ref04_Power_2
  rw [valid_same]
  by_cases hb : (bif bif !ref04_Valid_0 x0 x1 then Bool.true else Decidable.decide (n < (0 : Int)) then Bool.true else Decidable.decide (n > (64 : Int))) = true
  · simp only [hb, if_true]
    exact ⟨trivial, rfl⟩
  · have hv : ref04_Valid_0 x0 x1 = true := by
      cases h : ref04_Valid_0 x0 x1 with
      | true => rfl
      | false => rw [h] at hb; exact absurd rfl hb
    have h0 : 0 ≤ n := by
      by_cases h : n < 0
      · rw [hv, decide_eq_true h] at hb; exact absurd rfl hb
      · omega
    have h64 : n ≤ 64 := by
      by_cases h : n > 64
      · rw [hv, decide_eq_true h, decide_eq_false (show ¬ n < 0 by omega)] at hb; exact absurd rfl hb
      · omega
    simp only [hb]
    obtain ⟨j, p, q, l1, l2, hpq, hne, hle⟩ := power_loops hv h64 (n - 0).toNat 0 1 1 (Int.le_refl _) h0 (by omega) valid_one
    have f1 : fin25_5 n x0 x1 0 0 (S25_5.mk 0 1 1) = S25_5.mk j p q := l1
    have f2 : fin26_3 n x0 x1 0 0 (S26_3.mk 0 1 1) = S26_3.mk j p q := l2
    rw [f1, f2]
    simp only
    obtain ⟨e1, e2, e3, e4, e5, e6⟩ := prod_same hpq hv
    by_cases hj : j < n
    · have h1 := hne hj
      have h2 : (ref04_Mul_2 p q x0 x1 != 0) = true := by rw [← e5]; exact h1
      simp [hj, e1, e2, h1, h2, e5]
    · simp [hj]
/-- The statement's own function answers true at all inputs. -/
theorem fractionPowers_any (x0 x1 x2 : Int) (w : World) (hgl : GlobOk w) : Calls Go.Proofs.Tryd.prog 5 #[.agg #[.int .i64 x0, .int .i64 x1], .int .i64 x2] w fun e w' => e = .returned (.bool true) ∧ Below w.heap.size w w' := by
  have h := tree5_res x0 x1 x2
  obtain ⟨h1, h2⟩ := powers_true x0 x1 x2
  rw [h1, h2, if_pos rfl] at h
  exact fn_true mixed tab48_ok (L := 300) rfl (by rw [tree5_eq]; exact h) w hgl
end Go.Proofs.YtfpcmckachpnpaaDoor.Vx
