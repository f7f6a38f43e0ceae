/- Plain facts on the greatest common divisor of three numbers. -/
import Derived.WalkKit
namespace Go.Proofs.Ytklkkehhmmipeaa

theorem gcd_step (a b : Int) : Int.gcd b (a.tmod b) = Int.gcd a b := by
  unfold Int.gcd
  rw [Int.natAbs_tmod, Nat.gcd_comm a.natAbs, Nat.gcd_rec b.natAbs a.natAbs, Nat.gcd_comm]
theorem tmod_less (a b : Int) (h : b ≠ 0) : (a.tmod b).natAbs < b.natAbs := by
  rw [Int.natAbs_tmod]; exact Nat.mod_lt _ (by omega)
theorem gcd_end (a : Int) : (Int.gcd a 0 : Int) = max a (-a) := by rw [Int.gcd_zero_right]; omega
theorem gcd_abs_left (a b : Int) : Int.gcd (a.natAbs : Int) b = Int.gcd a b := by simp [Int.gcd]
theorem gcd_abs_right (a b : Int) : Int.gcd a (b.natAbs : Int) = Int.gcd a b := by simp [Int.gcd]
theorem gcd_zero_one (a : Int) : (Int.gcd 0 a : Int) = a.natAbs := by simp [Int.gcd]
theorem gcd_le {a b : Int} {M : Nat} (ha : a.natAbs ≤ M) (hb : b.natAbs ≤ M) : Int.gcd a b ≤ M := by
  unfold Int.gcd
  by_cases h : a.natAbs = 0
  · rw [h, Nat.gcd_zero_left]; exact hb
  · exact Nat.le_trans (Nat.gcd_le_left _ (by omega)) ha

/-- The greatest common divisor of three numbers. -/
def gcd3 (x y z : Int) : Int := (Int.gcd (Int.gcd x y) z : Int)
theorem gcd3_nonneg (x y z : Int) : 0 ≤ gcd3 x y z := by unfold gcd3; omega
theorem gcd3_pos {x y z : Int} (h : ¬ (x = 0 ∧ y = 0 ∧ z = 0)) : 1 ≤ gcd3 x y z := by
  unfold gcd3
  have : Int.gcd (Int.gcd x y) z ≠ 0 := by
    intro e
    rw [Int.gcd_eq_zero_iff] at e
    have e1 : Int.gcd x y = 0 := by omega
    rw [Int.gcd_eq_zero_iff] at e1
    exact h ⟨e1.1, e1.2, e.2⟩
  omega
theorem gcd3_le {x y z M : Int} (hx : -M ≤ x ∧ x ≤ M) (hy : -M ≤ y ∧ y ≤ M) (hz : -M ≤ z ∧ z ≤ M) : gcd3 x y z ≤ M := by
  unfold gcd3
  have h1 := gcd_le (M := M.natAbs) (show x.natAbs ≤ M.natAbs by omega) (show y.natAbs ≤ M.natAbs by omega)
  have h2 := gcd_le (M := M.natAbs) (show ((Int.gcd x y : Nat) : Int).natAbs ≤ M.natAbs by omega) (show z.natAbs ≤ M.natAbs by omega)
  omega
theorem gcd3_zero : gcd3 0 0 0 = 0 := by decide
theorem gcd3_dvd (x y z : Int) : gcd3 x y z ∣ x ∧ gcd3 x y z ∣ y ∧ gcd3 x y z ∣ z := by
  unfold gcd3
  have h1 : ((Int.gcd (Int.gcd x y) z : Nat) : Int) ∣ (Int.gcd x y : Int) := Int.gcd_dvd_left ..
  exact ⟨Int.dvd_trans h1 (Int.gcd_dvd_left ..), Int.dvd_trans h1 (Int.gcd_dvd_right ..), Int.gcd_dvd_right ..⟩
theorem tdiv_back {k x : Int} (h : k ∣ x) : k * x.tdiv k = x := Int.mul_tdiv_cancel' h
theorem gcd3_neg (x y z : Int) : gcd3 (-x) (-y) (-z) = gcd3 x y z := by simp [gcd3]
theorem gcd3_mul (k x y z : Int) (hk : 0 ≤ k) : gcd3 (k * x) (k * y) (k * z) = k * gcd3 x y z := by
  unfold gcd3
  rw [Int.gcd_mul_left]
  have e : ((k.natAbs * Int.gcd x y : Nat) : Int) = k * (Int.gcd x y : Int) := by rw [Int.natCast_mul]; congr 1; omega
  rw [e, Int.gcd_mul_left, Int.natCast_mul]; congr 1; omega
theorem gcd3_own {x y z : Int} (h : ¬ (x = 0 ∧ y = 0 ∧ z = 0)) : gcd3 (x.tdiv (gcd3 x y z)) (y.tdiv (gcd3 x y z)) (z.tdiv (gcd3 x y z)) = 1 := by
  obtain ⟨d1, d2, d3⟩ := gcd3_dvd x y z
  have e1 := tdiv_back d1
  have e2 := tdiv_back d2
  have e3 := tdiv_back d3
  have hp := gcd3_pos h
  generalize hk : gcd3 x y z = k at *
  have e := gcd3_mul k (x.tdiv k) (y.tdiv k) (z.tdiv k) (by omega)
  rw [e1, e2, e3, hk] at e
  have : k * gcd3 (x.tdiv k) (y.tdiv k) (z.tdiv k) = k * 1 := by rw [Int.mul_one]; exact e.symm
  exact Int.eq_of_mul_eq_mul_left (by omega) this
theorem tdiv_bd {x k M : Int} (h : -M ≤ x ∧ x ≤ M) : -M ≤ x.tdiv k ∧ x.tdiv k ≤ M := by
  have h1 : (x.tdiv k).natAbs ≤ x.natAbs := by rw [Int.natAbs_tdiv]; exact Nat.div_le_self _ _
  omega
theorem tdiv_zero_of {x y z : Int} (h : ¬ (x = 0 ∧ y = 0 ∧ z = 0)) : ¬ (x.tdiv (gcd3 x y z) = 0 ∧ y.tdiv (gcd3 x y z) = 0 ∧ z.tdiv (gcd3 x y z) = 0) := by
  intro ⟨a, b, c⟩
  obtain ⟨d1, d2, d3⟩ := gcd3_dvd x y z
  have e1 := tdiv_back d1
  have e2 := tdiv_back d2
  have e3 := tdiv_back d3
  rw [a, Int.mul_zero] at e1; rw [b, Int.mul_zero] at e2; rw [c, Int.mul_zero] at e3
  exact h ⟨e1.symm, e2.symm, e3.symm⟩
theorem tdiv_one' (x : Int) : x.tdiv 1 = x := Int.tdiv_one x
theorem neg_tdiv' (x k : Int) : (-x).tdiv k = -(x.tdiv k) := Int.neg_tdiv ..
end Go.Proofs.Ytklkkehhmmipeaa
