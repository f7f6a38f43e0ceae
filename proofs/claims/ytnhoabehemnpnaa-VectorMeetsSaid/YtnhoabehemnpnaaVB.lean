/- Comparisons, divisors, and the small functions of the reference. -/
import Derived.Test.YtnhoabehemnpnaaVA
namespace Go.Proofs.Ytnhoabehemnpnaa
open Go.RowKit

theorem isNaN_any (x : Int) (w : World) : Calls Try.prog 56 #[.int .i64 x] w fun e w' => e = .returned (.bool false) ∧ w = w' := by
  go_enter Try.func56, Try.ntmps56
  go_wp2
  go_ret
  exact ⟨ret_bool (by simp), rfl⟩

theorem compare_any (x y : Int) (w : World) : Calls Try.prog 53 #[.int .i64 x, .int .i64 y] w fun e w' => e = .returned (.int .i64 (cmpI x y)) ∧ w = w' := by
  rcases cmpI_cases x y with ⟨h, e⟩ | ⟨h, e⟩ | ⟨h, e⟩
  all_goals
    rw [e]
    clear e
  · go_enter Try.func53, Try.ntmps53
    go_wp2_with (go_at_call 56; refine (isNaN_any _ _).mono ?_; rintro e w' ⟨rfl, rfl⟩)
    go_ret
    exact ⟨rfl, rfl⟩
  · subst h
    go_enter Try.func53, Try.ntmps53
    go_wp2_with (go_at_call 56; refine (isNaN_any _ _).mono ?_; rintro e w' ⟨rfl, rfl⟩)
    go_ret
    exact ⟨rfl, rfl⟩
  · go_enter Try.func53, Try.ntmps53
    go_wp2_with (go_at_call 56; refine (isNaN_any _ _).mono ?_; rintro e w' ⟨rfl, rfl⟩)
    go_ret
    exact ⟨rfl, rfl⟩

theorem divisor_any (a b : Int) (w : World) (ha : -1000000000 ≤ a) (ha' : a ≤ 1000000000) (hb : -1000000000 ≤ b) (hb' : b ≤ 1000000000) :
    Calls Try.prog 44 #[.int .i64 a, .int .i64 b] w fun e w' => e = .returned (.int .i64 (Int.gcd a b)) ∧ Below w.heap.size w w' := by
  go_enter Try.func44, Try.ntmps44
  go_wp2
  go_loopw [0, 1] (fun p q wr => ∃ x y : Int, p = .int .i64 x ∧ q = .int .i64 y ∧ -1000000000 ≤ x ∧ x ≤ 1000000000 ∧ -1000000000 ≤ y ∧ y ≤ 1000000000 ∧ Int.gcd x y = Int.gcd a b ∧ Below w.heap.size w wr) (fun _ q _ => (intOf q).natAbs)
  case atStart => exact ⟨a, b, rfl, rfl, ha, ha', hb, hb', rfl, Below.refl _ _⟩
  case round =>
    obtain ⟨x, y, rfl, rfl, h1, h2, h3, h4, hg, hbel⟩ := hrel
    have Hg := Lib.hid hg
    clear hg
    by_cases h0 : y = 0
    · subst h0
      go_wp2
      all_goals (go_ret; exact ⟨ret_int (by rw [← Hg.out, gcd_end]; omega), hbel⟩)
    · have hne : (y != 0) = true := by simp [h0]
      have hm := tmod_less x y h0
      have hle : -1000000000 ≤ x.tmod y ∧ x.tmod y ≤ 1000000000 := by omega
      have Hm := Lib.hid hm
      obtain ⟨l1, l2⟩ := hle
      clear hm
      go_wp2
      go_region
      go_wp2
      go_roundw
      case rel => exact ⟨y, x.tmod y, rfl, rfl, h3, h4, l1, l2, by rw [gcd_step]; exact Hg.out, hbel.drew⟩
      case measure => simp only [intOf]; exact Hm.out

theorem absolute_any (a : Int) (w : World) (ha : -1000000000 ≤ a) (ha' : a ≤ 1000000000) :
    Calls Try.prog 47 #[.int .i64 a] w fun e w' => e = .returned (.int .i64 a.natAbs) ∧ Below w.heap.size w w' := by
  go_enter Try.func47, Try.ntmps47
  go_wp2
  all_goals (go_ret; exact ⟨ret_int (by omega), Below.refl _ _⟩)

theorem refDivisor_any (a b : Int) (w : World) (ha : 0 ≤ a) (ha' : a ≤ 1000000000) (hb : 0 ≤ b) (hb' : b ≤ 1000000000) :
    Calls Try.prog 46 #[.int .i64 a, .int .i64 b] w fun e w' => e = .returned (.int .i64 (Int.gcd a b)) ∧ Below w.heap.size w w' := by
  go_enter Try.func46, Try.ntmps46
  go_wp2
  go_loopw [0, 1] (fun p q wr => ∃ x y : Int, p = .int .i64 x ∧ q = .int .i64 y ∧ 0 ≤ x ∧ x ≤ 1000000000 ∧ 0 ≤ y ∧ y ≤ 1000000000 ∧ Int.gcd x y = Int.gcd a b ∧ Below w.heap.size w wr) (fun _ q _ => (intOf q).natAbs)
  case atStart => exact ⟨a, b, rfl, rfl, ha, ha', hb, hb', rfl, Below.refl _ _⟩
  case round =>
    obtain ⟨x, y, rfl, rfl, h1, h2, h3, h4, hg, hbel⟩ := hrel
    have Hg := Lib.hid hg
    clear hg
    by_cases h0 : y = 0
    · subst h0
      go_wp2
      go_ret
      exact ⟨ret_int (by rw [← Hg.out, gcd_end]; omega), hbel⟩
    · have hpos : 0 < y := by omega
      have hm := tmod_less x y h0
      have hle : 0 ≤ x.tmod y ∧ x.tmod y ≤ 1000000000 := by have := Int.tmod_nonneg y h1; omega
      have Hs := Lib.hid (gcd_step x y)
      have e : x.tmod y = x % y := Int.tmod_eq_emod_of_nonneg h1
      rw [e] at hm hle Hs
      have Hm := Lib.hid hm
      obtain ⟨l1, l2⟩ := hle
      clear hm e
      go_wp2
      go_region
      go_wp2
      go_roundw
      case rel => exact ⟨y, x % y, rfl, rfl, h3, h4, l1, l2, by rw [Hs.out]; exact Hg.out, hbel.drew⟩
      case measure => simp only [intOf]; exact Hm.out

theorem in_any (x : Int) (w : World) : Calls Try.prog 38 #[.int .i64 x] w fun e w' => e = .returned (.bool (inB x)) ∧ w = w' := by
  go_enter Try.func38, Try.ntmps38
  go_wp2
  all_goals (go_ret; refine ⟨ret_bool ?_, rfl⟩; first | (simp [inB]; done) | (simp [inB]; omega))

/-- A point is in range. -/
def inP (x y : Int) : Bool := inB x && inB y

theorem refIn_any (x y z : Int) (w : World) : Calls Try.prog 16 #[v3 x y z] w fun e w' => e = .returned (.bool (inV x y z)) ∧ Below w.heap.size w w' := by
  unfold inV
  cases hx : inB x <;> cases hy : inB y <;> cases hz : inB z
  all_goals
    go_enter Try.func16, Try.ntmps16
    go_wp2_with (go_at_call 38; refine (in_any _ _).mono ?_; rintro e w' ⟨rfl, rfl⟩)
    go_ret
    exact ⟨rfl, by go_grown⟩

theorem refInPoint_any (x y : Int) (w : World) : Calls Try.prog 31 #[v2 x y] w fun e w' => e = .returned (.bool (inP x y)) ∧ Below w.heap.size w w' := by
  unfold inP
  cases hx : inB x <;> cases hy : inB y
  all_goals
    go_enter Try.func31, Try.ntmps31
    go_wp2_with (go_at_call 38; refine (in_any _ _).mono ?_; rintro e w' ⟨rfl, rfl⟩)
    go_ret
    exact ⟨rfl, by go_grown⟩
end Go.Proofs.Ytnhoabehemnpnaa
