/- checkLists of package span, and Same of the reference. -/
import Derived.Test.YtiebchfdbejfbaaConcat
import Derived.Test.YtiebchfdbejfbaaLists
namespace Go.Proofs.Ytiebchfdbejfbaa
open Go.RowKit

theorem checkLists_any (A : Option Addr) (n c : Nat) (Ls : List Lst) (w : World) (h : Lsts w w.heap.size A Ls) (hn : Ls.length = n) (hn2 : n ≤ 1000000) (hsz : (cat Ls).length ≤ 1000000000) (hall : ∀ l ∈ Ls, l.n ≤ 10000) :
    Calls Try.prog 47 #[.slice A n c] w fun e w' => e = .returned (.int .i64 (errAll (cat Ls))) ∧ Below w.heap.size w w' := by
  have Hn := Lib.hid hn
  have Hall := Lib.hid hall
  clear hn hall
  go_enter Try.func47, Try.ntmps47
  go_wp2
  go_loop [7] (fun i => ∃ k : Nat, k ≤ n ∧ i = .int .i64 k) (fun i => n - (intOf i).toNat)
  case atStart => exact ⟨0, Nat.zero_le _, rfl⟩
  case round =>
    obtain ⟨k, hk, rfl⟩ := hrel
    by_cases hlt : k < n
    · have hx : Ls[k]? = some (Ls[k]'(by have := Hn.out; omega)) := List.getElem?_eq_getElem _
      generalize Ls[k]'(by have := Hn.out; omega) = l at hx
      obtain ⟨b, off, rfl, hbB, hc1⟩ := h.1 k l hx
      have hle := Hall.out l (List.mem_of_getElem? hx)
      clear hx
      go_wp2
      go_round
      case rel => exact ⟨k + 1, by omega, by go_num⟩
      case measure => simp [intOf]; omega
    · go_wp2_with (first
        | (go_at_call 53; refine (concat_any A n c Ls w h Hn.out hn2 hsz).mono ?_; rintro e w1 ⟨v1, rfl, hown, hb⟩; obtain ⟨A1, c1, rfl, hi, hlt1⟩ := hown.form_n rfl)
        | (go_at_call 43; refine (checkAll_any _ _ _ (cat Ls) _ hi (by omega)).mono ?_; rintro e w2 ⟨rfl, hb2⟩))
      go_ret
      exact ⟨rfl, hb.trans (hb2.mono hb.size)⟩

theorem pair_eq {x y : Int × Int} : (x = y) = (x.1 = y.1 ∧ x.2 = y.2) := by
  cases x; cases y; simp
theorem same_next {xs ys : List (Int × Int)} {k : Nat} {x y : Int × Int} (h : xs.take k = ys.take k) (hx : xs[k]? = some x) (hy : ys[k]? = some y) (he : x = y) : xs.take (k + 1) = ys.take (k + 1) := by
  rw [take_next hx, take_next hy, h, he]

theorem same_any (A A' : Option Addr) (n c n' c' : Nat) (xs ys : List (Int × Int)) (w : World) (h : Ivs w w.heap.size A n xs) (h' : Ivs w w.heap.size A' n' ys) (hn : n ≤ 9000000000000000000) (hn' : n' ≤ 9000000000000000000) :
    Calls Try.prog 36 #[.slice A n c, .slice A' n' c'] w fun e w' => e = .returned (.bool (decide (xs = ys))) ∧ Below w.heap.size w w' := by
  have hl := h.len
  have hl' := h'.len
  by_cases hne : n = n'
  · subst hne
    go_enter Try.func36, Try.ntmps36
    go_wp2
    go_loopw [5] (fun i wr => ∃ k : Nat, k ≤ n ∧ i = .int .i64 k ∧ xs.take k = ys.take k ∧ Below w.heap.size w wr) (fun i _ => n - (intOf i).toNat)
    case atStart => exact ⟨0, Nat.zero_le _, rfl, rfl, Below.refl _ _⟩
    case round =>
      obtain ⟨k, hk, rfl, hsame, hbel⟩ := hrel
      have Hs := Lib.hid hsame
      clear hsame
      by_cases hlt : k < n
      · obtain ⟨b, off, lo, hi, rfl, hbB, hx, hc1, hc2⟩ := (h.below hbel).at_ hlt
        obtain ⟨b', off', lo', hi', rfl, hbB', hx', hc1', hc2'⟩ := (h'.below hbel).at_ hlt
        have hj0 : (0 : Int) ≤ (k : Int) := by omega
        have hj1 : (k : Int) < (n : Int) := by omega
        have Hx := Lib.hid hx
        have Hx' := Lib.hid hx'
        clear hx hx'
        by_cases e1 : lo = lo'
        · by_cases e2 : hi = hi'
          · subst e1
            subst e2
            go_wp2
            go_region
            go_wp2
            go_roundw
            case rel => exact ⟨k + 1, by omega, by go_num, same_next Hs.out Hx.out Hx'.out rfl, below_drewN hbel 1⟩
            case measure => simp [intOf]; omega
          · have hno : decide (xs = ys) = false := by
              refine decide_eq_false fun e => e2 ?_
              have a := Hx.out
              rw [e, Hx'.out] at a
              simp at a
              exact a.2.symm
            have Hno := Lib.hid hno
            clear hno
            subst e1
            go_wp2
            go_region
            go_wp2
            go_ret
            exact ⟨by rw [Hno.out]; rfl, below_drewN hbel 1⟩
        · have hno : decide (xs = ys) = false := by
            refine decide_eq_false fun e => e1 ?_
            have a := Hx.out
            rw [e, Hx'.out] at a
            simp at a
            exact a.1.symm
          have Hno := Lib.hid hno
          clear hno
          go_wp2
          go_region
          go_wp2
          go_ret
          exact ⟨by rw [Hno.out]; rfl, below_drewN hbel 1⟩
      · have hyes : decide (xs = ys) = true := by
          have e := Hs.out
          rw [List.take_of_length_le (by omega), List.take_of_length_le (by omega)] at e
          simpa using e
        have Hyes := Lib.hid hyes
        clear hyes
        go_wp2
        go_ret
        exact ⟨by rw [Hyes.out]; rfl, hbel⟩
  · have hno : decide (xs = ys) = false := decide_eq_false fun e => hne (by rw [← hl, ← hl', e])
    rw [hno]
    have hd : ((n : Int) != (n' : Int)) = true := by simp; omega
    clear hno
    go_enter Try.func36, Try.ntmps36
    go_wp2
    all_goals (go_ret; exact ⟨rfl, Below.refl _ _⟩)
end Go.Proofs.Ytiebchfdbejfbaa
