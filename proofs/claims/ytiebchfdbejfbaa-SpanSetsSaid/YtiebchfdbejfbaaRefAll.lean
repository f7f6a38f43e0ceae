/- The reference of layer 1: the first error of a list, of two lists; Check and Length. -/
import Derived.Test.YtiebchfdbejfbaaMeets
import Derived.Deep.QuietTactic
import Derived.BigQuiet
namespace Go.Proofs.Ytiebchfdbejfbaa
open Go.RowKit

theorem outside_e (lo hi : Int) (b : Bool) (w : World) (h : outB lo hi = b) :
    Calls Try.prog 52 #[.agg #[.int .i64 lo, .int .i64 hi]] w fun e w' => e = .returned (.bool b) ∧ Below w.heap.size w w' := h ▸ outside_any lo hi w

theorem any_false_next {p : Int × Int → Bool} {xs : List (Int × Int)} {k : Nat} {x : Int × Int} (h : (xs.take k).any p = false) (hx : xs[k]? = some x) (hp : p x = false) : (xs.take (k + 1)).any p = false := by
  rw [take_next hx, List.any_append, h, List.any_cons, hp]; rfl
theorem any_true_at {p : Int × Int → Bool} {xs : List (Int × Int)} {k : Nat} {x : Int × Int} (hx : xs[k]? = some x) (hp : p x = true) : xs.any p = true := List.any_eq_true.2 ⟨x, List.mem_of_getElem? hx, hp⟩
theorem below_drewN {B : Nat} {a w : World} (h : Below B a w) (n : Nat) : Below B a (w.drewN n) := ⟨h.os, h.tape, h.output, h.size, h.block⟩

theorem all_any (A : Option Addr) (n c : Nat) (xs : List (Int × Int)) (w : World) (h : Ivs w w.heap.size A n xs) (hn : n ≤ 9000000000000000000) :
    Calls Try.prog 41 #[.slice A n c] w fun e w' => e = .returned (.int .i64 (errAll xs)) ∧ Below w.heap.size w w' := by
  go_enter Try.func41, Try.ntmps41
  go_wp2
  go_loopw [3] (fun i wr => ∃ k : Nat, k ≤ n ∧ i = .int .i64 k ∧ (xs.take k).any (fun x => outB x.1 x.2) = false ∧ Below w.heap.size w wr) (fun i _ => n - (intOf i).toNat)
  case atStart => exact ⟨0, Nat.zero_le _, rfl, rfl, Below.refl _ _⟩
  case round =>
    obtain ⟨k, hk, rfl, hno, hbel⟩ := hrel
    have Hno := Lib.hid hno
    clear hno
    by_cases hlt : k < n
    · obtain ⟨b, off, lo, hi, rfl, hbB, hx, hc1, hc2⟩ := (h.below hbel).at_ hlt
      have hsz := hbel.size
      have Hx := Lib.hid hx
      clear hx
      cases ho : outB lo hi
      · have Ho := Lib.hid ho
        clear ho
        go_wp2_with (go_at_call 52; refine (outside_e lo hi false _ Ho.out).mono ?_; rintro e w' ⟨rfl, hb⟩)
        go_roundw
        case rel => exact ⟨k + 1, by omega, by go_num, any_false_next Hno.out Hx.out Ho.out, hbel.trans (hb.mono (by omega))⟩
        case measure => simp [intOf]; omega
      · have Ho := Lib.hid ho
        clear ho
        go_wp2_with (go_at_call 52; refine (outside_e lo hi true _ Ho.out).mono ?_; rintro e w' ⟨rfl, hb⟩)
        go_ret
        exact ⟨ret_int (by unfold errAll; rw [if_pos (any_true_at Hx.out Ho.out)]), hbel.trans (hb.mono (by omega))⟩
    · have hall : xs.any (fun x => outB x.1 x.2) = false := by rw [← Hno.out, List.take_of_length_le (by have := h.len; omega)]
      have Hall := Lib.hid hall
      clear hall Hno
      go_wp2
      go_loopw [4] (fun i wr => ∃ k : Nat, k ≤ n ∧ i = .int .i64 k ∧ (xs.take k).any (fun x => decide (x.2 < x.1)) = false ∧ Below w.heap.size w wr) (fun i _ => n - (intOf i).toNat)
      case atStart => exact ⟨0, Nat.zero_le _, rfl, rfl, hbel⟩
      case round =>
        obtain ⟨j, hj, rfl, hno, hbel2⟩ := hrel
        have Hno := Lib.hid hno
        clear hno
        by_cases hlt2 : j < n
        · obtain ⟨b, off, lo, hi, rfl, hbB, hx, hc1, hc2⟩ := (h.below hbel2).at_ hlt2
          have hj0 : (0 : Int) ≤ (j : Int) := by omega
          have hj1 : (j : Int) < (n : Int) := by omega
          have Hx := Lib.hid hx
          clear hx
          by_cases hin : hi < lo
          · go_wp2
            go_quiet (fail)
            go_wp2
            go_ret
            exact ⟨ret_int (by unfold errAll; rw [if_neg (by rw [Hall.out]; simp), if_pos (any_true_at Hx.out (by simpa using hin))]), below_drewN hbel2 _⟩
          · go_wp2
            go_quiet (fail)
            go_wp2
            go_roundw
            case rel => exact ⟨j + 1, by omega, by go_num, any_false_next Hno.out Hx.out (by simpa using hin), below_drewN hbel2 _⟩
            case measure => simp [intOf]; omega
        · have hall2 : xs.any (fun x => decide (x.2 < x.1)) = false := by rw [← Hno.out, List.take_of_length_le (by have := h.len; omega)]
          have Hall2 := Lib.hid hall2
          clear hall2 Hno
          go_wp2
          go_ret
          exact ⟨ret_int (by unfold errAll; rw [if_neg (by rw [Hall.out]; simp), if_neg (by rw [Hall2.out]; simp)]), hbel2⟩

theorem ref_check_any (lo hi : Int) (w : World) :
    Calls Try.prog 12 #[.agg #[.int .i64 lo, .int .i64 hi]] w fun e w' => e = .returned (.int .i64 (errOf lo hi)) ∧ Below w.heap.size w w' := by
  have he : errAll [(lo, hi)] = errOf lo hi := by simp [errAll, errOf]
  rw [← he]
  clear he
  go_enter Try.func12, Try.ntmps12
  go_wp2_with fail
  refine (all_any _ _ _ [(lo, hi)] _ (one_new _ _ _ _ (by simp) (by simp)) (by omega)).mono ?_
  rintro e w1 ⟨rfl, hb⟩
  go_wp2
  go_ret
  exact ⟨rfl, by (repeat (first | exact Below.refl _ _ | (refine Below.setCell ?_ (by first | omega | (simp; done) | (simp; omega)) _) | (refine Below.alloc ?_ (by first | omega | (simp; done) | (simp; omega)) _) | (refine Below.trans ?_ (Below.mono hb (by first | omega | (simp; done) | (simp; omega))))))⟩

theorem ref_check_e (lo hi v : Int) (w : World) (h : errOf lo hi = v) :
    Calls Try.prog 12 #[.agg #[.int .i64 lo, .int .i64 hi]] w fun e w' => e = .returned (.int .i64 v) ∧ Below w.heap.size w w' := h ▸ ref_check_any lo hi w

theorem ref_length_any (lo hi : Int) (w : World) :
    Calls Try.prog 18 #[.agg #[.int .i64 lo, .int .i64 hi]] w fun e w' => e = .returned (.int .i64 (lenOf lo hi)) ∧ Below w.heap.size w w' := by
  by_cases h : errOf lo hi = 0
  · have ho := outB_false (by rcases errOf_cases lo hi with ⟨_, h1⟩ | ⟨_, _, h1⟩ | ⟨h1, _, _⟩ <;> first | omega | exact h1)
    obtain ⟨b1, b2, b3, b4⟩ := ho
    have H := Lib.hid h
    clear h
    go_enter Try.func18, Try.ntmps18
    go_wp2_with (go_at_call 12; refine (ref_check_e _ _ 0 _ H.out).mono ?_; rintro e w' ⟨rfl, hb⟩; obtain ⟨hc, hf⟩ := old_cells hb)
    go_ret
    exact ⟨ret_int (by simp [lenOf, H.out]), by (repeat (first | exact Below.refl _ _ | (refine Below.setCell ?_ (by first | omega | (simp; done) | (simp; omega)) _) | (refine Below.alloc ?_ (by first | omega | (simp; done) | (simp; omega)) _) | (refine Below.trans ?_ (Below.mono hb (by first | omega | (simp; done) | (simp; omega))))))⟩
  · have hd : (errOf lo hi != 0) = true := by simp [h]
    have H := Lib.hid h
    clear h
    go_enter Try.func18, Try.ntmps18
    go_wp2_with (go_at_call 12; refine (ref_check_any _ _ _).mono ?_; rintro e w' ⟨rfl, hb⟩; obtain ⟨hc, hf⟩ := old_cells hb)
    go_ret
    exact ⟨ret_int (by simp [lenOf, H.out]), by (repeat (first | exact Below.refl _ _ | (refine Below.setCell ?_ (by first | omega | (simp; done) | (simp; omega)) _) | (refine Below.alloc ?_ (by first | omega | (simp; done) | (simp; omega)) _) | (refine Below.trans ?_ (Below.mono hb (by first | omega | (simp; done) | (simp; omega))))))⟩
end Go.Proofs.Ytiebchfdbejfbaa
