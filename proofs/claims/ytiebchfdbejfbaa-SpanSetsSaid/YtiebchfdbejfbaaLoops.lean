/- The loops of package span and of its reference over one list. -/
import Derived.Test.YtiebchfdbejfbaaLeaf
import Derived.Test.YtiebchfdbejfbaaWords
namespace Go.Proofs.Ytiebchfdbejfbaa
open Go.RowKit

/-- The first error of a list of intervals: 6 if an end is out of range anywhere, else 1 if one is inverted. -/
def errAll (xs : List (Int × Int)) : Int := if xs.any (fun x => outB x.1 x.2) = true then 6 else if xs.any (fun x => decide (x.2 < x.1)) = true then 1 else 0

theorem errAll_nil : errAll [] = 0 := rfl
theorem errAll_out {xs : List (Int × Int)} {x : Int × Int} (h : x ∈ xs) (ho : errOf x.1 x.2 = 6) : errAll xs = 6 := by
  have : xs.any (fun x => outB x.1 x.2) = true := List.any_eq_true.2 ⟨x, h, by rcases errOf_cases x.1 x.2 with ⟨h1, _⟩ | ⟨_, _, h1⟩ | ⟨_, _, h1⟩ <;> first | omega | exact h1⟩
  simp [errAll, this]
theorem errAll_inv {ys : List (Int × Int)} {x : Int × Int} (hn : ys.any (fun x => outB x.1 x.2) = false) (h : errOf x.1 x.2 = 1) : (ys ++ [x]).any (fun x => outB x.1 x.2) = false ∧ errAll (ys ++ [x]) = 1 := by
  rcases errOf_cases x.1 x.2 with ⟨_, h1⟩ | ⟨h0, h2, h1⟩ | ⟨_, _, h1⟩
  · omega
  · have e : (ys ++ [x]).any (fun x => outB x.1 x.2) = false := by rw [List.any_append, hn]; simp [h0]
    refine ⟨e, ?_⟩
    unfold errAll
    rw [if_neg (by simp [e]), if_pos (by rw [List.any_append]; simp [h2])]
  · omega
theorem errAll_ok {ys : List (Int × Int)} {x : Int × Int} (hn : ys.any (fun x => outB x.1 x.2) = false) (h : errOf x.1 x.2 = 0) : (ys ++ [x]).any (fun x => outB x.1 x.2) = false ∧ errAll (ys ++ [x]) = errAll ys := by
  rcases errOf_cases x.1 x.2 with ⟨_, h1⟩ | ⟨_, _, h1⟩ | ⟨h0, h2, h1⟩
  · omega
  · omega
  · have e : (ys ++ [x]).any (fun x => outB x.1 x.2) = false := by rw [List.any_append, hn]; simp [h0]
    have e2 : (ys ++ [x]).any (fun x => decide (x.2 < x.1)) = ys.any (fun x => decide (x.2 < x.1)) := by
      have hx : decide (x.2 < x.1) = false := by simp; omega
      rw [List.any_append, List.any_cons, hx]; simp
    exact ⟨e, by unfold errAll; rw [e, e2, hn]⟩
theorem take_next {xs : List (Int × Int)} {k : Nat} {x : Int × Int} (h : xs[k]? = some x) : xs.take (k + 1) = xs.take k ++ [x] := by
  rw [List.take_succ_eq_append_getElem (List.getElem?_eq_some_iff.1 h).1, (List.getElem?_eq_some_iff.1 h).2]

theorem check_e (lo hi v : Int) (w : World) (h : errOf lo hi = v) :
    Calls Try.prog 11 #[.agg #[.int .i64 lo, .int .i64 hi]] w fun e w' => e = .returned (.int .i64 v) ∧ Below w.heap.size w w' := h ▸ check_any lo hi w

theorem checkAll_any (A : Option Addr) (n c : Nat) (xs : List (Int × Int)) (w : World) (h : Ivs w w.heap.size A n xs) (hn : n ≤ 9000000000000000000) :
    Calls Try.prog 43 #[.slice A n c] w fun e w' => e = .returned (.int .i64 (errAll xs)) ∧ Below w.heap.size w w' := by
  go_enter Try.func43, Try.ntmps43
  go_wp2
  go_loopw [3, 8] (fun f i wr => ∃ k : Nat, k ≤ n ∧ i = .int .i64 k ∧ f = .int .i64 (errAll (xs.take k)) ∧ (xs.take k).any (fun x => outB x.1 x.2) = false ∧ Below w.heap.size w wr) (fun _ i _ => n - (intOf i).toNat)
  case atStart => exact ⟨0, Nat.zero_le _, rfl, rfl, rfl, Below.refl _ _⟩
  case round =>
    obtain ⟨k, hk, rfl, rfl, hno, hbel⟩ := hrel
    have Hno := Lib.hid hno
    clear hno
    by_cases hlt : k < n
    · obtain ⟨b, off, lo, hi, rfl, hbB, hx, hc1, hc2⟩ := (h.below hbel).at_ hlt
      have hsz := hbel.size
      have htk := take_next hx
      have hmem : (lo, hi) ∈ xs := List.mem_of_getElem? hx
      have Hx := Lib.hid hx
      have Ht := Lib.hid htk
      clear hx htk
      rcases errOf_cases lo hi with ⟨_, he⟩ | ⟨_, _, he⟩ | ⟨_, _, he⟩
      · have He := Lib.hid he
        clear he
        go_wp2_with (go_at_call 11; refine (check_e lo hi 6 _ He.out).mono ?_; rintro e w' ⟨rfl, hb⟩; obtain ⟨hc, hf⟩ := old_cells hb)
        go_ret
        exact ⟨ret_int (errAll_out (x := (lo, hi)) hmem He.out).symm, (hbel.alloc (by omega) _).trans (hb.mono (by simp; omega))⟩
      · have He := Lib.hid he
        clear he
        go_wp2_with (go_at_call 11; refine (check_e lo hi 1 _ He.out).mono ?_; rintro e w' ⟨rfl, hb⟩; obtain ⟨hc, hf⟩ := old_cells hb)
        go_roundw
        case rel =>
          obtain ⟨r1, r2⟩ := errAll_inv (x := (lo, hi)) Hno.out He.out
          rw [← Ht.out] at r1 r2
          exact ⟨k + 1, by omega, by go_num, by rw [r2], r1, (hbel.alloc (by omega) _).trans (hb.mono (by simp; omega))⟩
        case measure => simp [intOf]; omega
      · have He := Lib.hid he
        clear he
        go_wp2_with (go_at_call 11; refine (check_e lo hi 0 _ He.out).mono ?_; rintro e w' ⟨rfl, hb⟩; obtain ⟨hc, hf⟩ := old_cells hb)
        go_roundw
        case rel =>
          obtain ⟨r1, r2⟩ := errAll_ok (x := (lo, hi)) Hno.out He.out
          rw [← Ht.out] at r1 r2
          exact ⟨k + 1, by omega, by go_num, by rw [r2], r1, (hbel.alloc (by omega) _).trans (hb.mono (by simp; omega))⟩
        case measure => simp [intOf]; omega
    · go_wp2
      go_ret
      exact ⟨ret_int (by rw [List.take_of_length_le (by have := h.len; omega)]), hbel⟩
end Go.Proofs.Ytiebchfdbejfbaa
