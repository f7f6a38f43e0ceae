/- The reference's In and Count, and the law's normal. -/
import Derived.Test.YtiebchfdbejfbaaSets2
import Derived.BigQuiet
namespace Go.Proofs.Ytiebchfdbejfbaa
open Go.RowKit
attribute [local go_sem ↓] Go.wp_at_zero Go.wp_at_succ

/-- Is a number in one of the intervals? -/
def memB (n : Int) (xs : List (Int × Int)) : Bool := xs.any fun x => decide (x.1 ≤ n ∧ n ≤ x.2)
theorem memB_iff {n : Int} {xs : List (Int × Int)} : memB n xs = true ↔ Mem n xs := by simp [memB, Mem]
theorem memB_snoc (n : Int) (xs : List (Int × Int)) (x : Int × Int) : memB n (xs ++ [x]) = (memB n xs || decide (x.1 ≤ n ∧ n ≤ x.2)) := by simp [memB]
theorem memB_take {n : Int} {xs : List (Int × Int)} (k : Nat) (h : memB n (xs.take k) = true) : memB n xs = true := by
  rw [memB_iff] at h ⊢
  obtain ⟨x, hx, h⟩ := h
  exact ⟨x, List.mem_of_mem_take hx, h⟩

theorem in_any (A : Option Addr) (n c : Nat) (xs : List (Int × Int)) (m : Int) (w : World) (h : Ivs w w.heap.size A n xs) (hn : n ≤ 9223372036854775807) :
    Calls Try.prog 38 #[.slice A n c, .int .i64 m] w fun e w' => e = .returned (.bool (memB m xs)) ∧ Below w.heap.size w w' := by
  have hlen := h.len
  go_enter Try.func38, Try.ntmps38
  go_wp2
  go_loopw [5] (fun i wr => ∃ k : Nat, k ≤ n ∧ i = .int .i64 k ∧ memB m (xs.take k) = false ∧ Below w.heap.size w wr) (fun i _ => n - (intOf i).toNat)
  case atStart => exact ⟨0, Nat.zero_le _, rfl, rfl, Below.refl _ _⟩
  case round =>
    obtain ⟨k, hk, rfl, hno, hbel⟩ := hrel
    by_cases hlt : k < n
    · obtain ⟨b, off, lo, hi, rfl, hbB, hx, hc1, hc2⟩ := (h.below hbel).at_ hlt
      have htk : memB m (xs.take (k + 1)) = decide (lo ≤ m ∧ m ≤ hi) := by rw [take_next hx, memB_snoc, hno]; rfl
      have Htk := Lib.hid htk
      have hszr := hbel.size
      clear hx htk hno
      obtain ⟨d, hd⟩ : ∃ d, decide (lo ≤ m ∧ m ≤ hi) = d := ⟨_, rfl⟩
      rw [hd] at Htk
      cases d
      · go_wp2_with (go_at_call 14; refine (ref_contains_any lo hi m _).mono ?_; rw [hd]; rintro e w3 ⟨rfl, hb3⟩)
        go_roundw
        case rel => exact ⟨k + 1, by omega, by go_num, Htk.out, hbel.trans (hb3.mono hszr)⟩
        case measure => simp [intOf]; omega
      · go_wp2_with (go_at_call 14; refine (ref_contains_any lo hi m _).mono ?_; rw [hd]; rintro e w3 ⟨rfl, hb3⟩)
        go_ret
        exact ⟨by rw [memB_take _ Htk.out]; rfl, hbel.trans (hb3.mono hszr)⟩
    · have hxk : xs.take k = xs := List.take_of_length_le (by omega)
      rw [hxk] at hno
      clear hxk
      have Hno := Lib.hid hno
      clear hno
      go_wp2
      go_ret
      exact ⟨by rw [Hno.out]; rfl, hbel⟩

theorem nf_step {xs : List (Int × Int)} {k : Nat} {x y : Int × Int} (h : NF xs) (hx : xs[k]? = some x) (hy : xs[k + 1]? = some y) : x.2 + 2 ≤ y.1 := by
  obtain ⟨hl, rfl⟩ := List.getElem?_eq_some_iff.1 hx
  obtain ⟨hl2, rfl⟩ := List.getElem?_eq_some_iff.1 hy
  exact List.pairwise_iff_getElem.1 h.2 k (k + 1) hl hl2 (by omega)

set_option maxHeartbeats 1600000 in
theorem normal_law_any (A : Option Addr) (n c : Nat) (xs : List (Int × Int)) (w : World) (h : Ivs w w.heap.size A n xs) (hn : n ≤ 9223372036854775807) (hf : NF xs) (hr : InR xs) :
    Calls Try.prog 39 #[.slice A n c] w fun e w' => e = .returned (.bool true) ∧ Below w.heap.size w w' := by
  have hlen := h.len
  go_enter Try.func39, Try.ntmps39
  go_wp2
  go_loopw [3] (fun i wr => ∃ k : Nat, k ≤ n ∧ i = .int .i64 k ∧ Below w.heap.size w wr) (fun i _ => n - (intOf i).toNat)
  case atStart => exact ⟨0, Nat.zero_le _, rfl, Below.refl _ _⟩
  case round =>
    obtain ⟨k, hk, rfl, hbel⟩ := hrel
    by_cases hlt : k < n
    · obtain ⟨b, off, lo, hi, rfl, hbB, hx, hc1, hc2⟩ := (h.below hbel).at_ hlt
      have hle : lo ≤ hi := hf.1 _ (List.mem_of_getElem? hx)
      have hin := hr _ (List.mem_of_getElem? hx)
      dsimp only at hin
      obtain ⟨o1, o2, o3, o4⟩ := hin
      have hd0 : decide (hi < lo) = false := decide_eq_false (by omega)
      by_cases hk0 : k = 0
      · subst hk0
        simp only [Nat.zero_mul, Nat.add_zero] at hc1 hc2
        clear hx
        go_wp2
        go_quiet (fail)
        go_wp2
        go_roundw
        case rel => exact ⟨1, by omega, by go_num, below_drewN hbel nq⟩
        case measure => simp [intOf]; omega
      · obtain ⟨j, rfl⟩ : ∃ j, k = j + 1 := ⟨k - 1, by omega⟩
        obtain ⟨b2, off2, lo2, hi2, he, _, hx2, hc3, hc4⟩ := (h.below hbel).at_ (k := j) (by omega)
        injection he with he
        injection he with he1 he2
        subst he1 he2
        have hst := nf_step hf hx2 hx
        have hin2 := hr _ (List.mem_of_getElem? hx2)
        dsimp only at hin2 hst
        obtain ⟨p1, p2, p3, p4⟩ := hin2
        have g1 : (0 : Int) < ((j + 1 : Nat) : Int) := by omega
        have g2 : (0 : Int) < (j : Int) + 1 := by omega
        have hd1 : decide (lo < hi2 + 2) = false := decide_eq_false (by omega)
        clear hx hx2
        go_wp2
        go_quiet (fail)
        go_wp2
        go_roundw
        case rel => exact ⟨j + 1 + 1, by omega, by go_num, below_drewN hbel nq⟩
        case measure => simp [intOf]; omega
    · go_wp2
      go_ret
      exact ⟨rfl, hbel⟩
end Go.Proofs.Ytiebchfdbejfbaa
