/- The reference's Same: the same points in the same order. -/
import Derived.Test.YtklkkehhmmipeaaPF
namespace Go.Proofs.Ytklkkehhmmipeaa
open Go.RowKit
attribute [local go_sem ↓] Go.wp_at_zero Go.wp_at_succ

def sameM (xs ys : List P2) : Bool := decide (xs = ys)
theorem cor_got {ys : List P2} {k : Nat} (h : k < ys.length) : cor ys k = ys[k] := by unfold cor; rw [List.getD_eq_getElem?_getD, List.getElem?_eq_getElem h]; rfl
theorem take_cor {xs ys : List P2} {k : Nat} (h : xs.take k = ys.take k) (h1 : k < xs.length) (h2 : k < ys.length) (he : cor xs k = cor ys k) : xs.take (k + 1) = ys.take (k + 1) := by
  rw [List.take_succ_eq_append_getElem h1, List.take_succ_eq_append_getElem h2, h, ← cor_got h1, ← cor_got h2, he]

set_option maxRecDepth 100000 in
set_option maxHeartbeats 3200000 in
theorem same_any (A : Option Addr) (n c : Nat) (xs : List P2) (A' : Option Addr) (n' c' : Nat) (ys : List P2) (w : World) (h : Row w w.heap.size A n xs) (hn : n ≤ 2000) (h' : Row w w.heap.size A' n' ys) (hn' : n' ≤ 2000) :
    Calls Try.prog 17 #[.slice A n c, .slice A' n' c'] w fun e w' => e = .returned (.bool (sameM xs ys)) ∧ Below w.heap.size w w' := by
  have hl := h.len
  have hl' := h'.len
  by_cases hne : n = n'
  · subst hne
    have Hl := Lib.hid hl
    have Hl' := Lib.hid hl'
    clear hl hl'
    go_enter Try.func17, Try.ntmps17
    go_wp2
    go_loopw [5] (fun i wr => ∃ k : Nat, k ≤ n ∧ i = .int .i64 k ∧ xs.take k = ys.take k ∧ Below w.heap.size w wr) (fun i _ => n - (intOf i).toNat)
    case atStart => exact ⟨0, Nat.zero_le _, rfl, rfl, Below.refl _ _⟩
    case round =>
      obtain ⟨k, hk, rfl, heq, hbel⟩ := hrel
      have Heq := Lib.hid heq
      clear heq
      by_cases hlt : k < n
      · obtain ⟨b, off, x, y, hA, hbB, hx, hc1, hc2⟩ := (h.below hbel).at_ hlt
        obtain ⟨b', off', x', y', hA', hbB', hx', hc3, hc4⟩ := (h'.below hbel).at_ hlt
        have hc := cor_eq hx
        have hc' := cor_eq hx'
        have i1 : (0 : Int) ≤ (k : Int) := by omega
        have i2 : (k : Int) < (n : Int) := by omega
        subst hA
        subst hA'
        have hcs : ((x = x') = True ∧ (y = y') = True) ∨ ((¬ x = x' ∨ ((x = x') = True ∧ ¬ y = y')) ∧ xs ≠ ys) := by
          simp only [eq_iff_iff, iff_true]
          by_cases g1 : x = x'
          · by_cases g2 : y = y'
            · exact .inl ⟨g1, g2⟩
            · exact .inr ⟨.inr ⟨g1, g2⟩, fun e => by rw [e, hc'] at hc; simp at hc; omega⟩
          · exact .inr ⟨.inl g1, fun e => by rw [e, hc'] at hc; simp at hc; omega⟩
        rcases hcs with ⟨g1, g2⟩ | ⟨g1, hne⟩
        · have hnx : xs.take (k + 1) = ys.take (k + 1) := take_cor Heq.out (by rw [Hl.out]; exact hlt) (by rw [Hl'.out]; exact hlt) (by rw [hc, hc', of_eq_true g1, of_eq_true g2])
          have Hnx := Lib.hid hnx
          clear hnx hx hx' hc hc' h h'
          go_wp2
          go_region
          go_wp2
          go_roundw
          case rel => exact ⟨k + 1, by omega, by go_num, Hnx.out, Below.drew_iff.2 hbel⟩
          case measure => simp [intOf]; omega
        · have Hne := Lib.hid hne
          clear hne hx hx' hc hc' h h'
          rcases g1 with g1 | ⟨g1, g2⟩
          all_goals
            go_wp2
            go_region
            go_wp2
            go_ret
            exact ⟨ret_bool (by unfold sameM; rw [decide_eq_false Hne.out]), Below.drew_iff.2 hbel⟩
      · have e : k = n := by omega
        subst e
        have he : xs = ys := by
          have := Heq.out
          rwa [List.take_of_length_le (by rw [Hl.out]; omega), List.take_of_length_le (by rw [Hl'.out]; omega)] at this
        have He := Lib.hid he
        clear he
        go_wp2
        go_ret
        exact ⟨ret_bool (by unfold sameM; rw [decide_eq_true He.out]), hbel⟩
  · have hx : xs ≠ ys := fun e => hne (by rw [← hl, ← hl', e])
    have Hx := Lib.hid hx
    clear hx hl hl' h h'
    go_enter Try.func17, Try.ntmps17
    go_wp2
    go_ret
    exact ⟨ret_bool (by unfold sameM; rw [decide_eq_false Hx.out]), Below.refl _ _⟩
end Go.Proofs.Ytklkkehhmmipeaa
