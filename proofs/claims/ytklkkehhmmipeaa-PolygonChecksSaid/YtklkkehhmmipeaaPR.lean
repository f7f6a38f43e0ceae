/- Package polygon: Reverse, and the reference's. -/
import Derived.Test.YtklkkehhmmipeaaPW
namespace Go.Proofs.Ytklkkehhmmipeaa
open Go.RowKit
attribute [local go_sem ↓] Go.wp_at_zero Go.wp_at_succ

theorem eq_nil23 (a : Addr) (n c : Nat) (w : World) : Sem.run Try.prog (binOp BinOp.eql 23 (.slice (some a) n c) (.slice none 0 0)) w = .ok (.bool false) w := by kernel_rfl
set_option maxRecDepth 100000 in
set_option maxHeartbeats 1600000 in
theorem clone23_any (a : Addr) (n c : Nat) (xs : List P2) (w : World) (h : Row w w.heap.size (some a) n xs) (hn : n ≤ 2000) :
    Calls Try.prog 40 #[.slice (some a) n c] w fun e w' => ∃ v, e = .returned v ∧ Own w' w.heap.size v xs ∧ Below w.heap.size w w' := by
  have Hrow := Lib.hid h
  have hnil := fun W => eq_nil23 a n c W
  clear h
  go_enter Try.func40, Try.ntmps40
  go_wp2_with (at_builtin; refine wpList_append_pol rfl (.tmp 5) (.tmp 6) rfl w.heap.size (.slice (some ⟨w.heap.size, 0, none⟩) 0 0) [] rfl (Own.made w _ rfl (Nat.le_refl _)) (w.heap.size + 1) _ n c xs rfl (Hrow.out.in_ ((Below.refl _ _).alloc (Nat.le_refl _) _) (by omega)) (by simp; omega) (by simp) ?_; intro v' w1 hown1 hg1 _)
  go_ret
  exact ⟨_, rfl, hown1, below_grown ((Below.refl _ _).alloc (Nat.le_refl _) _) hg1 (by simp) (fun g hg => by simp [Value.ownBlock] at hg; omega)⟩

set_option maxRecDepth 100000 in
set_option maxHeartbeats 6400000 in
theorem rev23_any (g n c : Nat) (xs : List P2) (w : World) (hm : Mem w g xs) (hn : xs.length = n) (h1 : 1 ≤ n) (h2 : n ≤ 2000) (hg : g < w.heap.size) :
    Calls Try.prog 41 #[.slice (some ⟨g, 0, none⟩) n c] w fun e w' => e = .returned (.tuple #[]) ∧ Mem w' g xs.reverse ∧ But g w w' := by
  have Hn := Lib.hid hn
  clear hn
  go_enter Try.func41, Try.ntmps41
  go_wp2
  go_loopw [2, 3] (fun i j wr => ∃ (k m : Nat) (ys : List P2), k + m + 1 = n ∧ i = .int .i64 k ∧ j = .int .i64 m ∧ RevTo xs ys k ∧ Mem wr g ys ∧ But g w wr) (fun i j _ => (intOf j).toNat)
  case atStart => exact ⟨0, n - 1, xs, by omega, rfl, by go_num, ⟨rfl, fun m hm => by rw [if_neg (by omega)]⟩, hm, But.refl _ _⟩
  case round =>
    obtain ⟨k, m, ys, hkm, rfl, rfl, hrev, hmem, hbut⟩ := hrel
    by_cases hlt : k < m
    · obtain ⟨j, rfl⟩ : ∃ j, m = j + 1 := ⟨m - 1, by omega⟩
      have hyl : ys.length = n := hrev.1.trans Hn.out
      have hsz := hbut.size
      obtain ⟨⟨x, y⟩, hx⟩ : ∃ x, ys[k]? = some x := ⟨_, List.getElem?_eq_getElem (by omega)⟩
      obtain ⟨⟨x', y'⟩, hx'⟩ : ∃ x, ys[j + 1]? = some x := ⟨_, List.getElem?_eq_getElem (by omega)⟩
      obtain ⟨c1, c2, f1, f2⟩ := hmem _ _ hx
      obtain ⟨c3, c4, f3, f4⟩ := hmem _ _ hx'
      dsimp only at c1 c2 c3 c4
      have hgw : g < wr.heap.size := by omega
      have hstep := hrev.step (m := j + 1) (by rw [Hn.out]; exact hkm) hlt
      have Hstep := Lib.hid hstep
      have Hcor := Lib.hid (cor_eq hx)
      have Hcor' := Lib.hid (cor_eq hx')
      have Hyl := Lib.hid hyl
      have Hm' := Lib.hid hmem
      have Hb' := Lib.hid hbut
      have i1 : (0 : Int) ≤ (k : Int) := by omega
      have i2 : (k : Int) < (n : Int) := by omega
      have i3 : (0 : Int) ≤ (j : Int) + 1 := by omega
      have i4 : (j : Int) + 1 < (n : Int) := by omega
      have i5 : k < n := by omega
      have i6 : j + 1 < n := by omega
      have i7 : (k : Int) < (j : Int) + 1 := by omega
      clear hx hx' hmem hbut hyl hrev hstep hm
      rw [show ((j + 1 : Nat) : Int) = (j : Int) + 1 from by omega]
      go_wp2
      go_region
      all_goals
        go_wp2
        go_roundw
        case rel => exact ⟨k + 1, j, swapIJ ys k (j + 1), by omega, by go_num, by go_num, Hstep.out, by first | exact Mem.ijA Hm'.out (by rw [Hyl.out]; exact i5) (by rw [Hyl.out]; exact i6) Hcor.out Hcor'.out | exact Mem.ijB Hm'.out (by rw [Hyl.out]; exact i5) (by rw [Hyl.out]; exact i6) (by omega) Hcor.out Hcor'.out, by (repeat (first | exact Hb'.out | simp only [But.drew_iff] | simp only [But.drewN_iff] | refine But.setCell ?_ _ _))⟩
        case measure => first | (simp [intOf]; done) | (simp [intOf]; omega)
    · have e : ys = xs.reverse := hrev.done (by rw [Hn.out]; exact hkm) (by omega)
      subst e
      have i7 : ¬ (k : Int) < (m : Int) := by omega
      go_wp2
      go_end0
      exact ⟨rfl, hmem, hbut⟩

theorem eqn_nil23 (w : World) : Sem.run Try.prog (binOp BinOp.eql 23 (.slice none 0 0) (.slice none 0 0)) w = .ok (.bool true) w := by kernel_rfl
theorem rev23_zero (A : Option Addr) (c : Nat) (w : World) :
    Calls Try.prog 41 #[.slice A 0 c] w fun e w' => e = .returned (.tuple #[]) ∧ w = w' := by
  go_enter Try.func41, Try.ntmps41
  go_wp2
  refine wp_loop_rounds 1 ?_
  rw [rounds_succ]
  go_wp2
  go_end0
  exact ⟨rfl, rfl⟩
theorem Row.nil' (w : World) (B : Nat) {A : Option Addr} : Row w B A 0 [] := ⟨rfl, fun h => absurd h (by omega)⟩
/-- What reads as a list, wherever it lies. -/
def RetRow (xs : List P2) (w : World) : Ending → World → Prop := fun e w' => ∃ A c, e = .returned (.slice A xs.length c) ∧ Row w' w'.heap.size A xs.length xs ∧ Below w.heap.size w w'

set_option maxRecDepth 100000 in
set_option maxHeartbeats 3200000 in
theorem pReverse_some (a : Addr) (n c : Nat) (xs : List P2) (w : World) (h : Row w w.heap.size (some a) n xs) (h0 : 0 < n) (hn : n ≤ 2000) :
    Calls Try.prog 18 #[.slice (some a) n c] w (RetRow xs.reverse w) := by
  have Hn := Lib.hid h.len
  go_enter Try.func18, Try.ntmps18
  go_wp2_with fail
  refine (clone23_any a n c xs _ h hn).mono ?_
  rintro e w1 ⟨v1, rfl, hown1, hb1⟩
  obtain ⟨A1, c1, rfl, _, _⟩ := hown1.form_n Hn.out
  obtain ⟨g, rfl, -, _, hbg, hg1, hmem1⟩ := hown1.mem (by rw [Hn.out]; omega)
  have Hmem1 := Lib.hid hmem1
  clear hown1 hmem1
  go_wp2_with fail
  refine (rev23_any g n c1 xs _ Hmem1.out Hn.out (by omega) hn hg1).mono ?_
  rintro e w2 ⟨rfl, hmem2, hbut2⟩
  have hz := hbut2.size
  have hlen : xs.reverse.length = n := by rw [List.length_reverse, Hn.out]
  have acc : Below w.heap.size w w2 := hb1.trans (hbut2.below hbg hb1.size)
  have hrow := hmem2.row hlen (show g < w2.heap.size by omega)
  have Hlen := Lib.hid hlen
  have Hrow := Lib.hid hrow
  clear hmem2 hbut2 hlen hrow hb1
  go_wp2
  go_ret
  refine ⟨some ⟨g, 0, none⟩, c1, ?_, ?_, acc⟩
  · rw [Hlen.out]; rfl
  · rw [Hlen.out]; exact Hrow.out
set_option maxRecDepth 100000 in
theorem pReverse_empty (a : Addr) (c : Nat) (w : World) : Calls Try.prog 18 #[.slice (some a) 0 c] w (RetRow [] w) := by
  go_enter Try.func18, Try.ntmps18
  go_wp2_with fail
  refine (clone23_any a 0 c [] _ Row.nil (by omega)).mono ?_
  rintro e w1 ⟨v1, rfl, hown1, hb1⟩
  obtain ⟨A1, c1, rfl, _, _⟩ := hown1.form_n rfl
  clear hown1
  go_wp2_with fail
  refine (rev23_zero _ _ _).mono ?_
  rintro e w2 ⟨rfl, rfl⟩
  go_wp2
  go_ret
  exact ⟨_, _, rfl, Row.nil' _ _, hb1⟩
set_option maxRecDepth 100000 in
theorem pReverse_nil (c : Nat) (hc : c = 0) (w : World) : Calls Try.prog 18 #[.slice none 0 c] w (RetRow [] w) := by
  subst hc
  have hnil := fun W => eqn_nil23 W
  go_enter Try.func18, Try.ntmps18
  go_wp2_with (first | (go_at_call 41; refine (rev23_zero _ _ _).mono ?_; rintro e w1 ⟨rfl, rfl⟩) | go_in)
  go_wp2
  go_ret
  exact ⟨none, 0, rfl, Row.nil, Below.refl _ _⟩

theorem pReverse_any (A : Option Addr) (n c : Nat) (xs : List P2) (w : World) (h : Row w w.heap.size A n xs) (hc : A = none → c = 0) (hn : n ≤ 2000) :
    Calls Try.prog 18 #[.slice A n c] w (RetRow xs.reverse w) := by
  rcases Nat.eq_zero_or_pos n with rfl | h0
  · have hx : xs = [] := List.eq_nil_of_length_eq_zero h.len
    subst hx
    cases A with
    | none => exact pReverse_nil c (hc rfl) w
    | some a => exact pReverse_empty a c w
  · obtain ⟨b, off, x, y, rfl, _⟩ := h.at_ h0
    exact pReverse_some _ n c xs w h h0 hn
theorem drop_rev {xs : List P2} {k : Nat} {x y : Int} (hx : xs[k]? = some (x, y)) : (xs.drop k).reverse = (xs.drop (k + 1)).reverse ++ [(x, y)] := by
  obtain ⟨hk, e⟩ := List.getElem?_eq_some_iff.1 hx
  rw [List.drop_eq_getElem_cons hk, List.reverse_cons, e]
set_option maxRecDepth 100000 in
set_option maxHeartbeats 3200000 in
theorem refReverse_any (A : Option Addr) (n c : Nat) (xs : List P2) (w : World) (h : Row w w.heap.size A n xs) (hn : n ≤ 2000) :
    Calls Try.prog 19 #[.slice A n c] w (RetRow xs.reverse w) := by
  have Hn := Lib.hid h.len
  have Hrow := Lib.hid h
  clear h
  go_enter Try.func19, Try.ntmps19
  go_wp2
  go_loopw [3, 4] (fun v i wr => ∃ j : Nat, j ≤ n ∧ i = .int .i64 ((j : Int) - 1) ∧ Own wr w.heap.size v (xs.drop j).reverse ∧ Below w.heap.size w wr) (fun _ i _ => (intOf i + 1).toNat)
  case atStart =>
    refine ⟨n, Nat.le_refl _, rfl, ?_, (Below.refl _ _).alloc (Nat.le_refl _) _⟩
    rw [List.drop_of_length_le (by rw [Hn.out]; exact Nat.le_refl _)]
    exact Own.made w _ rfl (Nat.le_refl _)
  case round =>
    obtain ⟨j, hj, rfl, hown, hbel⟩ := hrel
    have hsz := hbel.size
    rcases Nat.eq_zero_or_pos j with rfl | hpos
    · have Hown := Lib.hid hown
      obtain ⟨A1, c1, rfl, _, _⟩ := hown.form_n (n := n) (by simpa using Hn.out)
      have i0 : ¬ (0 : Int) ≤ ((0 : Nat) : Int) - 1 := by omega
      clear hown
      go_wp2
      go_ret
      have hr := Hown.out
      rw [List.drop_zero] at hr
      obtain ⟨A2, c2, e2, hrow2, _⟩ := hr.form_n rfl
      exact ⟨A2, c2, congrArg Ending.returned e2, hrow2, hbel⟩
    · obtain ⟨k, rfl⟩ : ∃ k, j = k + 1 := ⟨j - 1, by omega⟩
      obtain ⟨b, off, x, y, rfl, hbB, hx, hc1, hc2⟩ := (Hrow.out.below hbel).at_ (show k < n by omega)
      have hnx := drop_rev hx
      have hlen : (xs.drop (k + 1)).reverse.length = n - (k + 1) := by simp [Hn.out]
      obtain ⟨A1, c1, rfl, _, hlt1⟩ := hown.form_n hlen
      have Hnx := Lib.hid hnx
      have Hown := Lib.hid hown
      have Hlen := Lib.hid hlen
      have i1 : (0 : Int) ≤ (k : Int) := by omega
      have i2 : (k : Int) < (n : Int) := by omega
      have i3 : k < n := by omega
      rw [show ((k + 1 : Nat) : Int) - 1 = (k : Int) from by omega]
      clear hx hnx hown hlen
      go_wp2_with (at_builtin; refine wpList_append_pol rfl (.tmp 13) (.tmp 18) rfl w.heap.size _ (xs.drop (k + 1)).reverse rfl (Hown.out.alloc _) (wr.heap.size + 1) (some ⟨wr.heap.size, 0, none⟩) 1 1 [(x, y)] rfl (row_one _ _ _ _ (by simp) (by simp)) (by have := Hlen.out; omega) (by simp; omega) ?_; intro v' w3 hown3 hg3 _)
      go_roundw
      case rel => exact ⟨k, by omega, rfl, by rw [Hnx.out]; exact hown3, below_grown (hbel.alloc hsz _) hg3 (by simp; omega) (fun g hg => (hlt1 g hg).1)⟩
      case measure => first | (simp [intOf]; done) | (simp [intOf]; omega)
end Go.Proofs.Ytklkkehhmmipeaa
