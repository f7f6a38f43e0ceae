/- Package slices: Clone and Reverse at points; the reference's Same. -/
import Derived.Test.YtklkkehhmmipeaaPV
namespace Go.Proofs.Ytklkkehhmmipeaa
open Go.RowKit
attribute [local go_sem ↓] Go.wp_at_zero Go.wp_at_succ

theorem eq_nil22 (a : Addr) (n c : Nat) (w : World) : Sem.run Try.prog (binOp BinOp.eql 22 (.slice (some a) n c) (.slice none 0 0)) w = .ok (.bool false) w := by kernel_rfl
set_option maxRecDepth 100000 in
set_option maxHeartbeats 1600000 in
theorem clone22_any (A : Option Addr) (n c : Nat) (xs : List P2) (w : World) (h : Row w w.heap.size A n xs) (h0 : 0 < n) (hn : n ≤ 2000) :
    Calls Try.prog 56 #[.slice A n c] w fun e w' => ∃ v, e = .returned v ∧ Own w' w.heap.size v xs ∧ Below w.heap.size w w' := by
  obtain ⟨b, off, x, y, rfl, _⟩ := h.at_ h0
  have Hrow := Lib.hid h
  have hnil := fun W => eq_nil22 ⟨b, off, none⟩ n c W
  clear h
  go_enter Try.func56, Try.ntmps56
  go_wp2_with (at_builtin; refine wpList_append_pts rfl (.tmp 5) (.tmp 6) rfl w.heap.size (.slice (some ⟨w.heap.size, 0, none⟩) 0 0) [] rfl (Own.made w _ rfl (Nat.le_refl _)) (w.heap.size + 1) _ n c xs rfl (Hrow.out.in_ ((Below.refl _ _).alloc (Nat.le_refl _) _) (by omega)) (by simp; omega) (by simp) ?_; intro v' w1 hown1 hg1 _)
  go_ret
  exact ⟨_, rfl, hown1, below_grown ((Below.refl _ _).alloc (Nat.le_refl _) _) hg1 (by simp) (fun g hg => by simp [Value.ownBlock] at hg; omega)⟩

def swapIJ (ys : List P2) (i j : Nat) : List P2 := (ys.set i (cor ys j)).set j (cor ys i)
theorem swapIJ_len (ys : List P2) (i j : Nat) : (swapIJ ys i j).length = ys.length := by simp [swapIJ]
theorem swapIJ_cor {ys : List P2} {i j : Nat} (hi : i < ys.length) (hj : j < ys.length) (m : Nat) : cor (swapIJ ys i j) m = if m = j then cor ys i else if m = i then cor ys j else cor ys m := by
  unfold swapIJ
  rw [cor_set (by simpa using hj), cor_set hi]
theorem Mem.ijA {w : World} {g : Nat} {ys : List P2} {i j : Nat} {x y x' y' : Int} (h : Mem w g ys) (hi : i < ys.length) (hj : j < ys.length) (h1 : cor ys i = (x, y)) (h2 : cor ys j = (x', y')) :
    Mem ((((w.setCell ⟨g, i * 2, none⟩ (.int .i64 x')).setCell ⟨g, i * 2 + 1, none⟩ (.int .i64 y')).setCell ⟨g, j * 2, none⟩ (.int .i64 x)).setCell ⟨g, j * 2 + 1, none⟩ (.int .i64 y)) g (swapIJ ys i j) := by
  have := (h.put hi (x', y')).put (j := j) (by simpa using hj) (x, y)
  unfold swapIJ; rw [h1, h2]; exact this
theorem Mem.ijB {w : World} {g : Nat} {ys : List P2} {i j : Nat} {x y x' y' : Int} (h : Mem w g ys) (hi : i < ys.length) (hj : j < ys.length) (hij : i ≠ j) (h1 : cor ys i = (x, y)) (h2 : cor ys j = (x', y')) :
    Mem ((((w.setCell ⟨g, j * 2, none⟩ (.int .i64 x)).setCell ⟨g, j * 2 + 1, none⟩ (.int .i64 y)).setCell ⟨g, i * 2, none⟩ (.int .i64 x')).setCell ⟨g, i * 2 + 1, none⟩ (.int .i64 y')) g (swapIJ ys i j) := by
  have := (h.put (j := j) hj (x, y)).put (j := i) (by simpa using hi) (x', y')
  unfold swapIJ; rw [h1, h2, List.set_comm _ _ hij]; exact this
/-- The first k and the last k are exchanged. -/
def RevTo (ys zs : List P2) (k : Nat) : Prop := zs.length = ys.length ∧ ∀ m, m < ys.length → cor zs m = if m < k ∨ ys.length ≤ m + k then cor ys (ys.length - 1 - m) else cor ys m
theorem RevTo.done {ys zs : List P2} {k m : Nat} (h : RevTo ys zs k) (hk : k + m + 1 = ys.length) (hm : m ≤ k) : zs = ys.reverse := by
  apply List.ext_getElem (by simp [h.1])
  intro i h1 h2
  have e := h.2 i (by rw [← h.1]; exact h1)
  rw [cor_get h1] at e
  rw [e, List.getElem_reverse]
  have hl := h.1
  split
  · exact cor_get (by omega)
  · have : ys.length - 1 - i = i := by omega
    rw [cor_get (by omega)]
    congr 1; omega
theorem RevTo.step {ys zs : List P2} {k m : Nat} (h : RevTo ys zs k) (hk : k + m + 1 = ys.length) (hm : k < m) : RevTo ys (swapIJ zs k m) (k + 1) := by
  have hl := h.1
  refine ⟨by rw [swapIJ_len, hl], fun i hi => ?_⟩
  rw [swapIJ_cor (by omega) (by omega)]
  by_cases e1 : i = m
  · subst e1
    rw [if_pos rfl, if_pos (by omega), h.2 k (by omega), if_neg (by omega)]
    congr 1; omega
  · rw [if_neg e1]
    by_cases e2 : i = k
    · subst e2
      rw [if_pos rfl, if_pos (by omega), h.2 m (by omega), if_neg (by omega)]
      congr 1; omega
    · rw [if_neg e2, h.2 i hi]
      by_cases e3 : i < k ∨ ys.length ≤ i + k
      · rw [if_pos e3, if_pos (by omega)]
      · rw [if_neg e3, if_neg (by omega)]

set_option maxRecDepth 100000 in
set_option maxHeartbeats 6400000 in
theorem rev22_any (g n c : Nat) (xs : List P2) (w : World) (hm : Mem w g xs) (hn : xs.length = n) (h1 : 1 ≤ n) (h2 : n ≤ 2000) (hg : g < w.heap.size) :
    Calls Try.prog 59 #[.slice (some ⟨g, 0, none⟩) n c] w fun e w' => e = .returned (.tuple #[]) ∧ Mem w' g xs.reverse ∧ But g w w' := by
  have Hn := Lib.hid hn
  clear hn
  go_enter Try.func59, Try.ntmps59
  go_wp2
  go_loopw [2, 3] (fun i j wr => ∃ (k m : Nat) (ys : List P2), k + m + 1 = n ∧ i = .int .i64 k ∧ j = .int .i64 m ∧ RevTo xs ys k ∧ Mem wr g ys ∧ But g w wr) (fun i j _ => (intOf j).toNat)
  case atStart => exact ⟨0, n - 1, xs, by omega, rfl, by go_num, ⟨rfl, fun m hm => by rw [if_neg (by omega)]⟩, hm, But.refl _ _⟩
  case round =>
    obtain ⟨k, m, ys, hkm, rfl, rfl, hrev, hmem, hbut⟩ := hrel
    by_cases hlt : k < m
    · obtain ⟨j, rfl⟩ : ∃ j, m = j + 1 := ⟨m - 1, by omega⟩
      have hyl : ys.length = n := hrev.1.trans Hn.out
      have hsz := hbut.size
      obtain ⟨⟨x, y⟩, hx⟩ : ∃ x, ys[k]? = some x := ⟨_, List.getElem?_eq_getElem (by omega)⟩
      obtain ⟨⟨x', y'⟩, hx'⟩ : ∃ x, ys[j + 1]? = some x := ⟨_, List.getElem?_eq_getElem (by omega)⟩
      obtain ⟨c1, c2, f1, f2⟩ := hmem _ _ hx
      obtain ⟨c3, c4, f3, f4⟩ := hmem _ _ hx'
      dsimp only at c1 c2 c3 c4
      have hgw : g < wr.heap.size := by omega
      have hstep := hrev.step (m := j + 1) (by rw [Hn.out]; exact hkm) hlt
      have Hstep := Lib.hid hstep
      have Hcor := Lib.hid (cor_eq hx)
      have Hcor' := Lib.hid (cor_eq hx')
      have Hyl := Lib.hid hyl
      have Hm' := Lib.hid hmem
      have Hb' := Lib.hid hbut
      have i1 : (0 : Int) ≤ (k : Int) := by omega
      have i2 : (k : Int) < (n : Int) := by omega
      have i3 : (0 : Int) ≤ (j : Int) + 1 := by omega
      have i4 : (j : Int) + 1 < (n : Int) := by omega
      have i5 : k < n := by omega
      have i6 : j + 1 < n := by omega
      have i7 : (k : Int) < (j : Int) + 1 := by omega
      clear hx hx' hmem hbut hyl hrev hstep hm
      rw [show ((j + 1 : Nat) : Int) = (j : Int) + 1 from by omega]
      go_wp2
      go_region
      all_goals
        go_wp2
        go_roundw
        case rel => exact ⟨k + 1, j, swapIJ ys k (j + 1), by omega, by go_num, by go_num, Hstep.out, by first | exact Mem.ijA Hm'.out (by rw [Hyl.out]; exact i5) (by rw [Hyl.out]; exact i6) Hcor.out Hcor'.out | exact Mem.ijB Hm'.out (by rw [Hyl.out]; exact i5) (by rw [Hyl.out]; exact i6) (by omega) Hcor.out Hcor'.out, by (repeat (first | exact Hb'.out | simp only [But.drew_iff] | simp only [But.drewN_iff] | refine But.setCell ?_ _ _))⟩
        case measure => first | (simp [intOf]; done) | (simp [intOf]; omega)
    · have e : ys = xs.reverse := hrev.done (by rw [Hn.out]; exact hkm) (by omega)
      subst e
      have i7 : ¬ (k : Int) < (m : Int) := by omega
      go_wp2
      go_end0
      exact ⟨rfl, hmem, hbut⟩
end Go.Proofs.Ytklkkehhmmipeaa
