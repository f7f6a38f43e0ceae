/- Package slices: the sort of points by insertion. -/
import Derived.Test.YtklkkehhmmipeaaPS
import Derived.BigQuiet
import Derived.BigGuard
namespace Go.Proofs.Ytklkkehhmmipeaa
open Go.RowKit
attribute [local go_sem ↓] Go.wp_at_zero Go.wp_at_succ

theorem cor_set {ys : List P2} {k : Nat} (h : k < ys.length) (x : P2) (m : Nat) : cor (ys.set k x) m = if m = k then x else cor ys m := by
  unfold cor
  rw [List.getD_eq_getElem?_getD, List.getElem?_set]
  by_cases e : k = m
  · rw [if_pos e, if_pos e.symm, if_pos (e ▸ h)]; rfl
  · rw [if_neg e, if_neg (fun q => e q.symm), ← List.getD_eq_getElem?_getD]
theorem cor_get {ys : List P2} {k : Nat} (h : k < ys.length) : cor ys k = ys[k] := by unfold cor; rw [List.getD_eq_getElem?_getD, List.getElem?_eq_getElem h]; rfl
theorem not_bef_trans {a b c : P2} (h : ¬ bef b a) (k : ¬ bef c b) : ¬ bef c a := by unfold bef at *; omega
def SortedTo (ys : List P2) (i : Nat) : Prop := ∀ a b, a < b → b < i → ¬ bef (cor ys b) (cor ys a)
/-- Sorted up to i, but for what the element j has before it. -/
def SortedBut (ys : List P2) (i j : Nat) : Prop := ∀ a b, a < b → b ≤ i → b ≠ j → ¬ bef (cor ys b) (cor ys a)
theorem SortedBut.start {ys : List P2} {i : Nat} (h : SortedTo ys i) : SortedBut ys i i := fun a b hab hb hne => h a b hab (by omega)
theorem SortedBut.first {ys : List P2} {i : Nat} (h : SortedBut ys i 0) : SortedTo ys (i + 1) := fun a b hab hb => h a b hab (by omega) (by omega)
theorem SortedBut.stop {ys : List P2} {i j : Nat} (h : SortedBut ys i (j + 1)) (hj : ¬ bef (cor ys (j + 1)) (cor ys j)) : SortedTo ys (i + 1) := fun a b hab hb => by
  by_cases e : b = j + 1
  · subst e
    by_cases e2 : a = j
    · subst e2; exact hj
    · exact not_bef_trans (h a j (by omega) (by omega) (by omega)) hj
  · exact h a b hab (by omega) e
def swapL (ys : List P2) (j : Nat) : List P2 := (ys.set (j + 1) (cor ys j)).set j (cor ys (j + 1))
theorem swapL_len (ys : List P2) (j : Nat) : (swapL ys j).length = ys.length := by simp [swapL]
theorem swapL_perm {ys : List P2} {j : Nat} (h : j + 1 < ys.length) : (swapL ys j).Perm ys := by
  unfold swapL
  rw [cor_get h, cor_get (show j < ys.length by omega)]
  exact List.set_set_perm h (by omega)
theorem swapL_cor {ys : List P2} {j : Nat} (h : j + 1 < ys.length) (m : Nat) : cor (swapL ys j) m = if m = j then cor ys (j + 1) else if m = j + 1 then cor ys j else cor ys m := by
  unfold swapL
  rw [cor_set (by simp; omega), cor_set h]
theorem SortedBut.swap {ys : List P2} {i j : Nat} (h : SortedBut ys i (j + 1)) (hj : bef (cor ys (j + 1)) (cor ys j)) (hi : j + 1 ≤ i) (hl : i < ys.length) : SortedBut (swapL ys j) i j := by
  intro a b hab hb hne
  rw [swapL_cor (by omega), swapL_cor (by omega), if_neg hne]
  by_cases e1 : b = j + 1
  · subst e1
    rw [if_pos rfl]
    by_cases e2 : a = j
    · rw [if_pos e2]; exact bef_asym hj
    · rw [if_neg e2, if_neg (by omega)]; exact h a j (by omega) (by omega) (by omega)
  · rw [if_neg e1]
    by_cases e2 : a = j
    · rw [if_pos e2]; exact h (j + 1) b (by omega) hb e1
    · rw [if_neg e2]
      by_cases e3 : a = j + 1
      · rw [if_pos e3]; exact h j b (by omega) hb e1
      · rw [if_neg e3]; exact h a b hab hb e1
theorem Mem.swapA {w : World} {g : Nat} {ys : List P2} {j : Nat} {x y x' y' : Int} (h : Mem w g ys) (hj : j + 1 < ys.length) (h1 : cor ys (j + 1) = (x, y)) (h2 : cor ys j = (x', y')) :
    Mem ((((w.setCell ⟨g, (j + 1) * 2, none⟩ (.int .i64 x')).setCell ⟨g, (j + 1) * 2 + 1, none⟩ (.int .i64 y')).setCell ⟨g, j * 2, none⟩ (.int .i64 x)).setCell ⟨g, j * 2 + 1, none⟩ (.int .i64 y)) g (swapL ys j) := by
  have := (h.put hj (x', y')).put (j := j) (by simp; omega) (x, y)
  unfold swapL; rw [h1, h2]; exact this
theorem Mem.swapB {w : World} {g : Nat} {ys : List P2} {j : Nat} {x y x' y' : Int} (h : Mem w g ys) (hj : j + 1 < ys.length) (h1 : cor ys (j + 1) = (x, y)) (h2 : cor ys j = (x', y')) :
    Mem ((((w.setCell ⟨g, j * 2, none⟩ (.int .i64 x)).setCell ⟨g, j * 2 + 1, none⟩ (.int .i64 y)).setCell ⟨g, (j + 1) * 2, none⟩ (.int .i64 x')).setCell ⟨g, (j + 1) * 2 + 1, none⟩ (.int .i64 y')) g (swapL ys j) := by
  have := (h.put (j := j) (by omega) (x, y)).put (j := j + 1) (by simp; omega) (x', y')
  unfold swapL; rw [h1, h2, List.set_comm _ _ (by omega)]; exact this

set_option maxRecDepth 100000 in
set_option maxHeartbeats 6400000 in
theorem inssort_any (g n c : Nat) (xs : List P2) (w : World) (hm : Mem w g xs) (hn : xs.length = n) (h1 : 1 ≤ n) (h2 : n ≤ 1000) (hg : g < w.heap.size) :
    Calls Try.prog 80 #[.slice (some ⟨g, 0, none⟩) n c, .int .i64 0, .int .i64 n, .func (.func 47) #[] #[]] w fun e w' => e = .returned (.tuple #[]) ∧ ∃ ys, ys.Perm xs ∧ SortedTo ys n ∧ Mem w' g ys ∧ But g w w' := by
  have Hn := Lib.hid hn
  clear hn
  go_enter Try.func80, Try.ntmps80
  go_wp2
  go_loopw [8] (fun i wr => ∃ (k : Nat) (ys : List P2), 1 ≤ k ∧ k ≤ n ∧ i = .int .i64 k ∧ ys.Perm xs ∧ SortedTo ys k ∧ Mem wr g ys ∧ But g w wr) (fun i _ => n - (intOf i).toNat)
  case atStart => exact ⟨1, xs, Nat.le_refl _, h1, rfl, List.Perm.refl _, fun a b hab hb => by omega, hm, But.refl _ _⟩
  case round =>
    obtain ⟨i, ys, hi1, hi, rfl, hp, hs, hmem, hbut⟩ := hrel
    by_cases hlti : i < n
    · have Hs := Lib.hid hs
      have Hp := Lib.hid hp
      have Hmem := Lib.hid hmem
      have Hbut := Lib.hid hbut
      clear hs hp hmem hbut hm
      rename World => wo
      go_wp2
      go_loopw [9] (fun j wr => ∃ (k : Nat) (zs : List P2), k ≤ i ∧ j = .int .i64 k ∧ zs.Perm xs ∧ SortedBut zs i k ∧ Mem wr g zs ∧ But g w wr) (fun j _ => (intOf j).toNat)
      case atStart => exact ⟨i, ys, Nat.le_refl _, rfl, Hp.out, SortedBut.start Hs.out, Hmem.out, Hbut.out⟩
      case round =>
        obtain ⟨k, zs, hk, rfl, hp, hs, hmem, hbut⟩ := hrel
        have hsz := hbut.size
        have hzl : zs.length = n := hp.length_eq.trans Hn.out
        rcases Nat.eq_zero_or_pos k with rfl | hpos
        · have hs' := hs.first
          have Hs' := Lib.hid hs'
          have Hp' := Lib.hid hp
          have Hm' := Lib.hid hmem
          have Hb' := Lib.hid hbut
          clear hs hs' hp hmem hbut
          go_wp2
          go_quiet (fail)
          go_wp2
          go_roundw
          case rel => exact ⟨i + 1, zs, by omega, by omega, by go_num, Hp'.out, Hs'.out, Hm'.out, But.drewN_iff.2 Hb'.out⟩
          case measure => simp [intOf]; omega
        · obtain ⟨j, rfl⟩ : ∃ j, k = j + 1 := ⟨k - 1, by omega⟩
          obtain ⟨⟨x, y⟩, hx⟩ : ∃ x, zs[j + 1]? = some x := ⟨_, List.getElem?_eq_getElem (by omega)⟩
          obtain ⟨⟨x', y'⟩, hx'⟩ : ∃ x, zs[j]? = some x := ⟨_, List.getElem?_eq_getElem (by omega)⟩
          obtain ⟨c1, c2, f1, f2⟩ := hmem _ _ hx
          obtain ⟨c3, c4, f3, f4⟩ := hmem _ _ hx'
          dsimp only at c1 c2 c3 c4
          have hgw : g < wr.heap.size := by omega
          have hW : ∀ W, Below wr.heap.size wr W → W.cell? ⟨g, (j + 1) * 2, none⟩ = some (.int .i64 x) ∧ W.cell? ⟨g, (j + 1) * 2 + 1, none⟩ = some (.int .i64 y) ∧ W.cell? ⟨g, j * 2, none⟩ = some (.int .i64 x') ∧ W.cell? ⟨g, j * 2 + 1, none⟩ = some (.int .i64 y') := fun W hb =>
            ⟨(hb.cell (p := ⟨g, _, none⟩) hgw).trans c1, (hb.cell (p := ⟨g, _, none⟩) hgw).trans c2, (hb.cell (p := ⟨g, _, none⟩) hgw).trans c3, (hb.cell (p := ⟨g, _, none⟩) hgw).trans c4⟩
          have HW := Lib.hid hW
          have HF := Lib.hid (show ∀ W, Below wr.heap.size wr W → W.frozen? ⟨g, (j + 1) * 2, none⟩ = false ∧ W.frozen? ⟨g, (j + 1) * 2 + 1, none⟩ = false ∧ W.frozen? ⟨g, j * 2, none⟩ = false ∧ W.frozen? ⟨g, j * 2 + 1, none⟩ = false from fun W hb =>
            ⟨(hb.frozen (p := ⟨g, _, none⟩) hgw).trans f1, (hb.frozen (p := ⟨g, _, none⟩) hgw).trans f2, (hb.frozen (p := ⟨g, _, none⟩) hgw).trans f3, (hb.frozen (p := ⟨g, _, none⟩) hgw).trans f4⟩)
          have hcor := cor_eq hx
          have hcor' := cor_eq hx'
          obtain ⟨v, hv⟩ : ∃ v, cmpP (x, y) (x', y') = v := ⟨_, rfl⟩
          have hcmp : ∀ W, Calls Try.prog 47 #[v2 x y, v2 x' y'] W fun e w' => e = .returned (.int .i64 v) ∧ Below W.heap.size W w' := fun W => pcompare_any x y x' y' v W hv
          have hvc : (v < 0 ∧ bef (x, y) (x', y')) ∨ (¬ v < 0 ∧ ¬ bef (x, y) (x', y')) := by
            rw [← hv]
            rcases cmpP_cases (x, y) (x', y') with ⟨q, e⟩ | ⟨q, e⟩ | ⟨q, e⟩
            · exact .inl ⟨by omega, q⟩
            · exact .inr ⟨by omega, by rw [q]; exact bef_irr _⟩
            · exact .inr ⟨by omega, bef_asym q⟩
          have Hcmp := Lib.hid hcmp
          have Hs' := Lib.hid hs
          have Hp' := Lib.hid hp
          have Hm' := Lib.hid hmem
          have Hb' := Lib.hid hbut
          have Hcor := Lib.hid hcor
          have Hcor' := Lib.hid hcor'
          have Hzl := Lib.hid hzl
          have i1 : (0 : Int) ≤ (j : Int) := by omega
          have i2 : (j : Int) < (n : Int) := by omega
          have i3 : (j : Int) + 1 < (n : Int) := by omega
          have i4 : j < n := by omega
          have i5 : j + 1 < n := by omega
          have i6 : (0 : Int) ≤ (j : Int) + 1 := by omega
          have i7 : IntKind.i64.wrap ((j : Int) + 1 - 1) = (j : Int) := by rw [Int.add_sub_cancel]; exact IntWalk.i64_in _ (by omega)
          have i8 : IntKind.i64.wrap (j : Int) = (j : Int) := IntWalk.i64_in _ (by omega)
          rw [show ((j + 1 : Nat) : Int) = (j : Int) + 1 from by omega]
          clear hx hx' hs hp hmem hbut hW hv hcmp hcor hcor' hzl
          rcases hvc with ⟨g1, hb1⟩ | ⟨g1, hb1⟩
          · have Hb1 := Lib.hid hb1
            clear hb1
            go_wp2_with fail
            go_region_held3 (fun w' => w'.cell? ⟨g, (j + 1) * 2, none⟩ = some (.int .i64 x) ∧ w'.cell? ⟨g, (j + 1) * 2 + 1, none⟩ = some (.int .i64 y) ∧ w'.cell? ⟨g, j * 2, none⟩ = some (.int .i64 x') ∧ w'.cell? ⟨g, j * 2 + 1, none⟩ = some (.int .i64 y'))
              (first | (refine ⟨?_, ?_, ?_, ?_⟩ <;> with_reducible assumption) | exact ⟨(HW.out _ (by (repeat (first | with_reducible assumption | with_reducible exact Below.refl _ _ | simp only [Below.drew_iff] | simp only [Below.drewN_iff] | with_reducible refine Below.setCell ?_ (by first | omega | (simp; done) | (simp; omega)) _ | with_reducible refine Below.alloc ?_ (by first | omega | (simp; done) | (simp; omega)) _)))).1, (HW.out _ (by (repeat (first | with_reducible assumption | with_reducible exact Below.refl _ _ | simp only [Below.drew_iff] | simp only [Below.drewN_iff] | with_reducible refine Below.setCell ?_ (by first | omega | (simp; done) | (simp; omega)) _ | with_reducible refine Below.alloc ?_ (by first | omega | (simp; done) | (simp; omega)) _)))).2.1, (HW.out _ (by (repeat (first | with_reducible assumption | with_reducible exact Below.refl _ _ | simp only [Below.drew_iff] | simp only [Below.drewN_iff] | with_reducible refine Below.setCell ?_ (by first | omega | (simp; done) | (simp; omega)) _ | with_reducible refine Below.alloc ?_ (by first | omega | (simp; done) | (simp; omega)) _)))).2.2.1, (HW.out _ (by (repeat (first | with_reducible assumption | with_reducible exact Below.refl _ _ | simp only [Below.drew_iff] | simp only [Below.drewN_iff] | with_reducible refine Below.setCell ?_ (by first | omega | (simp; done) | (simp; omega)) _ | with_reducible refine Below.alloc ?_ (by first | omega | (simp; done) | (simp; omega)) _)))).2.2.2⟩ | go_keep)
              (first
                | (go_at_call 47; (fail_if_success (have tok := hb1)); refine (Hcmp.out _).mono ?_; rintro e w1 ⟨rfl, hb1⟩; have acc1 : Below wr.heap.size wr w1 := below_step (by (repeat (first | with_reducible assumption | with_reducible exact Below.refl _ _ | simp only [Below.drew_iff] | simp only [Below.drewN_iff] | with_reducible refine Below.setCell ?_ (by first | omega | (simp; done) | (simp; omega)) _ | with_reducible refine Below.alloc ?_ (by first | omega | (simp; done) | (simp; omega)) _))) hb1; have zz1 := acc1.size; obtain ⟨s1_0, s1_1, s1_2, s1_3⟩ := HW.out _ acc1))
            obtain ⟨q1, q2, q3, q4⟩ := HF.out _ acc1
            have hm1 := Hm'.out.kept acc1 hgw
            have hb2 := But.step Hb'.out acc1
            have Hm1 := Lib.hid hm1
            have Hb2 := Lib.hid hb2
            clear hm1 hb2
            go_wp2
            go_region
            all_goals
              go_wp2
              go_roundw
              case rel => exact ⟨j, swapL zs j, by omega, by go_num, (swapL_perm (by rw [Hzl.out]; exact i5)).trans Hp'.out, SortedBut.swap Hs'.out (by rw [Hcor.out, Hcor'.out]; exact Hb1.out) (by omega) (by rw [Hzl.out]; exact hlti), by first | exact Mem.swapA Hm1.out (by rw [Hzl.out]; exact i5) Hcor.out Hcor'.out | exact Mem.swapB Hm1.out (by rw [Hzl.out]; exact i5) Hcor.out Hcor'.out, by (repeat (first | exact Hb2.out | simp only [But.drew_iff] | simp only [But.drewN_iff] | refine But.setCell ?_ _ _))⟩
              case measure => first | (simp [intOf]; done) | (simp [intOf]; omega)
          · have Hb1 := Lib.hid hb1
            clear hb1
            go_wp2_with fail
            go_region_held3 (fun w' => w'.cell? ⟨g, (j + 1) * 2, none⟩ = some (.int .i64 x) ∧ w'.cell? ⟨g, (j + 1) * 2 + 1, none⟩ = some (.int .i64 y) ∧ w'.cell? ⟨g, j * 2, none⟩ = some (.int .i64 x') ∧ w'.cell? ⟨g, j * 2 + 1, none⟩ = some (.int .i64 y'))
              (first | (refine ⟨?_, ?_, ?_, ?_⟩ <;> with_reducible assumption) | exact ⟨(HW.out _ (by (repeat (first | with_reducible assumption | with_reducible exact Below.refl _ _ | simp only [Below.drew_iff] | simp only [Below.drewN_iff] | with_reducible refine Below.setCell ?_ (by first | omega | (simp; done) | (simp; omega)) _ | with_reducible refine Below.alloc ?_ (by first | omega | (simp; done) | (simp; omega)) _)))).1, (HW.out _ (by (repeat (first | with_reducible assumption | with_reducible exact Below.refl _ _ | simp only [Below.drew_iff] | simp only [Below.drewN_iff] | with_reducible refine Below.setCell ?_ (by first | omega | (simp; done) | (simp; omega)) _ | with_reducible refine Below.alloc ?_ (by first | omega | (simp; done) | (simp; omega)) _)))).2.1, (HW.out _ (by (repeat (first | with_reducible assumption | with_reducible exact Below.refl _ _ | simp only [Below.drew_iff] | simp only [Below.drewN_iff] | with_reducible refine Below.setCell ?_ (by first | omega | (simp; done) | (simp; omega)) _ | with_reducible refine Below.alloc ?_ (by first | omega | (simp; done) | (simp; omega)) _)))).2.2.1, (HW.out _ (by (repeat (first | with_reducible assumption | with_reducible exact Below.refl _ _ | simp only [Below.drew_iff] | simp only [Below.drewN_iff] | with_reducible refine Below.setCell ?_ (by first | omega | (simp; done) | (simp; omega)) _ | with_reducible refine Below.alloc ?_ (by first | omega | (simp; done) | (simp; omega)) _)))).2.2.2⟩ | go_keep)
              (first
                | (go_at_call 47; (fail_if_success (have tok := hb1)); refine (Hcmp.out _).mono ?_; rintro e w1 ⟨rfl, hb1⟩; have acc1 : Below wr.heap.size wr w1 := below_step (by (repeat (first | with_reducible assumption | with_reducible exact Below.refl _ _ | simp only [Below.drew_iff] | simp only [Below.drewN_iff] | with_reducible refine Below.setCell ?_ (by first | omega | (simp; done) | (simp; omega)) _ | with_reducible refine Below.alloc ?_ (by first | omega | (simp; done) | (simp; omega)) _))) hb1; have zz1 := acc1.size; obtain ⟨s1_0, s1_1, s1_2, s1_3⟩ := HW.out _ acc1))
            go_wp2
            go_roundw
            case rel => exact ⟨i + 1, zs, by omega, by omega, by go_num, Hp'.out, SortedBut.stop Hs'.out (by rw [Hcor.out, Hcor'.out]; exact Hb1.out), Hm'.out.kept (by (repeat (first | with_reducible assumption | with_reducible exact Below.refl _ _ | simp only [Below.drew_iff] | simp only [Below.drewN_iff] | with_reducible refine Below.setCell ?_ (by first | omega | (simp; done) | (simp; omega)) _ | with_reducible refine Below.alloc ?_ (by first | omega | (simp; done) | (simp; omega)) _))) hgw, But.step Hb'.out (by (repeat (first | with_reducible assumption | with_reducible exact Below.refl _ _ | simp only [Below.drew_iff] | simp only [Below.drewN_iff] | with_reducible refine Below.setCell ?_ (by first | omega | (simp; done) | (simp; omega)) _ | with_reducible refine Below.alloc ?_ (by first | omega | (simp; done) | (simp; omega)) _)))⟩
            case measure => simp [intOf]; omega
    · have e : i = n := by omega
      subst e
      go_wp2
      go_end0
      exact ⟨rfl, ys, hp, hs, hmem, hbut⟩
end Go.Proofs.Ytklkkehhmmipeaa
