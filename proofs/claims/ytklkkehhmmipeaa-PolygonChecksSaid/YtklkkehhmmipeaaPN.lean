/- The reference's Check and Area2; few. -/
import Derived.Test.YtklkkehhmmipeaaPC
import Derived.Test.YtklkkehhmmipeaaPK
namespace Go.Proofs.Ytklkkehhmmipeaa
open Go.RowKit
attribute [local go_sem ↓] Go.wp_at_zero Go.wp_at_succ

theorem few_any (A : Option Addr) (n c : Nat) (w : World) (hn : n ≤ 9223372036854775807) :
    Calls Try.prog 12 #[.slice A n c] w fun e w' => e = .returned (.bool (decide (n ≤ 16 ∨ 64 < n ∧ n ≤ 80))) ∧ w = w' := by
  rcases (show n ≤ 16 ∨ (¬ n ≤ 16 ∧ n ≤ 64) ∨ (64 < n ∧ n ≤ 80) ∨ 80 < n by omega) with h | ⟨h, h'⟩ | ⟨h, h'⟩ | h
  all_goals
    go_enter Try.func12, Try.ntmps12
    go_wp2
    go_ret
    exact ⟨ret_bool (by first | (simp; done) | (simp; omega) | (rw [Bool.eq_iff_iff]; simp; omega)), rfl⟩

theorem refNext_any (A : Option Addr) (n c : Nat) (i : Int) (m : Nat) (w : World) (h0 : 0 ≤ i) (h1 : i ≤ 4000) (hp : 0 < n) (hn : n ≤ 2000) (hm : (i + 1).tmod n = m) :
    Calls Try.prog 37 #[.slice A n c, .int .i64 i] w fun e w' => e = .returned (.int .i64 m) ∧ w = w' := by
  have hne : ¬ (n : Int) = 0 := by omega
  go_enter Try.func37, Try.ntmps37
  go_wp2
  go_ret
  exact ⟨rfl, rfl⟩
theorem refNextB_any (A : Option Addr) (n c : Nat) (i : Int) (m : Nat) (w : World) (h0 : 0 ≤ i) (h1 : i ≤ 4000) (hp : 0 < n) (hn : n ≤ 2000) (hm : (i + 1).tmod n = m) :
    Calls Try.prog 37 #[.slice A n c, .int .i64 i] w fun e w' => e = .returned (.int .i64 m) ∧ Below w.heap.size w w' :=
  (refNext_any A n c i m w h0 h1 hp hn hm).mono fun _ _ ⟨he, hw⟩ => ⟨he, hw ▸ Below.refl _ _⟩

set_option maxRecDepth 100000 in
set_option maxHeartbeats 6400000 in
theorem refCheck_any (A : Option Addr) (n c : Nat) (xs : List P2) (w : World) (h : Row w w.heap.size A n xs) (hn : n ≤ 2000) :
    Calls Try.prog 13 #[.slice A n c] w fun e w' => e = .returned (.int .i64 (chk xs [])) ∧ Below w.heap.size w w' := by
  have hl := h.len
  by_cases h1 : 64 < n
  · have e : chk xs [] = 7 := by unfold chk; rw [if_pos (by omega)]
    have He := Lib.hid e
    clear e h hl
    go_enter Try.func13, Try.ntmps13
    go_wp2
    go_ret
    exact ⟨ret_int He.out.symm, Below.refl _ _⟩
  by_cases h2 : n < 3
  · have e : chk xs [] = 1 := by unfold chk; rw [if_neg (by omega), if_pos (by omega)]
    have He := Lib.hid e
    clear e h hl
    go_enter Try.func13, Try.ntmps13
    go_wp2
    go_ret
    exact ⟨ret_int He.out.symm, Below.refl _ _⟩
  have e0 : chk xs [] = if allP xs = false then 6 else if dup xs = true then 5 else 0 := by
    unfold chk; rw [if_neg (by omega), if_neg (by omega)]
    have : (allP xs && allP []) = allP xs := by simp [allP]
    rw [this]
  have He := Lib.hid e0
  have Hl := Lib.hid hl
  clear e0 hl
  go_enter Try.func13, Try.ntmps13
  go_wp2
  go_loopw [3] (fun i wr => ∃ k : Nat, k ≤ n ∧ i = .int .i64 k ∧ allP (xs.take k) = true ∧ Below w.heap.size w wr) (fun i _ => n - (intOf i).toNat)
  case atStart => exact ⟨0, Nat.zero_le _, rfl, rfl, Below.refl _ _⟩
  case round =>
    obtain ⟨k, hk, rfl, hno, hbel⟩ := hrel
    have Hno := Lib.hid hno
    clear hno
    by_cases hlt : k < n
    · obtain ⟨b, off, x, y, hA, hbB, hx, hc1, hc2⟩ := (h.below hbel).at_ hlt
      have hsz := hbel.size
      have Hx := Lib.hid hx
      subst hA
      clear hx h
      obtain ⟨v, hv⟩ : ∃ v, inP x y = v := ⟨_, rfl⟩
      have Hv := Lib.hid hv
      clear hv
      cases v
      · go_wp2_with fail
        refine (refAllowed_any x y false _ Hv.out).mono ?_
        rintro e w1 ⟨rfl, hb1⟩
        go_wp2
        go_ret
        exact ⟨ret_int (by rw [He.out, if_pos (allP_no Hx.out Hv.out)]), below_step hbel hb1⟩
      · go_wp2_with fail
        refine (refAllowed_any x y true _ Hv.out).mono ?_
        rintro e w1 ⟨rfl, hb1⟩
        go_wp2
        go_roundw
        case rel => exact ⟨k + 1, by omega, by go_num, allP_next Hx.out Hno.out Hv.out, below_step hbel hb1⟩
        case measure => simp [intOf]; omega
    · have e : n = k := by omega
      subst e
      have hall : allP xs = true := by have := Hno.out; rwa [List.take_of_length_le (by rw [Hl.out]; omega)] at this
      have Hall := Lib.hid hall
      have Hbo := Lib.hid hbel
      clear hall hbel
      rename World => wo
      go_wp2
      go_loopw [4] (fun i wr => ∃ k : Nat, k ≤ n ∧ i = .int .i64 k ∧ (List.range k).any (dupAt xs) = false ∧ Below w.heap.size w wr) (fun i _ => n - (intOf i).toNat)
      case atStart => exact ⟨0, Nat.zero_le _, rfl, rfl, Hbo.out⟩
      case round =>
        obtain ⟨k, hk, rfl, hno, hbel⟩ := hrel
        have Hno2 := Lib.hid hno
        clear hno
        by_cases hlt : k < n
        · obtain ⟨b, off, x, y, hA, hbB, hx, hc1, hc2⟩ := h.at_ hlt
          obtain ⟨m, x2, y2, hm, hm', hml, hx2, hnx⟩ := next_is (k := k) Hl.out (by omega)
          obtain ⟨b', off', x2', y2', hA', _, hx2', hc3, hc4⟩ := h.at_ hml
          subst hA
          obtain ⟨rfl, rfl⟩ : b' = b ∧ off' = off := by simpa [eq_comm] using hA'
          obtain ⟨rfl, rfl⟩ : x2' = x2 ∧ y2' = y2 := by rw [hx2] at hx2'; simpa [eq_comm] using hx2'
          have hW : ∀ W, Below w.heap.size w W → W.cell? ⟨b', off' + k * 2, none⟩ = some (.int .i64 x) ∧ W.cell? ⟨b', off' + k * 2 + 1, none⟩ = some (.int .i64 y) ∧ W.cell? ⟨b', off' + m * 2, none⟩ = some (.int .i64 x2') ∧ W.cell? ⟨b', off' + m * 2 + 1, none⟩ = some (.int .i64 y2') := fun W hb =>
            ⟨(hb.cell (p := ⟨b', _, none⟩) hbB).trans hc1, (hb.cell (p := ⟨b', _, none⟩) hbB).trans hc2, (hb.cell (p := ⟨b', _, none⟩) hbB).trans hc3, (hb.cell (p := ⟨b', _, none⟩) hbB).trans hc4⟩
          have HW := Lib.hid hW
          obtain ⟨s1, s2, s3, s4⟩ := hW _ hbel
          have hsz := hbel.size
          have hd : dupAt xs k = decide ((x, y) = (x2', y2')) := by unfold dupAt; rw [cor_eq hx, hnx]
          have Hd := Lib.hid hd
          have Hm := Lib.hid hm
          have i1 : (0 : Int) ≤ (k : Int) := by omega
          have i2 : (k : Int) < (n : Int) := by omega
          have i3 : (0 : Int) ≤ (m : Int) := by omega
          have i4 : (m : Int) < (n : Int) := by omega
          clear hx hx2 hx2' hm hm' hnx hd hW hc1 hc2 hc3 hc4 hA' h
          have hcd : (((x = x2') = True ∧ (y = y2') = True) ∧ dupAt xs k = true) ∨ ((¬ x = x2' ∨ ((x = x2') = True ∧ ¬ y = y2')) ∧ dupAt xs k = false) := by
            simp only [eq_iff_iff, iff_true]
            by_cases g1 : x = x2'
            · by_cases g2 : y = y2'
              · exact .inl ⟨⟨g1, g2⟩, by rw [Hd.out]; simp [g1, g2]⟩
              · exact .inr ⟨.inr ⟨g1, g2⟩, by rw [Hd.out]; simp [g2]⟩
            · exact .inr ⟨.inl g1, by rw [Hd.out]; simp [g1]⟩
          rcases hcd with ⟨⟨g1, g2⟩, hd⟩ | ⟨g1, hd⟩
          · have Hd2 := Lib.hid hd
            clear hd
            go_wp2_with fail
            go_region_held3 (fun w' => w'.cell? ⟨b', off' + k * 2, none⟩ = some (.int .i64 x) ∧ w'.cell? ⟨b', off' + k * 2 + 1, none⟩ = some (.int .i64 y) ∧ w'.cell? ⟨b', off' + m * 2, none⟩ = some (.int .i64 x2') ∧ w'.cell? ⟨b', off' + m * 2 + 1, none⟩ = some (.int .i64 y2'))
              (first | (refine ⟨?_, ?_, ?_, ?_⟩ <;> with_reducible assumption) | exact ⟨(HW.out _ (by (repeat (first | with_reducible assumption | with_reducible exact Below.refl _ _ | simp only [Below.drew_iff] | simp only [Below.drewN_iff] | with_reducible refine Below.setCell ?_ (by first | omega | (simp; done) | (simp; omega)) _ | with_reducible refine Below.alloc ?_ (by first | omega | (simp; done) | (simp; omega)) _)))).1, (HW.out _ (by (repeat (first | with_reducible assumption | with_reducible exact Below.refl _ _ | simp only [Below.drew_iff] | simp only [Below.drewN_iff] | with_reducible refine Below.setCell ?_ (by first | omega | (simp; done) | (simp; omega)) _ | with_reducible refine Below.alloc ?_ (by first | omega | (simp; done) | (simp; omega)) _)))).2.1, (HW.out _ (by (repeat (first | with_reducible assumption | with_reducible exact Below.refl _ _ | simp only [Below.drew_iff] | simp only [Below.drewN_iff] | with_reducible refine Below.setCell ?_ (by first | omega | (simp; done) | (simp; omega)) _ | with_reducible refine Below.alloc ?_ (by first | omega | (simp; done) | (simp; omega)) _)))).2.2.1, (HW.out _ (by (repeat (first | with_reducible assumption | with_reducible exact Below.refl _ _ | simp only [Below.drew_iff] | simp only [Below.drewN_iff] | with_reducible refine Below.setCell ?_ (by first | omega | (simp; done) | (simp; omega)) _ | with_reducible refine Below.alloc ?_ (by first | omega | (simp; done) | (simp; omega)) _)))).2.2.2⟩ | go_keep)
              (first
                | (go_at_call 37; (fail_if_success (have tok := hb1)); refine (refNextB_any _ n _ (k : Int) m _ (by omega) (by omega) (by omega) (by omega) Hm.out).mono ?_; rintro e w1 ⟨rfl, hb1⟩; have acc1 : Below w.heap.size w w1 := below_step (by (repeat (first | with_reducible assumption | with_reducible exact Below.refl _ _ | simp only [Below.drew_iff] | simp only [Below.drewN_iff] | with_reducible refine Below.setCell ?_ (by first | omega | (simp; done) | (simp; omega)) _ | with_reducible refine Below.alloc ?_ (by first | omega | (simp; done) | (simp; omega)) _))) hb1; have zz1 := acc1.size; obtain ⟨s1_0, s1_1, s1_2, s1_3⟩ := HW.out _ acc1))
            go_wp2
            go_ret
            exact ⟨ret_int (by rw [He.out, if_neg (by rw [Hall.out]; decide), if_pos (by unfold dup; exact any_range_at (by rw [Hl.out]; exact hlt) Hd2.out)]), (by (repeat (first | with_reducible assumption | with_reducible exact Below.refl _ _ | simp only [Below.drew_iff] | simp only [Below.drewN_iff] | with_reducible refine Below.setCell ?_ (by first | omega | (simp; done) | (simp; omega)) _ | with_reducible refine Below.alloc ?_ (by first | omega | (simp; done) | (simp; omega)) _)))⟩
          · have Hd2 := Lib.hid hd
            clear hd
            rcases g1 with g1 | ⟨g1, g2⟩
            all_goals
              go_wp2_with fail
              go_region_held3 (fun w' => w'.cell? ⟨b', off' + k * 2, none⟩ = some (.int .i64 x) ∧ w'.cell? ⟨b', off' + k * 2 + 1, none⟩ = some (.int .i64 y) ∧ w'.cell? ⟨b', off' + m * 2, none⟩ = some (.int .i64 x2') ∧ w'.cell? ⟨b', off' + m * 2 + 1, none⟩ = some (.int .i64 y2'))
                (first | (refine ⟨?_, ?_, ?_, ?_⟩ <;> with_reducible assumption) | exact ⟨(HW.out _ (by (repeat (first | with_reducible assumption | with_reducible exact Below.refl _ _ | simp only [Below.drew_iff] | simp only [Below.drewN_iff] | with_reducible refine Below.setCell ?_ (by first | omega | (simp; done) | (simp; omega)) _ | with_reducible refine Below.alloc ?_ (by first | omega | (simp; done) | (simp; omega)) _)))).1, (HW.out _ (by (repeat (first | with_reducible assumption | with_reducible exact Below.refl _ _ | simp only [Below.drew_iff] | simp only [Below.drewN_iff] | with_reducible refine Below.setCell ?_ (by first | omega | (simp; done) | (simp; omega)) _ | with_reducible refine Below.alloc ?_ (by first | omega | (simp; done) | (simp; omega)) _)))).2.1, (HW.out _ (by (repeat (first | with_reducible assumption | with_reducible exact Below.refl _ _ | simp only [Below.drew_iff] | simp only [Below.drewN_iff] | with_reducible refine Below.setCell ?_ (by first | omega | (simp; done) | (simp; omega)) _ | with_reducible refine Below.alloc ?_ (by first | omega | (simp; done) | (simp; omega)) _)))).2.2.1, (HW.out _ (by (repeat (first | with_reducible assumption | with_reducible exact Below.refl _ _ | simp only [Below.drew_iff] | simp only [Below.drewN_iff] | with_reducible refine Below.setCell ?_ (by first | omega | (simp; done) | (simp; omega)) _ | with_reducible refine Below.alloc ?_ (by first | omega | (simp; done) | (simp; omega)) _)))).2.2.2⟩ | go_keep)
                (first
                  | (go_at_call 37; (fail_if_success (have tok := hb1)); refine (refNextB_any _ n _ (k : Int) m _ (by omega) (by omega) (by omega) (by omega) Hm.out).mono ?_; rintro e w1 ⟨rfl, hb1⟩; have acc1 : Below w.heap.size w w1 := below_step (by (repeat (first | with_reducible assumption | with_reducible exact Below.refl _ _ | simp only [Below.drew_iff] | simp only [Below.drewN_iff] | with_reducible refine Below.setCell ?_ (by first | omega | (simp; done) | (simp; omega)) _ | with_reducible refine Below.alloc ?_ (by first | omega | (simp; done) | (simp; omega)) _))) hb1; have zz1 := acc1.size; obtain ⟨s1_0, s1_1, s1_2, s1_3⟩ := HW.out _ acc1))
              go_wp2
              go_roundw
              case rel => exact ⟨k + 1, by omega, by go_num, any_range_succ Hno2.out Hd2.out, (by (repeat (first | with_reducible assumption | with_reducible exact Below.refl _ _ | simp only [Below.drew_iff] | simp only [Below.drewN_iff] | with_reducible refine Below.setCell ?_ (by first | omega | (simp; done) | (simp; omega)) _ | with_reducible refine Below.alloc ?_ (by first | omega | (simp; done) | (simp; omega)) _)))⟩
              case measure => simp [intOf]; omega
        · have e : k = n := by omega
          subst e
          go_wp2
          go_ret
          exact ⟨ret_int (by rw [He.out, if_neg (by rw [Hall.out]; decide), if_neg (by unfold dup; rw [Hl.out, Hno2.out]; decide)]), hbel⟩
end Go.Proofs.Ytklkkehhmmipeaa
