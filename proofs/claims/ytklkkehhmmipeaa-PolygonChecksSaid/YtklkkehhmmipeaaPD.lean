/- Package polygon: simple, for corners that are allowed. -/
import Derived.Test.YtklkkehhmmipeaaPC
namespace Go.Proofs.Ytklkkehhmmipeaa
open Go.RowKit
attribute [local go_sem ↓] Go.wp_at_zero Go.wp_at_succ

def permit (n i k : Nat) : Int := if (i : Int) - k = 1 ∨ (i : Int) - k = (n : Int) - 1 then 1 else 0
/-- How many points the sides k and i have in common. -/
def sides (xs : List P2) (k i : Nat) : Int := meetM (cor xs k) (nxt xs k) (cor xs i) (nxt xs i)
def fineAt (xs : List P2) (i k : Nat) : Bool := decide (sides xs k i ≤ permit xs.length i k)
def simpleM (xs : List P2) : Bool := (List.range xs.length).all fun i => (List.range i).all (fineAt xs i)
theorem all_range_succ {f : Nat → Bool} {k : Nat} (h : (List.range k).all f = true) (hk : f k = true) : (List.range (k + 1)).all f = true := by
  rw [List.range_succ, List.all_append, h]; simp [hk]
theorem all_range_not {f : Nat → Bool} {k n : Nat} (hk : k < n) (h : f k = false) : (List.range n).all f = false := List.all_eq_false.2 ⟨k, List.mem_range.2 hk, by simp [h]⟩
theorem le_cases {b : Bool} {p q : Int} (h : b = decide (q ≤ p)) : (p < q ∧ b = false) ∨ (¬ p < q ∧ b = true) := by
  by_cases g : p < q
  · exact .inl ⟨g, by rw [h]; exact decide_eq_false (by omega)⟩
  · exact .inr ⟨g, by rw [h]; exact decide_eq_true (by omega)⟩
theorem simple_no {xs : List P2} {i k : Nat} (hi : i < xs.length) (hk : k < i) (h : fineAt xs i k = false) : simpleM xs = false := all_range_not hi (all_range_not hk h)
theorem meet_ok {a b c d : P2} (h1 : inP a.1 a.2 = true) (h2 : inP b.1 b.2 = true) (h3 : inP c.1 c.2 = true) (h4 : inP d.1 d.2 = true) :
    meetV a.1 a.2 b.1 b.2 c.1 c.2 d.1 d.2 = .tuple #[.int .i64 (meetM a b c d), .int .i64 0] := by
  unfold meetV; rw [h1, h2, h3, h4]; rfl

set_option maxRecDepth 100000 in
set_option maxHeartbeats 6400000 in
theorem simple_any (A : Option Addr) (n c : Nat) (xs : List P2) (w : World) (h : Row w w.heap.size A n xs) (hn : n ≤ 64) (hall : allP xs = true) :
    Calls Try.prog 43 #[.slice A n c] w fun e w' => e = .returned (.bool (simpleM xs)) ∧ Below w.heap.size w w' := by
  have hl := h.len
  have Hall := Lib.hid hall
  have Hl := Lib.hid hl
  clear hall hl
  go_enter Try.func43, Try.ntmps43
  go_wp2
  go_loopw [10] (fun i wr => ∃ k : Nat, k ≤ n ∧ i = .int .i64 k ∧ (List.range k).all (fun i => (List.range i).all (fineAt xs i)) = true ∧ Below w.heap.size w wr) (fun i _ => n - (intOf i).toNat)
  case atStart => exact ⟨0, Nat.zero_le _, rfl, rfl, Below.refl _ _⟩
  case round =>
    obtain ⟨i, hi, rfl, hdone, hbelo⟩ := hrel
    have Hdone := Lib.hid hdone
    clear hdone
    by_cases hlti : i < n
    · have Hbelo := Lib.hid hbelo
      clear hbelo
      rename World => wo
      go_wp2
      go_loopw [14] (fun j wr => ∃ k : Nat, k ≤ i ∧ j = .int .i64 k ∧ (List.range k).all (fineAt xs i) = true ∧ Below w.heap.size w wr) (fun j _ => i - (intOf j).toNat)
      case atStart => exact ⟨0, Nat.zero_le _, rfl, rfl, Hbelo.out⟩
      case round =>
        obtain ⟨k, hk, rfl, hno, hbel⟩ := hrel
        have Hno := Lib.hid hno
        clear hno
        by_cases hlt : k < i
        · obtain ⟨b, off, xk, yk, hA, hbB, hxk, hc1, hc2⟩ := h.at_ (show k < n by omega)
          obtain ⟨b', off', xi, yi, hA', hbB', hxi, hc3, hc4⟩ := h.at_ hlti
          subst hA
          obtain ⟨rfl, rfl⟩ : b = b' ∧ off = off' := by simpa using hA'
          obtain ⟨mk, uk, vk, hmk, _, hmlk, huk, hnk⟩ := next_is (k := k) Hl.out (by omega)
          obtain ⟨mi, ui, vi, hmi, _, hmli, hui, hni⟩ := next_is (k := i) Hl.out (by omega)
          have hW : ∀ W, Below w.heap.size w W → W.cell? ⟨b, off + k * 2, none⟩ = some (.int .i64 xk) ∧ W.cell? ⟨b, off + k * 2 + 1, none⟩ = some (.int .i64 yk) ∧ W.cell? ⟨b, off + i * 2, none⟩ = some (.int .i64 xi) ∧ W.cell? ⟨b, off + i * 2 + 1, none⟩ = some (.int .i64 yi) := fun W hb =>
            ⟨(hb.cell (p := ⟨b, _, none⟩) hbB).trans hc1, (hb.cell (p := ⟨b, _, none⟩) hbB).trans hc2, (hb.cell (p := ⟨b, _, none⟩) hbB).trans hc3, (hb.cell (p := ⟨b, _, none⟩) hbB).trans hc4⟩
          have HW := Lib.hid hW
          obtain ⟨s1, s2, s3, s4⟩ := hW _ hbel
          have hsz := hbel.size
          have i0 : k < n := by omega
          have i1 : (0 : Int) ≤ (k : Int) := by omega
          have i2 : (k : Int) < (n : Int) := by omega
          have i3 : (0 : Int) ≤ (i : Int) := by omega
          have i4 : (i : Int) < (n : Int) := by omega
          have hmeet := fun W => vmeet_any xk yk uk vk xi yi ui vi W
          have hf : sides xs k i = meetM (xk, yk) (uk, vk) (xi, yi) (ui, vi) := by unfold sides; rw [cor_eq hxk, cor_eq hxi, hnk, hni]
          rw [meet_ok (a := (xk, yk)) (b := (uk, vk)) (c := (xi, yi)) (d := (ui, vi)) (inP_at' Hall.out hxk) (inP_at' Hall.out huk) (inP_at' Hall.out hxi) (inP_at' Hall.out hui), ← hf] at hmeet
          obtain ⟨q, hq⟩ : ∃ q, sides xs k i = q := ⟨_, rfl⟩
          rw [hq] at hmeet
          have hd : fineAt xs i k = decide (q ≤ permit n i k) := by unfold fineAt; rw [hq, Hl.out]
          have Hmeet := Lib.hid hmeet
          have Hd := Lib.hid hd
          have Hmk := Lib.hid hmk
          have Hmi := Lib.hid hmi
          have Huk := Lib.hid huk
          have Hui := Lib.hid hui
          have Hrow := Lib.hid h
          clear hmeet hd hmk hmi huk hui hnk hni hxk hxi hW hc1 hc2 hc3 hc4 hf hq h hA'
          rcases (show (((i : Int) - k == 1) = true ∧ permit n i k = 1) ∨ (((i : Int) - k == 1) = false ∧ ((i : Int) - k == (n : Int) - 1) = true ∧ permit n i k = 1) ∨ (((i : Int) - k == 1) = false ∧ ((i : Int) - k == (n : Int) - 1) = false ∧ permit n i k = 0) by simp only [beq_iff_eq, beq_eq_false_iff_ne]; unfold permit; omega) with ⟨g1, hp⟩ | ⟨g1, g2, hp⟩ | ⟨g1, g2, hp⟩
          all_goals
            rw [hp] at Hd
            clear hp
            rcases le_cases Hd.out with ⟨g3, hf⟩ | ⟨g3, hf⟩
            · have Hf := Lib.hid hf
              clear hf Hd
              go_wp2_with fail
              go_region_held3 (fun w' => w'.cell? ⟨b, off + k * 2, none⟩ = some (.int .i64 xk) ∧ w'.cell? ⟨b, off + k * 2 + 1, none⟩ = some (.int .i64 yk) ∧ w'.cell? ⟨b, off + i * 2, none⟩ = some (.int .i64 xi) ∧ w'.cell? ⟨b, off + i * 2 + 1, none⟩ = some (.int .i64 yi))
                (first | (refine ⟨?_, ?_, ?_, ?_⟩ <;> with_reducible assumption) | exact ⟨(HW.out _ (by (repeat (first | with_reducible assumption | with_reducible exact Below.refl _ _ | simp only [Below.drew_iff] | simp only [Below.drewN_iff] | with_reducible refine Below.setCell ?_ (by first | omega | (simp; done) | (simp; omega)) _ | with_reducible refine Below.alloc ?_ (by first | omega | (simp; done) | (simp; omega)) _)))).1, (HW.out _ (by (repeat (first | with_reducible assumption | with_reducible exact Below.refl _ _ | simp only [Below.drew_iff] | simp only [Below.drewN_iff] | with_reducible refine Below.setCell ?_ (by first | omega | (simp; done) | (simp; omega)) _ | with_reducible refine Below.alloc ?_ (by first | omega | (simp; done) | (simp; omega)) _)))).2.1, (HW.out _ (by (repeat (first | with_reducible assumption | with_reducible exact Below.refl _ _ | simp only [Below.drew_iff] | simp only [Below.drewN_iff] | with_reducible refine Below.setCell ?_ (by first | omega | (simp; done) | (simp; omega)) _ | with_reducible refine Below.alloc ?_ (by first | omega | (simp; done) | (simp; omega)) _)))).2.2.1, (HW.out _ (by (repeat (first | with_reducible assumption | with_reducible exact Below.refl _ _ | simp only [Below.drew_iff] | simp only [Below.drewN_iff] | with_reducible refine Below.setCell ?_ (by first | omega | (simp; done) | (simp; omega)) _ | with_reducible refine Below.alloc ?_ (by first | omega | (simp; done) | (simp; omega)) _)))).2.2.2⟩ | go_keep)
                (first
                  | (go_at_call 63; (have tok := hb2; clear tok); (fail_if_success (have tok := hb3)); refine (Hmeet.out _).mono ?_; rintro e w3 ⟨rfl, hb3⟩; have acc3 : Below w.heap.size w w3 := below_step (by (repeat (first | with_reducible assumption | with_reducible exact Below.refl _ _ | simp only [Below.drew_iff] | simp only [Below.drewN_iff] | with_reducible refine Below.setCell ?_ (by first | omega | (simp; done) | (simp; omega)) _ | with_reducible refine Below.alloc ?_ (by first | omega | (simp; done) | (simp; omega)) _))) hb3; have zz3 := acc3.size; obtain ⟨s3_0, s3_1, s3_2, s3_3⟩ := HW.out _ acc3)
                  | (go_at_call 44; (have tok := hb1; clear tok); (fail_if_success (have tok := hb2)); refine (next_any _ _ _ xs i mi ui vi _ w.heap.size (Row.below Hrow.out (by (repeat (first | with_reducible assumption | with_reducible exact Below.refl _ _ | simp only [Below.drew_iff] | simp only [Below.drewN_iff] | with_reducible refine Below.setCell ?_ (by first | omega | (simp; done) | (simp; omega)) _ | with_reducible refine Below.alloc ?_ (by first | omega | (simp; done) | (simp; omega)) _)))) (by first | omega | (simp; done) | (simp; omega)) (by omega) (by omega) (by omega) Hmi.out Hui.out).mono ?_; rintro e w2 ⟨rfl, hb2⟩; have acc2 : Below w.heap.size w w2 := below_step (by (repeat (first | with_reducible assumption | with_reducible exact Below.refl _ _ | simp only [Below.drew_iff] | simp only [Below.drewN_iff] | with_reducible refine Below.setCell ?_ (by first | omega | (simp; done) | (simp; omega)) _ | with_reducible refine Below.alloc ?_ (by first | omega | (simp; done) | (simp; omega)) _))) hb2; have zz2 := acc2.size; obtain ⟨s2_0, s2_1, s2_2, s2_3⟩ := HW.out _ acc2)
                  | (go_at_call 44; (fail_if_success (have tok := hb1)); refine (next_any _ _ _ xs k mk uk vk _ w.heap.size (Row.below Hrow.out (by (repeat (first | with_reducible assumption | with_reducible exact Below.refl _ _ | simp only [Below.drew_iff] | simp only [Below.drewN_iff] | with_reducible refine Below.setCell ?_ (by first | omega | (simp; done) | (simp; omega)) _ | with_reducible refine Below.alloc ?_ (by first | omega | (simp; done) | (simp; omega)) _)))) (by first | omega | (simp; done) | (simp; omega)) (by omega) (by omega) (by omega) Hmk.out Huk.out).mono ?_; rintro e w1 ⟨rfl, hb1⟩; have acc1 : Below w.heap.size w w1 := below_step (by (repeat (first | with_reducible assumption | with_reducible exact Below.refl _ _ | simp only [Below.drew_iff] | simp only [Below.drewN_iff] | with_reducible refine Below.setCell ?_ (by first | omega | (simp; done) | (simp; omega)) _ | with_reducible refine Below.alloc ?_ (by first | omega | (simp; done) | (simp; omega)) _))) hb1; have zz1 := acc1.size; obtain ⟨s1_0, s1_1, s1_2, s1_3⟩ := HW.out _ acc1))
              go_wp2
              go_ret
              exact ⟨ret_bool (simple_no (xs := xs) (i := i) (k := k) (by rw [Hl.out]; exact hlti) hlt Hf.out).symm, (by (repeat (first | with_reducible assumption | with_reducible exact Below.refl _ _ | simp only [Below.drew_iff] | simp only [Below.drewN_iff] | with_reducible refine Below.setCell ?_ (by first | omega | (simp; done) | (simp; omega)) _ | with_reducible refine Below.alloc ?_ (by first | omega | (simp; done) | (simp; omega)) _)))⟩
            · have Hf := Lib.hid hf
              clear hf Hd
              go_wp2_with fail
              go_region_held3 (fun w' => w'.cell? ⟨b, off + k * 2, none⟩ = some (.int .i64 xk) ∧ w'.cell? ⟨b, off + k * 2 + 1, none⟩ = some (.int .i64 yk) ∧ w'.cell? ⟨b, off + i * 2, none⟩ = some (.int .i64 xi) ∧ w'.cell? ⟨b, off + i * 2 + 1, none⟩ = some (.int .i64 yi))
                (first | (refine ⟨?_, ?_, ?_, ?_⟩ <;> with_reducible assumption) | exact ⟨(HW.out _ (by (repeat (first | with_reducible assumption | with_reducible exact Below.refl _ _ | simp only [Below.drew_iff] | simp only [Below.drewN_iff] | with_reducible refine Below.setCell ?_ (by first | omega | (simp; done) | (simp; omega)) _ | with_reducible refine Below.alloc ?_ (by first | omega | (simp; done) | (simp; omega)) _)))).1, (HW.out _ (by (repeat (first | with_reducible assumption | with_reducible exact Below.refl _ _ | simp only [Below.drew_iff] | simp only [Below.drewN_iff] | with_reducible refine Below.setCell ?_ (by first | omega | (simp; done) | (simp; omega)) _ | with_reducible refine Below.alloc ?_ (by first | omega | (simp; done) | (simp; omega)) _)))).2.1, (HW.out _ (by (repeat (first | with_reducible assumption | with_reducible exact Below.refl _ _ | simp only [Below.drew_iff] | simp only [Below.drewN_iff] | with_reducible refine Below.setCell ?_ (by first | omega | (simp; done) | (simp; omega)) _ | with_reducible refine Below.alloc ?_ (by first | omega | (simp; done) | (simp; omega)) _)))).2.2.1, (HW.out _ (by (repeat (first | with_reducible assumption | with_reducible exact Below.refl _ _ | simp only [Below.drew_iff] | simp only [Below.drewN_iff] | with_reducible refine Below.setCell ?_ (by first | omega | (simp; done) | (simp; omega)) _ | with_reducible refine Below.alloc ?_ (by first | omega | (simp; done) | (simp; omega)) _)))).2.2.2⟩ | go_keep)
                (first
                  | (go_at_call 63; (have tok := hb2; clear tok); (fail_if_success (have tok := hb3)); refine (Hmeet.out _).mono ?_; rintro e w3 ⟨rfl, hb3⟩; have acc3 : Below w.heap.size w w3 := below_step (by (repeat (first | with_reducible assumption | with_reducible exact Below.refl _ _ | simp only [Below.drew_iff] | simp only [Below.drewN_iff] | with_reducible refine Below.setCell ?_ (by first | omega | (simp; done) | (simp; omega)) _ | with_reducible refine Below.alloc ?_ (by first | omega | (simp; done) | (simp; omega)) _))) hb3; have zz3 := acc3.size; obtain ⟨s3_0, s3_1, s3_2, s3_3⟩ := HW.out _ acc3)
                  | (go_at_call 44; (have tok := hb1; clear tok); (fail_if_success (have tok := hb2)); refine (next_any _ _ _ xs i mi ui vi _ w.heap.size (Row.below Hrow.out (by (repeat (first | with_reducible assumption | with_reducible exact Below.refl _ _ | simp only [Below.drew_iff] | simp only [Below.drewN_iff] | with_reducible refine Below.setCell ?_ (by first | omega | (simp; done) | (simp; omega)) _ | with_reducible refine Below.alloc ?_ (by first | omega | (simp; done) | (simp; omega)) _)))) (by first | omega | (simp; done) | (simp; omega)) (by omega) (by omega) (by omega) Hmi.out Hui.out).mono ?_; rintro e w2 ⟨rfl, hb2⟩; have acc2 : Below w.heap.size w w2 := below_step (by (repeat (first | with_reducible assumption | with_reducible exact Below.refl _ _ | simp only [Below.drew_iff] | simp only [Below.drewN_iff] | with_reducible refine Below.setCell ?_ (by first | omega | (simp; done) | (simp; omega)) _ | with_reducible refine Below.alloc ?_ (by first | omega | (simp; done) | (simp; omega)) _))) hb2; have zz2 := acc2.size; obtain ⟨s2_0, s2_1, s2_2, s2_3⟩ := HW.out _ acc2)
                  | (go_at_call 44; (fail_if_success (have tok := hb1)); refine (next_any _ _ _ xs k mk uk vk _ w.heap.size (Row.below Hrow.out (by (repeat (first | with_reducible assumption | with_reducible exact Below.refl _ _ | simp only [Below.drew_iff] | simp only [Below.drewN_iff] | with_reducible refine Below.setCell ?_ (by first | omega | (simp; done) | (simp; omega)) _ | with_reducible refine Below.alloc ?_ (by first | omega | (simp; done) | (simp; omega)) _)))) (by first | omega | (simp; done) | (simp; omega)) (by omega) (by omega) (by omega) Hmk.out Huk.out).mono ?_; rintro e w1 ⟨rfl, hb1⟩; have acc1 : Below w.heap.size w w1 := below_step (by (repeat (first | with_reducible assumption | with_reducible exact Below.refl _ _ | simp only [Below.drew_iff] | simp only [Below.drewN_iff] | with_reducible refine Below.setCell ?_ (by first | omega | (simp; done) | (simp; omega)) _ | with_reducible refine Below.alloc ?_ (by first | omega | (simp; done) | (simp; omega)) _))) hb1; have zz1 := acc1.size; obtain ⟨s1_0, s1_1, s1_2, s1_3⟩ := HW.out _ acc1))
              go_wp2
              go_roundw
              case rel => exact ⟨k + 1, by omega, by go_num, all_range_succ Hno.out Hf.out, (by (repeat (first | with_reducible assumption | with_reducible exact Below.refl _ _ | simp only [Below.drew_iff] | simp only [Below.drewN_iff] | with_reducible refine Below.setCell ?_ (by first | omega | (simp; done) | (simp; omega)) _ | with_reducible refine Below.alloc ?_ (by first | omega | (simp; done) | (simp; omega)) _)))⟩
              case measure => simp [intOf]; omega
        · have e : k = i := by omega
          subst e
          have hno := Hno.out
          have hdone := Hdone.out
          have hnew : (List.range (k + 1)).all (fun i => (List.range i).all (fineAt xs i)) = true := all_range_succ hdone hno
          have Hnew := Lib.hid hnew
          clear hnew hno hdone
          go_wp2
          go_roundw
          case rel => exact ⟨k + 1, by omega, by go_num, Hnew.out, hbel⟩
          case measure => simp [intOf]; omega
    · have e : i = n := by omega
      subst e
      go_wp2
      go_ret
      exact ⟨ret_bool (by unfold simpleM; rw [Hl.out, Hdone.out]), hbelo⟩
end Go.Proofs.Ytklkkehhmmipeaa
