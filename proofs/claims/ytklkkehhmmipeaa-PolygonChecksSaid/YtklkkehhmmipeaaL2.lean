/- The walk of the statement PolygonChecks. -/
import Derived.Test.YtklkkehhmmipeaaPJ
import Derived.Test.YtklkkehhmmipeaaPN
import Derived.Test.YtklkkehhmmipeaaPQ
import Derived.Test.YtklkkehhmmipeaaPT
import Derived.Test.YtklkkehhmmipeaaPR
import Derived.Test.YtklkkehhmmipeaaPAr
namespace Go.Proofs.Ytklkkehhmmipeaa
open Go.RowKit
attribute [local go_sem ↓] Go.wp_at_zero Go.wp_at_succ

theorem few_e (A : Option Addr) (n c : Nat) (v : Bool) (w : World) (hn : n ≤ 9223372036854775807) (h : decide (n ≤ 16 ∨ 64 < n ∧ n ≤ 80) = v) :
    Calls Try.prog 12 #[.slice A n c] w fun e w' => e = .returned (.bool v) ∧ Below w.heap.size w w' :=
  (few_any A n c w hn).mono fun _ _ ⟨he, hw⟩ => ⟨by rw [he, h], hw ▸ Below.refl _ _⟩
theorem refCheck_e (A : Option Addr) (n c : Nat) (xs : List P2) (e0 : Int) (w : World) (h : Row w w.heap.size A n xs) (hn : n ≤ 2000) (he : chk xs [] = e0) :
    Calls Try.prog 13 #[.slice A n c] w fun e w' => e = .returned (.int .i64 e0) ∧ Below w.heap.size w w' := he ▸ refCheck_any A n c xs w h hn
theorem pBounds_e (A : Option Addr) (n c : Nat) (xs : List P2) (lx ly ux uy : Int) (w : World) (h : Row w w.heap.size A n xs) (hn : n ≤ 2000) (he : chk xs [] = 0) (hlo : loTo xs n = (lx, ly)) (hhi : hiTo xs n = (ux, uy)) :
    Calls Try.prog 15 #[.slice A n c] w fun e w' => e = .returned (.tuple #[v2 lx ly, v2 ux uy, .int .i64 0]) ∧ Below w.heap.size w w' := by
  have := pBounds_any A n c xs w h hn he
  rw [hlo, hhi] at this
  exact this
theorem refBounds_e (A : Option Addr) (n c : Nat) (xs : List P2) (lx ly ux uy : Int) (w : World) (h : Row w w.heap.size A n xs) (h0 : 0 < n) (hn : n ≤ 2000) (hlo : loTo xs n = (lx, ly)) (hhi : hiTo xs n = (ux, uy)) :
    Calls Try.prog 20 #[.slice A n c] w fun e w' => e = .returned (.tuple #[v2 lx ly, v2 ux uy]) ∧ Below w.heap.size w w' := by
  have := refBounds_any A n c xs w h h0 hn
  rw [hlo, hhi] at this
  exact this

set_option maxRecDepth 100000 in
set_option maxHeartbeats 16000000 in
theorem polygonChecks_no (A : Option Addr) (n c : Nat) (xs : List P2) (e0 : Int) (w : World) (h : Row w w.heap.size A n xs) (hc : A = none → c = 0) (hf : decide (n ≤ 16 ∨ 64 < n ∧ n ≤ 80) = true) (he : chk xs [] = e0) (hne : (e0 != 0) = true) :
    Calls Try.prog 3 #[.slice A n c] w fun e w' => e = .returned (.bool true) ∧ Below w.heap.size w w' := by
  have hn : n ≤ 80 := by have := of_decide_eq_true hf; omega
  have Hl := Lib.hid h.len
  have Hrow := Lib.hid h
  have Hf := Lib.hid hf
  have He := Lib.hid he
  have Hc := Lib.hid hc
  clear h hf he hc
  go_enter Try.func3, Try.ntmps3
  go_wp2_with fail
  refine (awake_any _).mono ?_
  rintro e w1 ⟨rfl, hb1⟩
  have acc1 : Below w.heap.size w w1 := below_step (by (repeat (first | with_reducible assumption | with_reducible exact Below.refl _ _ | simp only [Below.drew_iff] | simp only [Below.drewN_iff] | with_reducible refine Below.setCell ?_ (by first | omega | (simp; done) | (simp; omega)) _ | with_reducible refine Below.alloc ?_ (by first | omega | (simp; done) | (simp; omega)) _))) hb1
  have zz1 := acc1.size
  clear hb1
  go_wp2_with fail
  refine (few_e A n c _ _ (by omega) Hf.out).mono ?_
  rintro e w2 ⟨rfl, hb2⟩
  have acc2 : Below w.heap.size w w2 := below_step (by (repeat (first | with_reducible assumption | with_reducible exact Below.refl _ _ | simp only [Below.drew_iff] | simp only [Below.drewN_iff] | with_reducible refine Below.setCell ?_ (by first | omega | (simp; done) | (simp; omega)) _ | with_reducible refine Below.alloc ?_ (by first | omega | (simp; done) | (simp; omega)) _))) hb2
  have zz2 := acc2.size
  clear hb2
  go_wp2_with fail
  refine (refCheck_e A n c xs e0 _ (Hrow.out.in_ (by (repeat (first | with_reducible assumption | with_reducible exact Below.refl _ _ | simp only [Below.drew_iff] | simp only [Below.drewN_iff] | with_reducible refine Below.setCell ?_ (by first | omega | (simp; done) | (simp; omega)) _ | with_reducible refine Below.alloc ?_ (by first | omega | (simp; done) | (simp; omega)) _))) (by first | omega | (simp; omega))) (by omega) He.out).mono ?_
  rintro e w3 ⟨rfl, hb3⟩
  have acc3 : Below w.heap.size w w3 := below_step (by (repeat (first | with_reducible assumption | with_reducible exact Below.refl _ _ | simp only [Below.drew_iff] | simp only [Below.drewN_iff] | with_reducible refine Below.setCell ?_ (by first | omega | (simp; done) | (simp; omega)) _ | with_reducible refine Below.alloc ?_ (by first | omega | (simp; done) | (simp; omega)) _))) hb3
  have zz3 := acc3.size
  clear hb3
  go_wp2_with fail
  refine (pArea2_no A n c xs e0 _ (Hrow.out.in_ (by (repeat (first | with_reducible assumption | with_reducible exact Below.refl _ _ | simp only [Below.drew_iff] | simp only [Below.drewN_iff] | with_reducible refine Below.setCell ?_ (by first | omega | (simp; done) | (simp; omega)) _ | with_reducible refine Below.alloc ?_ (by first | omega | (simp; done) | (simp; omega)) _))) (by first | omega | (simp; omega))) (by omega) He.out hne).mono ?_
  rintro e w4 ⟨rfl, hb4⟩
  have acc4 : Below w.heap.size w w4 := below_step (by (repeat (first | with_reducible assumption | with_reducible exact Below.refl _ _ | simp only [Below.drew_iff] | simp only [Below.drewN_iff] | with_reducible refine Below.setCell ?_ (by first | omega | (simp; done) | (simp; omega)) _ | with_reducible refine Below.alloc ?_ (by first | omega | (simp; done) | (simp; omega)) _))) hb4
  have zz4 := acc4.size
  clear hb4
  go_wp2_with fail
  refine (pBounds_no A n c xs e0 _ (Hrow.out.in_ (by (repeat (first | with_reducible assumption | with_reducible exact Below.refl _ _ | simp only [Below.drew_iff] | simp only [Below.drewN_iff] | with_reducible refine Below.setCell ?_ (by first | omega | (simp; done) | (simp; omega)) _ | with_reducible refine Below.alloc ?_ (by first | omega | (simp; done) | (simp; omega)) _))) (by first | omega | (simp; omega))) (by omega) He.out hne).mono ?_
  rintro e w5 ⟨rfl, hb5⟩
  have acc5 : Below w.heap.size w w5 := below_step (by (repeat (first | with_reducible assumption | with_reducible exact Below.refl _ _ | simp only [Below.drew_iff] | simp only [Below.drewN_iff] | with_reducible refine Below.setCell ?_ (by first | omega | (simp; done) | (simp; omega)) _ | with_reducible refine Below.alloc ?_ (by first | omega | (simp; done) | (simp; omega)) _))) hb5
  have zz5 := acc5.size
  clear hb5
  go_wp2_with fail
  refine (pCheck_any A n c xs e0 _ (Hrow.out.in_ (by (repeat (first | with_reducible assumption | with_reducible exact Below.refl _ _ | simp only [Below.drew_iff] | simp only [Below.drewN_iff] | with_reducible refine Below.setCell ?_ (by first | omega | (simp; done) | (simp; omega)) _ | with_reducible refine Below.alloc ?_ (by first | omega | (simp; done) | (simp; omega)) _))) (by first | omega | (simp; omega))) (by omega) He.out).mono ?_
  rintro e w6 ⟨rfl, hb6⟩
  have acc6 : Below w.heap.size w w6 := below_step (by (repeat (first | with_reducible assumption | with_reducible exact Below.refl _ _ | simp only [Below.drew_iff] | simp only [Below.drewN_iff] | with_reducible refine Below.setCell ?_ (by first | omega | (simp; done) | (simp; omega)) _ | with_reducible refine Below.alloc ?_ (by first | omega | (simp; done) | (simp; omega)) _))) hb6
  have zz6 := acc6.size
  have L0_6 : Blk w6 (w5.heap.size) [.int .i64 0, .int .i64 0] 31 := Blk.kept (by ((try simp only [Blk.drew_iff]); (try simp only [Blk.drewN_iff]); (try simp only [Blk.drew_iff]); repeat (first | with_reducible assumption | with_reducible exact Blk.new _ _ _ (by first | rfl | (simp; done) | (simp; omega)) | with_reducible refine Blk.alloc ?_ _ | with_reducible refine Blk.far ?_ (by first | (simp; done) | (simp; omega) | omega) _))) hb6
  have L1_6 : Blk w6 (w5.heap.size + 1) [.int .i64 0, .int .i64 0] 31 := Blk.kept (by ((try simp only [Blk.drew_iff]); (try simp only [Blk.drewN_iff]); (try simp only [Blk.drew_iff]); repeat (first | with_reducible assumption | with_reducible exact Blk.new _ _ _ (by first | rfl | (simp; done) | (simp; omega)) | with_reducible refine Blk.alloc ?_ _ | with_reducible refine Blk.far ?_ (by first | (simp; done) | (simp; omega) | omega) _))) hb6
  clear hb6
  have l0_6 := L0_6.lt
  obtain ⟨f0_6_0, f0_6_1, f0_6_2, f0_6_3⟩ := L0_6.two
  have l1_6 := L1_6.lt
  obtain ⟨f1_6_0, f1_6_1, f1_6_2, f1_6_3⟩ := L1_6.two
  go_wp2_with fail
  refine (pReverse_any A n c xs _ (Hrow.out.in_ (by (repeat (first | with_reducible assumption | with_reducible exact Below.refl _ _ | simp only [Below.drew_iff] | simp only [Below.drewN_iff] | with_reducible refine Below.setCell ?_ (by first | omega | (simp; done) | (simp; omega)) _ | with_reducible refine Below.alloc ?_ (by first | omega | (simp; done) | (simp; omega)) _))) (by first | omega | (simp; omega))) Hc.out (by omega)).mono ?_
  rintro e w7 ⟨A7, c7, rfl, r7, hb7⟩
  rw [List.length_reverse] at r7
  have acc7 : Below w.heap.size w w7 := below_step (by (repeat (first | with_reducible assumption | with_reducible exact Below.refl _ _ | simp only [Below.drew_iff] | simp only [Below.drewN_iff] | with_reducible refine Below.setCell ?_ (by first | omega | (simp; done) | (simp; omega)) _ | with_reducible refine Below.alloc ?_ (by first | omega | (simp; done) | (simp; omega)) _))) hb7
  have zz7 := acc7.size
  have L0_7 : Blk w7 (w5.heap.size) [.int .i64 0, .int .i64 0] 31 := Blk.kept (by ((try simp only [Blk.drew_iff]); (try simp only [Blk.drewN_iff]); (try simp only [Blk.drew_iff]); repeat (first | with_reducible assumption | with_reducible exact Blk.new _ _ _ (by first | rfl | (simp; done) | (simp; omega)) | with_reducible refine Blk.alloc ?_ _ | with_reducible refine Blk.far ?_ (by first | (simp; done) | (simp; omega) | omega) _))) hb7
  have L1_7 : Blk w7 (w5.heap.size + 1) [.int .i64 0, .int .i64 0] 31 := Blk.kept (by ((try simp only [Blk.drew_iff]); (try simp only [Blk.drewN_iff]); (try simp only [Blk.drew_iff]); repeat (first | with_reducible assumption | with_reducible exact Blk.new _ _ _ (by first | rfl | (simp; done) | (simp; omega)) | with_reducible refine Blk.alloc ?_ _ | with_reducible refine Blk.far ?_ (by first | (simp; done) | (simp; omega) | omega) _))) hb7
  clear L0_6 l0_6 f0_6_0 f0_6_1 f0_6_2 f0_6_3 L1_6 l1_6 f1_6_0 f1_6_1 f1_6_2 f1_6_3
  have l0_7 := L0_7.lt
  obtain ⟨f0_7_0, f0_7_1, f0_7_2, f0_7_3⟩ := L0_7.two
  have l1_7 := L1_7.lt
  obtain ⟨f1_7_0, f1_7_1, f1_7_2, f1_7_3⟩ := L1_7.two
  go_wp2_with fail
  refine (refReverse_any A n c xs _ (Hrow.out.in_ (by (repeat (first | with_reducible assumption | with_reducible exact Below.refl _ _ | simp only [Below.drew_iff] | simp only [Below.drewN_iff] | with_reducible refine Below.setCell ?_ (by first | omega | (simp; done) | (simp; omega)) _ | with_reducible refine Below.alloc ?_ (by first | omega | (simp; done) | (simp; omega)) _))) (by first | omega | (simp; omega))) (by omega)).mono ?_
  rintro e w8 ⟨A8, c8, rfl, r8, hb8⟩
  rw [List.length_reverse] at r8
  have acc8 : Below w.heap.size w w8 := below_step (by (repeat (first | with_reducible assumption | with_reducible exact Below.refl _ _ | simp only [Below.drew_iff] | simp only [Below.drewN_iff] | with_reducible refine Below.setCell ?_ (by first | omega | (simp; done) | (simp; omega)) _ | with_reducible refine Below.alloc ?_ (by first | omega | (simp; done) | (simp; omega)) _))) hb8
  have zz8 := acc8.size
  have L0_8 : Blk w8 (w5.heap.size) [.int .i64 0, .int .i64 0] 31 := Blk.kept (by ((try simp only [Blk.drew_iff]); (try simp only [Blk.drewN_iff]); (try simp only [Blk.drew_iff]); repeat (first | with_reducible assumption | with_reducible exact Blk.new _ _ _ (by first | rfl | (simp; done) | (simp; omega)) | with_reducible refine Blk.alloc ?_ _ | with_reducible refine Blk.far ?_ (by first | (simp; done) | (simp; omega) | omega) _))) hb8
  have L1_8 : Blk w8 (w5.heap.size + 1) [.int .i64 0, .int .i64 0] 31 := Blk.kept (by ((try simp only [Blk.drew_iff]); (try simp only [Blk.drewN_iff]); (try simp only [Blk.drew_iff]); repeat (first | with_reducible assumption | with_reducible exact Blk.new _ _ _ (by first | rfl | (simp; done) | (simp; omega)) | with_reducible refine Blk.alloc ?_ _ | with_reducible refine Blk.far ?_ (by first | (simp; done) | (simp; omega) | omega) _))) hb8
  have r7' := r7.in_ hb8 hb8.size
  clear hb7 r7
  clear L0_7 l0_7 f0_7_0 f0_7_1 f0_7_2 f0_7_3 L1_7 l1_7 f1_7_0 f1_7_1 f1_7_2 f1_7_3
  have l0_8 := L0_8.lt
  obtain ⟨f0_8_0, f0_8_1, f0_8_2, f0_8_3⟩ := L0_8.two
  have l1_8 := L1_8.lt
  obtain ⟨f1_8_0, f1_8_1, f1_8_2, f1_8_3⟩ := L1_8.two
  go_wp2_with fail
  refine (sameE_any A7 xs.length c7 xs.reverse A8 xs.length c8 xs.reverse true _ r7' (by rw [Hl.out]; omega) r8 (by rw [Hl.out]; omega) (by simp [sameM])).mono ?_
  rintro e w9 ⟨rfl, hb9⟩
  have acc9 : Below w.heap.size w w9 := below_step (by (repeat (first | with_reducible assumption | with_reducible exact Below.refl _ _ | simp only [Below.drew_iff] | simp only [Below.drewN_iff] | with_reducible refine Below.setCell ?_ (by first | omega | (simp; done) | (simp; omega)) _ | with_reducible refine Below.alloc ?_ (by first | omega | (simp; done) | (simp; omega)) _))) hb9
  have zz9 := acc9.size
  have L0_9 : Blk w9 (w5.heap.size) [.int .i64 0, .int .i64 0] 31 := Blk.kept (by ((try simp only [Blk.drew_iff]); (try simp only [Blk.drewN_iff]); (try simp only [Blk.drew_iff]); repeat (first | with_reducible assumption | with_reducible exact Blk.new _ _ _ (by first | rfl | (simp; done) | (simp; omega)) | with_reducible refine Blk.alloc ?_ _ | with_reducible refine Blk.far ?_ (by first | (simp; done) | (simp; omega) | omega) _))) hb9
  have L1_9 : Blk w9 (w5.heap.size + 1) [.int .i64 0, .int .i64 0] 31 := Blk.kept (by ((try simp only [Blk.drew_iff]); (try simp only [Blk.drewN_iff]); (try simp only [Blk.drew_iff]); repeat (first | with_reducible assumption | with_reducible exact Blk.new _ _ _ (by first | rfl | (simp; done) | (simp; omega)) | with_reducible refine Blk.alloc ?_ _ | with_reducible refine Blk.far ?_ (by first | (simp; done) | (simp; omega) | omega) _))) hb9
  clear hb9 hb8 r7' r8
  clear L0_8 l0_8 f0_8_0 f0_8_1 f0_8_2 f0_8_3 L1_8 l1_8 f1_8_0 f1_8_1 f1_8_2 f1_8_3
  have l0_9 := L0_9.lt
  obtain ⟨f0_9_0, f0_9_1, f0_9_2, f0_9_3⟩ := L0_9.two
  have l1_9 := L1_9.lt
  obtain ⟨f1_9_0, f1_9_1, f1_9_2, f1_9_3⟩ := L1_9.two
  go_wp2
  go_ret
  exact ⟨ret_bool (by simp), acc9⟩

set_option maxRecDepth 100000 in
set_option maxHeartbeats 16000000 in
theorem polygonChecks_ok (A : Option Addr) (n c : Nat) (xs : List P2) (w : World) (h : Row w w.heap.size A n xs) (hc : A = none → c = 0) (hf : decide (n ≤ 16 ∨ 64 < n ∧ n ≤ 80) = true) (he : chk xs [] = 0) :
    Calls Try.prog 3 #[.slice A n c] w fun e w' => e = .returned (.bool true) ∧ Below w.heap.size w w' := by
  have hl := h.len
  obtain ⟨g1, g2, g3, _⟩ := chk_ok he
  have hn : n ≤ 64 := by omega
  have hn3 : 3 ≤ n := by omega
  obtain ⟨⟨lx, ly⟩, hlo⟩ : ∃ p, loTo xs n = p := ⟨_, rfl⟩
  obtain ⟨⟨ux, uy⟩, hhi⟩ : ∃ p, hiTo xs n = p := ⟨_, rfl⟩
  have Hl := Lib.hid hl
  have Hrow := Lib.hid h
  have Hf := Lib.hid hf
  have He := Lib.hid he
  have Hc := Lib.hid hc
  have Hlo := Lib.hid hlo
  have Hhi := Lib.hid hhi
  have Hall := Lib.hid g3
  clear h hf he hc hlo hhi g1 g2 g3 hl
  go_enter Try.func3, Try.ntmps3
  go_wp2_with fail
  refine (awake_any _).mono ?_
  rintro e w1 ⟨rfl, hb1⟩
  have acc1 : Below w.heap.size w w1 := below_step (by (repeat (first | with_reducible assumption | with_reducible exact Below.refl _ _ | simp only [Below.drew_iff] | simp only [Below.drewN_iff] | with_reducible refine Below.setCell ?_ (by first | omega | (simp; done) | (simp; omega)) _ | with_reducible refine Below.alloc ?_ (by first | omega | (simp; done) | (simp; omega)) _))) hb1
  have zz1 := acc1.size
  clear hb1
  go_wp2_with fail
  refine (few_e A n c _ _ (by omega) Hf.out).mono ?_
  rintro e w2 ⟨rfl, hb2⟩
  have acc2 : Below w.heap.size w w2 := below_step (by (repeat (first | with_reducible assumption | with_reducible exact Below.refl _ _ | simp only [Below.drew_iff] | simp only [Below.drewN_iff] | with_reducible refine Below.setCell ?_ (by first | omega | (simp; done) | (simp; omega)) _ | with_reducible refine Below.alloc ?_ (by first | omega | (simp; done) | (simp; omega)) _))) hb2
  have zz2 := acc2.size
  clear hb2
  go_wp2_with fail
  refine (refCheck_e A n c xs 0 _ (Hrow.out.in_ (by (repeat (first | with_reducible assumption | with_reducible exact Below.refl _ _ | simp only [Below.drew_iff] | simp only [Below.drewN_iff] | with_reducible refine Below.setCell ?_ (by first | omega | (simp; done) | (simp; omega)) _ | with_reducible refine Below.alloc ?_ (by first | omega | (simp; done) | (simp; omega)) _))) (by first | omega | (simp; omega))) (by omega) He.out).mono ?_
  rintro e w3 ⟨rfl, hb3⟩
  have acc3 : Below w.heap.size w w3 := below_step (by (repeat (first | with_reducible assumption | with_reducible exact Below.refl _ _ | simp only [Below.drew_iff] | simp only [Below.drewN_iff] | with_reducible refine Below.setCell ?_ (by first | omega | (simp; done) | (simp; omega)) _ | with_reducible refine Below.alloc ?_ (by first | omega | (simp; done) | (simp; omega)) _))) hb3
  have zz3 := acc3.size
  clear hb3
  go_wp2_with fail
  refine (pArea2_any A n c xs _ (Hrow.out.in_ (by (repeat (first | with_reducible assumption | with_reducible exact Below.refl _ _ | simp only [Below.drew_iff] | simp only [Below.drewN_iff] | with_reducible refine Below.setCell ?_ (by first | omega | (simp; done) | (simp; omega)) _ | with_reducible refine Below.alloc ?_ (by first | omega | (simp; done) | (simp; omega)) _))) (by first | omega | (simp; omega))) (by omega) He.out).mono ?_
  rintro e w4 ⟨rfl, hb4⟩
  have acc4 : Below w.heap.size w w4 := below_step (by (repeat (first | with_reducible assumption | with_reducible exact Below.refl _ _ | simp only [Below.drew_iff] | simp only [Below.drewN_iff] | with_reducible refine Below.setCell ?_ (by first | omega | (simp; done) | (simp; omega)) _ | with_reducible refine Below.alloc ?_ (by first | omega | (simp; done) | (simp; omega)) _))) hb4
  have zz4 := acc4.size
  clear hb4
  go_wp2_with fail
  refine (pBounds_e A n c xs lx ly ux uy _ (Hrow.out.in_ (by (repeat (first | with_reducible assumption | with_reducible exact Below.refl _ _ | simp only [Below.drew_iff] | simp only [Below.drewN_iff] | with_reducible refine Below.setCell ?_ (by first | omega | (simp; done) | (simp; omega)) _ | with_reducible refine Below.alloc ?_ (by first | omega | (simp; done) | (simp; omega)) _))) (by first | omega | (simp; omega))) (by omega) He.out Hlo.out Hhi.out).mono ?_
  rintro e w5 ⟨rfl, hb5⟩
  have acc5 : Below w.heap.size w w5 := below_step (by (repeat (first | with_reducible assumption | with_reducible exact Below.refl _ _ | simp only [Below.drew_iff] | simp only [Below.drewN_iff] | with_reducible refine Below.setCell ?_ (by first | omega | (simp; done) | (simp; omega)) _ | with_reducible refine Below.alloc ?_ (by first | omega | (simp; done) | (simp; omega)) _))) hb5
  have zz5 := acc5.size
  clear hb5
  go_wp2_with fail
  refine (pCheck_any A n c xs 0 _ (Hrow.out.in_ (by (repeat (first | with_reducible assumption | with_reducible exact Below.refl _ _ | simp only [Below.drew_iff] | simp only [Below.drewN_iff] | with_reducible refine Below.setCell ?_ (by first | omega | (simp; done) | (simp; omega)) _ | with_reducible refine Below.alloc ?_ (by first | omega | (simp; done) | (simp; omega)) _))) (by first | omega | (simp; omega))) (by omega) He.out).mono ?_
  rintro e w6 ⟨rfl, hb6⟩
  have acc6 : Below w.heap.size w w6 := below_step (by (repeat (first | with_reducible assumption | with_reducible exact Below.refl _ _ | simp only [Below.drew_iff] | simp only [Below.drewN_iff] | with_reducible refine Below.setCell ?_ (by first | omega | (simp; done) | (simp; omega)) _ | with_reducible refine Below.alloc ?_ (by first | omega | (simp; done) | (simp; omega)) _))) hb6
  have zz6 := acc6.size
  have L0_6 : Blk w6 (w5.heap.size) [.int .i64 lx, .int .i64 ly] 31 := Blk.kept (by ((try simp only [Blk.drew_iff]); (try simp only [Blk.drewN_iff]); (try simp only [Blk.drew_iff]); repeat (first | with_reducible assumption | with_reducible exact Blk.new _ _ _ (by first | rfl | (simp; done) | (simp; omega)) | with_reducible refine Blk.alloc ?_ _ | with_reducible refine Blk.far ?_ (by first | (simp; done) | (simp; omega) | omega) _))) hb6
  have L1_6 : Blk w6 (w5.heap.size + 1) [.int .i64 ux, .int .i64 uy] 31 := Blk.kept (by ((try simp only [Blk.drew_iff]); (try simp only [Blk.drewN_iff]); (try simp only [Blk.drew_iff]); repeat (first | with_reducible assumption | with_reducible exact Blk.new _ _ _ (by first | rfl | (simp; done) | (simp; omega)) | with_reducible refine Blk.alloc ?_ _ | with_reducible refine Blk.far ?_ (by first | (simp; done) | (simp; omega) | omega) _))) hb6
  clear hb6
  have l0_6 := L0_6.lt
  obtain ⟨f0_6_0, f0_6_1, f0_6_2, f0_6_3⟩ := L0_6.two
  have l1_6 := L1_6.lt
  obtain ⟨f1_6_0, f1_6_1, f1_6_2, f1_6_3⟩ := L1_6.two
  go_wp2_with fail
  refine (pReverse_any A n c xs _ (Hrow.out.in_ (by (repeat (first | with_reducible assumption | with_reducible exact Below.refl _ _ | simp only [Below.drew_iff] | simp only [Below.drewN_iff] | with_reducible refine Below.setCell ?_ (by first | omega | (simp; done) | (simp; omega)) _ | with_reducible refine Below.alloc ?_ (by first | omega | (simp; done) | (simp; omega)) _))) (by first | omega | (simp; omega))) Hc.out (by omega)).mono ?_
  rintro e w7 ⟨A7, c7, rfl, r7, hb7⟩
  rw [List.length_reverse] at r7
  have acc7 : Below w.heap.size w w7 := below_step (by (repeat (first | with_reducible assumption | with_reducible exact Below.refl _ _ | simp only [Below.drew_iff] | simp only [Below.drewN_iff] | with_reducible refine Below.setCell ?_ (by first | omega | (simp; done) | (simp; omega)) _ | with_reducible refine Below.alloc ?_ (by first | omega | (simp; done) | (simp; omega)) _))) hb7
  have zz7 := acc7.size
  have L0_7 : Blk w7 (w5.heap.size) [.int .i64 lx, .int .i64 ly] 31 := Blk.kept (by ((try simp only [Blk.drew_iff]); (try simp only [Blk.drewN_iff]); (try simp only [Blk.drew_iff]); repeat (first | with_reducible assumption | with_reducible exact Blk.new _ _ _ (by first | rfl | (simp; done) | (simp; omega)) | with_reducible refine Blk.alloc ?_ _ | with_reducible refine Blk.far ?_ (by first | (simp; done) | (simp; omega) | omega) _))) hb7
  have L1_7 : Blk w7 (w5.heap.size + 1) [.int .i64 ux, .int .i64 uy] 31 := Blk.kept (by ((try simp only [Blk.drew_iff]); (try simp only [Blk.drewN_iff]); (try simp only [Blk.drew_iff]); repeat (first | with_reducible assumption | with_reducible exact Blk.new _ _ _ (by first | rfl | (simp; done) | (simp; omega)) | with_reducible refine Blk.alloc ?_ _ | with_reducible refine Blk.far ?_ (by first | (simp; done) | (simp; omega) | omega) _))) hb7
  clear L0_6 l0_6 f0_6_0 f0_6_1 f0_6_2 f0_6_3 L1_6 l1_6 f1_6_0 f1_6_1 f1_6_2 f1_6_3
  have l0_7 := L0_7.lt
  obtain ⟨f0_7_0, f0_7_1, f0_7_2, f0_7_3⟩ := L0_7.two
  have l1_7 := L1_7.lt
  obtain ⟨f1_7_0, f1_7_1, f1_7_2, f1_7_3⟩ := L1_7.two
  go_wp2_with fail
  refine (refReverse_any A n c xs _ (Hrow.out.in_ (by (repeat (first | with_reducible assumption | with_reducible exact Below.refl _ _ | simp only [Below.drew_iff] | simp only [Below.drewN_iff] | with_reducible refine Below.setCell ?_ (by first | omega | (simp; done) | (simp; omega)) _ | with_reducible refine Below.alloc ?_ (by first | omega | (simp; done) | (simp; omega)) _))) (by first | omega | (simp; omega))) (by omega)).mono ?_
  rintro e w8 ⟨A8, c8, rfl, r8, hb8⟩
  rw [List.length_reverse] at r8
  have acc8 : Below w.heap.size w w8 := below_step (by (repeat (first | with_reducible assumption | with_reducible exact Below.refl _ _ | simp only [Below.drew_iff] | simp only [Below.drewN_iff] | with_reducible refine Below.setCell ?_ (by first | omega | (simp; done) | (simp; omega)) _ | with_reducible refine Below.alloc ?_ (by first | omega | (simp; done) | (simp; omega)) _))) hb8
  have zz8 := acc8.size
  have L0_8 : Blk w8 (w5.heap.size) [.int .i64 lx, .int .i64 ly] 31 := Blk.kept (by ((try simp only [Blk.drew_iff]); (try simp only [Blk.drewN_iff]); (try simp only [Blk.drew_iff]); repeat (first | with_reducible assumption | with_reducible exact Blk.new _ _ _ (by first | rfl | (simp; done) | (simp; omega)) | with_reducible refine Blk.alloc ?_ _ | with_reducible refine Blk.far ?_ (by first | (simp; done) | (simp; omega) | omega) _))) hb8
  have L1_8 : Blk w8 (w5.heap.size + 1) [.int .i64 ux, .int .i64 uy] 31 := Blk.kept (by ((try simp only [Blk.drew_iff]); (try simp only [Blk.drewN_iff]); (try simp only [Blk.drew_iff]); repeat (first | with_reducible assumption | with_reducible exact Blk.new _ _ _ (by first | rfl | (simp; done) | (simp; omega)) | with_reducible refine Blk.alloc ?_ _ | with_reducible refine Blk.far ?_ (by first | (simp; done) | (simp; omega) | omega) _))) hb8
  have r7' := r7.in_ hb8 hb8.size
  clear hb7 r7
  clear L0_7 l0_7 f0_7_0 f0_7_1 f0_7_2 f0_7_3 L1_7 l1_7 f1_7_0 f1_7_1 f1_7_2 f1_7_3
  have l0_8 := L0_8.lt
  obtain ⟨f0_8_0, f0_8_1, f0_8_2, f0_8_3⟩ := L0_8.two
  have l1_8 := L1_8.lt
  obtain ⟨f1_8_0, f1_8_1, f1_8_2, f1_8_3⟩ := L1_8.two
  go_wp2_with fail
  refine (sameE_any A7 xs.length c7 xs.reverse A8 xs.length c8 xs.reverse true _ r7' (by rw [Hl.out]; omega) r8 (by rw [Hl.out]; omega) (by simp [sameM])).mono ?_
  rintro e w9 ⟨rfl, hb9⟩
  have acc9 : Below w.heap.size w w9 := below_step (by (repeat (first | with_reducible assumption | with_reducible exact Below.refl _ _ | simp only [Below.drew_iff] | simp only [Below.drewN_iff] | with_reducible refine Below.setCell ?_ (by first | omega | (simp; done) | (simp; omega)) _ | with_reducible refine Below.alloc ?_ (by first | omega | (simp; done) | (simp; omega)) _))) hb9
  have zz9 := acc9.size
  have L0_9 : Blk w9 (w5.heap.size) [.int .i64 lx, .int .i64 ly] 31 := Blk.kept (by ((try simp only [Blk.drew_iff]); (try simp only [Blk.drewN_iff]); (try simp only [Blk.drew_iff]); repeat (first | with_reducible assumption | with_reducible exact Blk.new _ _ _ (by first | rfl | (simp; done) | (simp; omega)) | with_reducible refine Blk.alloc ?_ _ | with_reducible refine Blk.far ?_ (by first | (simp; done) | (simp; omega) | omega) _))) hb9
  have L1_9 : Blk w9 (w5.heap.size + 1) [.int .i64 ux, .int .i64 uy] 31 := Blk.kept (by ((try simp only [Blk.drew_iff]); (try simp only [Blk.drewN_iff]); (try simp only [Blk.drew_iff]); repeat (first | with_reducible assumption | with_reducible exact Blk.new _ _ _ (by first | rfl | (simp; done) | (simp; omega)) | with_reducible refine Blk.alloc ?_ _ | with_reducible refine Blk.far ?_ (by first | (simp; done) | (simp; omega) | omega) _))) hb9
  clear hb9 hb8 r7' r8
  clear L0_8 l0_8 f0_8_0 f0_8_1 f0_8_2 f0_8_3 L1_8 l1_8 f1_8_0 f1_8_1 f1_8_2 f1_8_3
  have l0_9 := L0_9.lt
  obtain ⟨f0_9_0, f0_9_1, f0_9_2, f0_9_3⟩ := L0_9.two
  have l1_9 := L1_9.lt
  obtain ⟨f1_9_0, f1_9_1, f1_9_2, f1_9_3⟩ := L1_9.two
  go_wp2_with fail
  refine (refBounds_e A n c xs lx ly ux uy _ (Hrow.out.in_ (by (repeat (first | with_reducible assumption | with_reducible exact Below.refl _ _ | simp only [Below.drew_iff] | simp only [Below.drewN_iff] | with_reducible refine Below.setCell ?_ (by first | omega | (simp; done) | (simp; omega)) _ | with_reducible refine Below.alloc ?_ (by first | omega | (simp; done) | (simp; omega)) _))) (by first | omega | (simp; omega))) (by omega) (by omega) Hlo.out Hhi.out).mono ?_
  rintro e w10 ⟨rfl, hb10⟩
  have acc10 : Below w.heap.size w w10 := below_step (by (repeat (first | with_reducible assumption | with_reducible exact Below.refl _ _ | simp only [Below.drew_iff] | simp only [Below.drewN_iff] | with_reducible refine Below.setCell ?_ (by first | omega | (simp; done) | (simp; omega)) _ | with_reducible refine Below.alloc ?_ (by first | omega | (simp; done) | (simp; omega)) _))) hb10
  have zz10 := acc10.size
  have L0_10 : Blk w10 (w5.heap.size) [.int .i64 lx, .int .i64 ly] 31 := Blk.kept (by ((try simp only [Blk.drew_iff]); (try simp only [Blk.drewN_iff]); (try simp only [Blk.drew_iff]); repeat (first | with_reducible assumption | with_reducible exact Blk.new _ _ _ (by first | rfl | (simp; done) | (simp; omega)) | with_reducible refine Blk.alloc ?_ _ | with_reducible refine Blk.far ?_ (by first | (simp; done) | (simp; omega) | omega) _))) hb10
  have L1_10 : Blk w10 (w5.heap.size + 1) [.int .i64 ux, .int .i64 uy] 31 := Blk.kept (by ((try simp only [Blk.drew_iff]); (try simp only [Blk.drewN_iff]); (try simp only [Blk.drew_iff]); repeat (first | with_reducible assumption | with_reducible exact Blk.new _ _ _ (by first | rfl | (simp; done) | (simp; omega)) | with_reducible refine Blk.alloc ?_ _ | with_reducible refine Blk.far ?_ (by first | (simp; done) | (simp; omega) | omega) _))) hb10
  clear hb10
  clear L0_9 l0_9 f0_9_0 f0_9_1 f0_9_2 f0_9_3 L1_9 l1_9 f1_9_0 f1_9_1 f1_9_2 f1_9_3
  have l0_10 := L0_10.lt
  obtain ⟨f0_10_0, f0_10_1, f0_10_2, f0_10_3⟩ := L0_10.two
  have l1_10 := L1_10.lt
  obtain ⟨f1_10_0, f1_10_1, f1_10_2, f1_10_3⟩ := L1_10.two
  go_wp2_with fail
  refine (refArea2_any A n c xs _ (Hrow.out.in_ (by (repeat (first | with_reducible assumption | with_reducible exact Below.refl _ _ | simp only [Below.drew_iff] | simp only [Below.drewN_iff] | with_reducible refine Below.setCell ?_ (by first | omega | (simp; done) | (simp; omega)) _ | with_reducible refine Below.alloc ?_ (by first | omega | (simp; done) | (simp; omega)) _))) (by first | omega | (simp; omega))) (by omega) Hall.out).mono ?_
  rintro e w11 ⟨rfl, hb11⟩
  have acc11 : Below w.heap.size w w11 := below_step (by (repeat (first | with_reducible assumption | with_reducible exact Below.refl _ _ | simp only [Below.drew_iff] | simp only [Below.drewN_iff] | with_reducible refine Below.setCell ?_ (by first | omega | (simp; done) | (simp; omega)) _ | with_reducible refine Below.alloc ?_ (by first | omega | (simp; done) | (simp; omega)) _))) hb11
  have zz11 := acc11.size
  have L0_11 : Blk w11 (w5.heap.size) [.int .i64 lx, .int .i64 ly] 31 := Blk.kept (by ((try simp only [Blk.drew_iff]); (try simp only [Blk.drewN_iff]); (try simp only [Blk.drew_iff]); repeat (first | with_reducible assumption | with_reducible exact Blk.new _ _ _ (by first | rfl | (simp; done) | (simp; omega)) | with_reducible refine Blk.alloc ?_ _ | with_reducible refine Blk.far ?_ (by first | (simp; done) | (simp; omega) | omega) _))) hb11
  have L1_11 : Blk w11 (w5.heap.size + 1) [.int .i64 ux, .int .i64 uy] 31 := Blk.kept (by ((try simp only [Blk.drew_iff]); (try simp only [Blk.drewN_iff]); (try simp only [Blk.drew_iff]); repeat (first | with_reducible assumption | with_reducible exact Blk.new _ _ _ (by first | rfl | (simp; done) | (simp; omega)) | with_reducible refine Blk.alloc ?_ _ | with_reducible refine Blk.far ?_ (by first | (simp; done) | (simp; omega) | omega) _))) hb11
  have L2_11 : Blk w11 (w10.heap.size) [.int .i64 lx, .int .i64 ly] 31 := Blk.kept (by ((try simp only [Blk.drew_iff]); (try simp only [Blk.drewN_iff]); (try simp only [Blk.drew_iff]); repeat (first | with_reducible assumption | with_reducible exact Blk.new _ _ _ (by first | rfl | (simp; done) | (simp; omega)) | with_reducible refine Blk.alloc ?_ _ | with_reducible refine Blk.far ?_ (by first | (simp; done) | (simp; omega) | omega) _))) hb11
  have L3_11 : Blk w11 (w10.heap.size + 1) [.int .i64 ux, .int .i64 uy] 31 := Blk.kept (by ((try simp only [Blk.drew_iff]); (try simp only [Blk.drewN_iff]); (try simp only [Blk.drew_iff]); repeat (first | with_reducible assumption | with_reducible exact Blk.new _ _ _ (by first | rfl | (simp; done) | (simp; omega)) | with_reducible refine Blk.alloc ?_ _ | with_reducible refine Blk.far ?_ (by first | (simp; done) | (simp; omega) | omega) _))) hb11
  clear hb11
  clear L0_10 l0_10 f0_10_0 f0_10_1 f0_10_2 f0_10_3 L1_10 l1_10 f1_10_0 f1_10_1 f1_10_2 f1_10_3
  have l0_11 := L0_11.lt
  obtain ⟨f0_11_0, f0_11_1, f0_11_2, f0_11_3⟩ := L0_11.two
  have l1_11 := L1_11.lt
  obtain ⟨f1_11_0, f1_11_1, f1_11_2, f1_11_3⟩ := L1_11.two
  have l2_11 := L2_11.lt
  obtain ⟨f2_11_0, f2_11_1, f2_11_2, f2_11_3⟩ := L2_11.two
  have l3_11 := L3_11.lt
  obtain ⟨f3_11_0, f3_11_1, f3_11_2, f3_11_3⟩ := L3_11.two
  go_wp2
  go_ret
  exact ⟨ret_bool (by simp), acc11⟩

theorem polygonChecks_any (A : Option Addr) (n c : Nat) (xs : List P2) (w : World) (h : Row w w.heap.size A n xs) (hb : n ≤ maxLen) (hc : A = none → c = 0) :
    Calls Try.prog 3 #[.slice A n c] w fun e w' => e = .returned (.bool true) ∧ Below w.heap.size w w' := by
  cases hf : decide (n ≤ 16 ∨ 64 < n ∧ n ≤ 80)
  · have Hf := Lib.hid hf
    clear hf
    have hb' : n ≤ 9223372036854775807 := by unfold maxLen at hb; omega
    go_enter Try.func3, Try.ntmps3
    go_wp2_with fail
    refine (awake_any _).mono ?_
    rintro e w1 ⟨rfl, hb1⟩
    have acc1 : Below w.heap.size w w1 := below_step (by (repeat (first | with_reducible assumption | with_reducible exact Below.refl _ _ | simp only [Below.drew_iff] | simp only [Below.drewN_iff] | with_reducible refine Below.setCell ?_ (by first | omega | (simp; done) | (simp; omega)) _ | with_reducible refine Below.alloc ?_ (by first | omega | (simp; done) | (simp; omega)) _))) hb1
    have zz1 := acc1.size
    clear hb1
    go_wp2_with fail
    refine (few_e A n c _ _ hb' Hf.out).mono ?_
    rintro e w2 ⟨rfl, hb2⟩
    have acc2 : Below w.heap.size w w2 := below_step (by (repeat (first | with_reducible assumption | with_reducible exact Below.refl _ _ | simp only [Below.drew_iff] | simp only [Below.drewN_iff] | with_reducible refine Below.setCell ?_ (by first | omega | (simp; done) | (simp; omega)) _ | with_reducible refine Below.alloc ?_ (by first | omega | (simp; done) | (simp; omega)) _))) hb2
    have zz2 := acc2.size
    clear hb2
    go_wp2
    go_ret
    exact ⟨rfl, acc2⟩
  · by_cases he : chk xs [] = 0
    · exact polygonChecks_ok A n c xs w h hc hf he
    · exact polygonChecks_no A n c xs _ w h hc hf rfl (by simpa using he)
end Go.Proofs.Ytklkkehhmmipeaa
