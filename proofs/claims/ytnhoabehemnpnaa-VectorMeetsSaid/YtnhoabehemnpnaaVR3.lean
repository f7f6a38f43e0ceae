/- The reference's Meet: one of the segments is a point. -/
import Derived.Test.YtnhoabehemnpnaaVR2
import Derived.Deep.DeepCutAuto
namespace Go.Proofs.Ytnhoabehemnpnaa
open Go.RowKit
attribute [local go_sem ↓] Go.wp_at_zero Go.wp_at_succ

set_option maxRecDepth 100000 in
set_option maxHeartbeats 16000000 in
theorem meet_a1 (ax ay bx by' cx cy dx dy : Int) (w : World) (hab : (ax = bx) = True ∧ (ay = by') = True) (H1 : Hid (∀ W, Calls Try.prog 33 #[v2 cx cy, v2 dx dy, v2 ax ay] W fun e w' => e = .returned (.bool true) ∧ Below W.heap.size W w')) :
    Calls Try.prog 35 #[v2 ax ay, v2 bx by', v2 cx cy, v2 dx dy] w fun e w' => e = .returned (.int .i64 1) ∧ Below w.heap.size w w' := by
  obtain ⟨g1, g2⟩ := hab
  go_enter Try.func35, Try.ntmps35
  go_wp2_with fail
  refine (H1.out _).mono ?_
  rintro e w1 ⟨rfl, hb1⟩
  have acc1 : Below w.heap.size w w1 := below_step (by (repeat (first | with_reducible assumption | with_reducible exact Below.refl _ _ | simp only [Below.drew_iff] | simp only [Below.drewN_iff] | with_reducible refine Below.setCell ?_ (by first | omega | (simp; done) | (simp; omega)) _ | with_reducible refine Below.alloc ?_ (by first | omega | (simp; done) | (simp; omega)) _))) hb1
  have zz1 := acc1.size
  have L0_1 : Blk w1 (w.heap.size) [.int .i64 ax, .int .i64 ay] 46 := Blk.kept (by ((try simp only [Blk.drew_iff]); (try simp only [Blk.drewN_iff]); (try simp only [Blk.drew_iff]); repeat (first | with_reducible assumption | with_reducible exact Blk.new _ _ _ (by first | rfl | (simp; done) | (simp; omega)) | with_reducible refine Blk.alloc ?_ _ | with_reducible refine Blk.far ?_ (by first | (simp; done) | (simp; omega) | omega) _))) hb1
  have L1_1 : Blk w1 (w.heap.size + 1) [.int .i64 bx, .int .i64 by'] 46 := Blk.kept (by ((try simp only [Blk.drew_iff]); (try simp only [Blk.drewN_iff]); (try simp only [Blk.drew_iff]); repeat (first | with_reducible assumption | with_reducible exact Blk.new _ _ _ (by first | rfl | (simp; done) | (simp; omega)) | with_reducible refine Blk.alloc ?_ _ | with_reducible refine Blk.far ?_ (by first | (simp; done) | (simp; omega) | omega) _))) hb1
  have L2_1 : Blk w1 (w.heap.size + 1 + 1) [.int .i64 cx, .int .i64 cy] 46 := Blk.kept (by ((try simp only [Blk.drew_iff]); (try simp only [Blk.drewN_iff]); (try simp only [Blk.drew_iff]); repeat (first | with_reducible assumption | with_reducible exact Blk.new _ _ _ (by first | rfl | (simp; done) | (simp; omega)) | with_reducible refine Blk.alloc ?_ _ | with_reducible refine Blk.far ?_ (by first | (simp; done) | (simp; omega) | omega) _))) hb1
  have L3_1 : Blk w1 (w.heap.size + 1 + 1 + 1) [.int .i64 dx, .int .i64 dy] 46 := Blk.kept (by ((try simp only [Blk.drew_iff]); (try simp only [Blk.drewN_iff]); (try simp only [Blk.drew_iff]); repeat (first | with_reducible assumption | with_reducible exact Blk.new _ _ _ (by first | rfl | (simp; done) | (simp; omega)) | with_reducible refine Blk.alloc ?_ _ | with_reducible refine Blk.far ?_ (by first | (simp; done) | (simp; omega) | omega) _))) hb1
  clear hb1
  have l0_1 := L0_1.lt
  obtain ⟨f0_1_0, f0_1_1, f0_1_2, f0_1_3⟩ := L0_1.two
  have l1_1 := L1_1.lt
  obtain ⟨f1_1_0, f1_1_1, f1_1_2, f1_1_3⟩ := L1_1.two
  have l2_1 := L2_1.lt
  obtain ⟨f2_1_0, f2_1_1, f2_1_2, f2_1_3⟩ := L2_1.two
  have l3_1 := L3_1.lt
  obtain ⟨f3_1_0, f3_1_1, f3_1_2, f3_1_3⟩ := L3_1.two
  go_wp2
  go_ret
  exact ⟨rfl, acc1⟩

set_option maxRecDepth 100000 in
set_option maxHeartbeats 16000000 in
theorem meet_a2 (ax ay bx by' cx cy dx dy : Int) (w : World) (hab : (ax = bx) = True ∧ (ay = by') = True) (hcd : ¬ cx = dx ∨ ((cx = dx) = True ∧ ¬ cy = dy)) (H1 : Hid (∀ W, Calls Try.prog 33 #[v2 cx cy, v2 dx dy, v2 ax ay] W fun e w' => e = .returned (.bool false) ∧ Below W.heap.size W w')) :
    Calls Try.prog 35 #[v2 ax ay, v2 bx by', v2 cx cy, v2 dx dy] w fun e w' => e = .returned (.int .i64 0) ∧ Below w.heap.size w w' := by
  obtain ⟨g1, g2⟩ := hab
  rcases hcd with g3 | ⟨g3, g4⟩
  all_goals
    go_enter Try.func35, Try.ntmps35
    go_wp2_with fail
    refine (H1.out _).mono ?_
    rintro e w1 ⟨rfl, hb1⟩
    have acc1 : Below w.heap.size w w1 := below_step (by (repeat (first | with_reducible assumption | with_reducible exact Below.refl _ _ | simp only [Below.drew_iff] | simp only [Below.drewN_iff] | with_reducible refine Below.setCell ?_ (by first | omega | (simp; done) | (simp; omega)) _ | with_reducible refine Below.alloc ?_ (by first | omega | (simp; done) | (simp; omega)) _))) hb1
    have zz1 := acc1.size
    have L0_1 : Blk w1 (w.heap.size) [.int .i64 ax, .int .i64 ay] 46 := Blk.kept (by ((try simp only [Blk.drew_iff]); (try simp only [Blk.drewN_iff]); (try simp only [Blk.drew_iff]); repeat (first | with_reducible assumption | with_reducible exact Blk.new _ _ _ (by first | rfl | (simp; done) | (simp; omega)) | with_reducible refine Blk.alloc ?_ _ | with_reducible refine Blk.far ?_ (by first | (simp; done) | (simp; omega) | omega) _))) hb1
    have L1_1 : Blk w1 (w.heap.size + 1) [.int .i64 bx, .int .i64 by'] 46 := Blk.kept (by ((try simp only [Blk.drew_iff]); (try simp only [Blk.drewN_iff]); (try simp only [Blk.drew_iff]); repeat (first | with_reducible assumption | with_reducible exact Blk.new _ _ _ (by first | rfl | (simp; done) | (simp; omega)) | with_reducible refine Blk.alloc ?_ _ | with_reducible refine Blk.far ?_ (by first | (simp; done) | (simp; omega) | omega) _))) hb1
    have L2_1 : Blk w1 (w.heap.size + 1 + 1) [.int .i64 cx, .int .i64 cy] 46 := Blk.kept (by ((try simp only [Blk.drew_iff]); (try simp only [Blk.drewN_iff]); (try simp only [Blk.drew_iff]); repeat (first | with_reducible assumption | with_reducible exact Blk.new _ _ _ (by first | rfl | (simp; done) | (simp; omega)) | with_reducible refine Blk.alloc ?_ _ | with_reducible refine Blk.far ?_ (by first | (simp; done) | (simp; omega) | omega) _))) hb1
    have L3_1 : Blk w1 (w.heap.size + 1 + 1 + 1) [.int .i64 dx, .int .i64 dy] 46 := Blk.kept (by ((try simp only [Blk.drew_iff]); (try simp only [Blk.drewN_iff]); (try simp only [Blk.drew_iff]); repeat (first | with_reducible assumption | with_reducible exact Blk.new _ _ _ (by first | rfl | (simp; done) | (simp; omega)) | with_reducible refine Blk.alloc ?_ _ | with_reducible refine Blk.far ?_ (by first | (simp; done) | (simp; omega) | omega) _))) hb1
    clear hb1
    have l0_1 := L0_1.lt
    obtain ⟨f0_1_0, f0_1_1, f0_1_2, f0_1_3⟩ := L0_1.two
    have l1_1 := L1_1.lt
    obtain ⟨f1_1_0, f1_1_1, f1_1_2, f1_1_3⟩ := L1_1.two
    have l2_1 := L2_1.lt
    obtain ⟨f2_1_0, f2_1_1, f2_1_2, f2_1_3⟩ := L2_1.two
    have l3_1 := L3_1.lt
    obtain ⟨f3_1_0, f3_1_1, f3_1_2, f3_1_3⟩ := L3_1.two
    go_wp2
    go_ret
    exact ⟨rfl, acc1⟩

set_option maxRecDepth 100000 in
set_option maxHeartbeats 16000000 in
theorem meet_a3true (ax ay bx by' cx cy dx dy : Int) (w : World) (hab : (ax = bx) = True ∧ (ay = by') = True) (hcd : (cx = dx) = True ∧ (cy = dy) = True) (H1 : Hid (∀ W, Calls Try.prog 33 #[v2 cx cy, v2 dx dy, v2 ax ay] W fun e w' => e = .returned (.bool false) ∧ Below W.heap.size W w')) (H2 : Hid (∀ W, Calls Try.prog 33 #[v2 ax ay, v2 bx by', v2 cx cy] W fun e w' => e = .returned (.bool true) ∧ Below W.heap.size W w')) :
    Calls Try.prog 35 #[v2 ax ay, v2 bx by', v2 cx cy, v2 dx dy] w fun e w' => e = .returned (.int .i64 1) ∧ Below w.heap.size w w' := by
  obtain ⟨g1, g2⟩ := hab
  obtain ⟨g3, g4⟩ := hcd
  go_enter Try.func35, Try.ntmps35
  go_wp2_with fail
  refine (H1.out _).mono ?_
  rintro e w1 ⟨rfl, hb1⟩
  have acc1 : Below w.heap.size w w1 := below_step (by (repeat (first | with_reducible assumption | with_reducible exact Below.refl _ _ | simp only [Below.drew_iff] | simp only [Below.drewN_iff] | with_reducible refine Below.setCell ?_ (by first | omega | (simp; done) | (simp; omega)) _ | with_reducible refine Below.alloc ?_ (by first | omega | (simp; done) | (simp; omega)) _))) hb1
  have zz1 := acc1.size
  have L0_1 : Blk w1 (w.heap.size) [.int .i64 ax, .int .i64 ay] 46 := Blk.kept (by ((try simp only [Blk.drew_iff]); (try simp only [Blk.drewN_iff]); (try simp only [Blk.drew_iff]); repeat (first | with_reducible assumption | with_reducible exact Blk.new _ _ _ (by first | rfl | (simp; done) | (simp; omega)) | with_reducible refine Blk.alloc ?_ _ | with_reducible refine Blk.far ?_ (by first | (simp; done) | (simp; omega) | omega) _))) hb1
  have L1_1 : Blk w1 (w.heap.size + 1) [.int .i64 bx, .int .i64 by'] 46 := Blk.kept (by ((try simp only [Blk.drew_iff]); (try simp only [Blk.drewN_iff]); (try simp only [Blk.drew_iff]); repeat (first | with_reducible assumption | with_reducible exact Blk.new _ _ _ (by first | rfl | (simp; done) | (simp; omega)) | with_reducible refine Blk.alloc ?_ _ | with_reducible refine Blk.far ?_ (by first | (simp; done) | (simp; omega) | omega) _))) hb1
  have L2_1 : Blk w1 (w.heap.size + 1 + 1) [.int .i64 cx, .int .i64 cy] 46 := Blk.kept (by ((try simp only [Blk.drew_iff]); (try simp only [Blk.drewN_iff]); (try simp only [Blk.drew_iff]); repeat (first | with_reducible assumption | with_reducible exact Blk.new _ _ _ (by first | rfl | (simp; done) | (simp; omega)) | with_reducible refine Blk.alloc ?_ _ | with_reducible refine Blk.far ?_ (by first | (simp; done) | (simp; omega) | omega) _))) hb1
  have L3_1 : Blk w1 (w.heap.size + 1 + 1 + 1) [.int .i64 dx, .int .i64 dy] 46 := Blk.kept (by ((try simp only [Blk.drew_iff]); (try simp only [Blk.drewN_iff]); (try simp only [Blk.drew_iff]); repeat (first | with_reducible assumption | with_reducible exact Blk.new _ _ _ (by first | rfl | (simp; done) | (simp; omega)) | with_reducible refine Blk.alloc ?_ _ | with_reducible refine Blk.far ?_ (by first | (simp; done) | (simp; omega) | omega) _))) hb1
  clear hb1
  have l0_1 := L0_1.lt
  obtain ⟨f0_1_0, f0_1_1, f0_1_2, f0_1_3⟩ := L0_1.two
  have l1_1 := L1_1.lt
  obtain ⟨f1_1_0, f1_1_1, f1_1_2, f1_1_3⟩ := L1_1.two
  have l2_1 := L2_1.lt
  obtain ⟨f2_1_0, f2_1_1, f2_1_2, f2_1_3⟩ := L2_1.two
  have l3_1 := L3_1.lt
  obtain ⟨f3_1_0, f3_1_1, f3_1_2, f3_1_3⟩ := L3_1.two
  go_wp2_with fail
  refine (H2.out _).mono ?_
  rintro e w2 ⟨rfl, hb2⟩
  have acc2 : Below w.heap.size w w2 := below_step (by (repeat (first | with_reducible assumption | with_reducible exact Below.refl _ _ | simp only [Below.drew_iff] | simp only [Below.drewN_iff] | with_reducible refine Below.setCell ?_ (by first | omega | (simp; done) | (simp; omega)) _ | with_reducible refine Below.alloc ?_ (by first | omega | (simp; done) | (simp; omega)) _))) hb2
  have zz2 := acc2.size
  have L0_2 : Blk w2 (w.heap.size) [.int .i64 ax, .int .i64 ay] 46 := Blk.kept (by ((try simp only [Blk.drew_iff]); (try simp only [Blk.drewN_iff]); (try simp only [Blk.drew_iff]); repeat (first | with_reducible assumption | with_reducible exact Blk.new _ _ _ (by first | rfl | (simp; done) | (simp; omega)) | with_reducible refine Blk.alloc ?_ _ | with_reducible refine Blk.far ?_ (by first | (simp; done) | (simp; omega) | omega) _))) hb2
  have L1_2 : Blk w2 (w.heap.size + 1) [.int .i64 bx, .int .i64 by'] 46 := Blk.kept (by ((try simp only [Blk.drew_iff]); (try simp only [Blk.drewN_iff]); (try simp only [Blk.drew_iff]); repeat (first | with_reducible assumption | with_reducible exact Blk.new _ _ _ (by first | rfl | (simp; done) | (simp; omega)) | with_reducible refine Blk.alloc ?_ _ | with_reducible refine Blk.far ?_ (by first | (simp; done) | (simp; omega) | omega) _))) hb2
  have L2_2 : Blk w2 (w.heap.size + 1 + 1) [.int .i64 cx, .int .i64 cy] 46 := Blk.kept (by ((try simp only [Blk.drew_iff]); (try simp only [Blk.drewN_iff]); (try simp only [Blk.drew_iff]); repeat (first | with_reducible assumption | with_reducible exact Blk.new _ _ _ (by first | rfl | (simp; done) | (simp; omega)) | with_reducible refine Blk.alloc ?_ _ | with_reducible refine Blk.far ?_ (by first | (simp; done) | (simp; omega) | omega) _))) hb2
  have L3_2 : Blk w2 (w.heap.size + 1 + 1 + 1) [.int .i64 dx, .int .i64 dy] 46 := Blk.kept (by ((try simp only [Blk.drew_iff]); (try simp only [Blk.drewN_iff]); (try simp only [Blk.drew_iff]); repeat (first | with_reducible assumption | with_reducible exact Blk.new _ _ _ (by first | rfl | (simp; done) | (simp; omega)) | with_reducible refine Blk.alloc ?_ _ | with_reducible refine Blk.far ?_ (by first | (simp; done) | (simp; omega) | omega) _))) hb2
  clear hb2
  clear L0_1 l0_1 f0_1_0 f0_1_1 f0_1_2 f0_1_3 L1_1 l1_1 f1_1_0 f1_1_1 f1_1_2 f1_1_3 L2_1 l2_1 f2_1_0 f2_1_1 f2_1_2 f2_1_3 L3_1 l3_1 f3_1_0 f3_1_1 f3_1_2 f3_1_3
  have l0_2 := L0_2.lt
  obtain ⟨f0_2_0, f0_2_1, f0_2_2, f0_2_3⟩ := L0_2.two
  have l1_2 := L1_2.lt
  obtain ⟨f1_2_0, f1_2_1, f1_2_2, f1_2_3⟩ := L1_2.two
  have l2_2 := L2_2.lt
  obtain ⟨f2_2_0, f2_2_1, f2_2_2, f2_2_3⟩ := L2_2.two
  have l3_2 := L3_2.lt
  obtain ⟨f3_2_0, f3_2_1, f3_2_2, f3_2_3⟩ := L3_2.two
  go_wp2
  go_ret
  exact ⟨rfl, acc2⟩

set_option maxRecDepth 100000 in
set_option maxHeartbeats 16000000 in
theorem meet_a3false (ax ay bx by' cx cy dx dy : Int) (w : World) (hab : (ax = bx) = True ∧ (ay = by') = True) (hcd : (cx = dx) = True ∧ (cy = dy) = True) (H1 : Hid (∀ W, Calls Try.prog 33 #[v2 cx cy, v2 dx dy, v2 ax ay] W fun e w' => e = .returned (.bool false) ∧ Below W.heap.size W w')) (H2 : Hid (∀ W, Calls Try.prog 33 #[v2 ax ay, v2 bx by', v2 cx cy] W fun e w' => e = .returned (.bool false) ∧ Below W.heap.size W w')) :
    Calls Try.prog 35 #[v2 ax ay, v2 bx by', v2 cx cy, v2 dx dy] w fun e w' => e = .returned (.int .i64 0) ∧ Below w.heap.size w w' := by
  obtain ⟨g1, g2⟩ := hab
  obtain ⟨g3, g4⟩ := hcd
  go_enter Try.func35, Try.ntmps35
  go_wp2_with fail
  refine (H1.out _).mono ?_
  rintro e w1 ⟨rfl, hb1⟩
  have acc1 : Below w.heap.size w w1 := below_step (by (repeat (first | with_reducible assumption | with_reducible exact Below.refl _ _ | simp only [Below.drew_iff] | simp only [Below.drewN_iff] | with_reducible refine Below.setCell ?_ (by first | omega | (simp; done) | (simp; omega)) _ | with_reducible refine Below.alloc ?_ (by first | omega | (simp; done) | (simp; omega)) _))) hb1
  have zz1 := acc1.size
  have L0_1 : Blk w1 (w.heap.size) [.int .i64 ax, .int .i64 ay] 46 := Blk.kept (by ((try simp only [Blk.drew_iff]); (try simp only [Blk.drewN_iff]); (try simp only [Blk.drew_iff]); repeat (first | with_reducible assumption | with_reducible exact Blk.new _ _ _ (by first | rfl | (simp; done) | (simp; omega)) | with_reducible refine Blk.alloc ?_ _ | with_reducible refine Blk.far ?_ (by first | (simp; done) | (simp; omega) | omega) _))) hb1
  have L1_1 : Blk w1 (w.heap.size + 1) [.int .i64 bx, .int .i64 by'] 46 := Blk.kept (by ((try simp only [Blk.drew_iff]); (try simp only [Blk.drewN_iff]); (try simp only [Blk.drew_iff]); repeat (first | with_reducible assumption | with_reducible exact Blk.new _ _ _ (by first | rfl | (simp; done) | (simp; omega)) | with_reducible refine Blk.alloc ?_ _ | with_reducible refine Blk.far ?_ (by first | (simp; done) | (simp; omega) | omega) _))) hb1
  have L2_1 : Blk w1 (w.heap.size + 1 + 1) [.int .i64 cx, .int .i64 cy] 46 := Blk.kept (by ((try simp only [Blk.drew_iff]); (try simp only [Blk.drewN_iff]); (try simp only [Blk.drew_iff]); repeat (first | with_reducible assumption | with_reducible exact Blk.new _ _ _ (by first | rfl | (simp; done) | (simp; omega)) | with_reducible refine Blk.alloc ?_ _ | with_reducible refine Blk.far ?_ (by first | (simp; done) | (simp; omega) | omega) _))) hb1
  have L3_1 : Blk w1 (w.heap.size + 1 + 1 + 1) [.int .i64 dx, .int .i64 dy] 46 := Blk.kept (by ((try simp only [Blk.drew_iff]); (try simp only [Blk.drewN_iff]); (try simp only [Blk.drew_iff]); repeat (first | with_reducible assumption | with_reducible exact Blk.new _ _ _ (by first | rfl | (simp; done) | (simp; omega)) | with_reducible refine Blk.alloc ?_ _ | with_reducible refine Blk.far ?_ (by first | (simp; done) | (simp; omega) | omega) _))) hb1
  clear hb1
  have l0_1 := L0_1.lt
  obtain ⟨f0_1_0, f0_1_1, f0_1_2, f0_1_3⟩ := L0_1.two
  have l1_1 := L1_1.lt
  obtain ⟨f1_1_0, f1_1_1, f1_1_2, f1_1_3⟩ := L1_1.two
  have l2_1 := L2_1.lt
  obtain ⟨f2_1_0, f2_1_1, f2_1_2, f2_1_3⟩ := L2_1.two
  have l3_1 := L3_1.lt
  obtain ⟨f3_1_0, f3_1_1, f3_1_2, f3_1_3⟩ := L3_1.two
  go_wp2_with fail
  refine (H2.out _).mono ?_
  rintro e w2 ⟨rfl, hb2⟩
  have acc2 : Below w.heap.size w w2 := below_step (by (repeat (first | with_reducible assumption | with_reducible exact Below.refl _ _ | simp only [Below.drew_iff] | simp only [Below.drewN_iff] | with_reducible refine Below.setCell ?_ (by first | omega | (simp; done) | (simp; omega)) _ | with_reducible refine Below.alloc ?_ (by first | omega | (simp; done) | (simp; omega)) _))) hb2
  have zz2 := acc2.size
  have L0_2 : Blk w2 (w.heap.size) [.int .i64 ax, .int .i64 ay] 46 := Blk.kept (by ((try simp only [Blk.drew_iff]); (try simp only [Blk.drewN_iff]); (try simp only [Blk.drew_iff]); repeat (first | with_reducible assumption | with_reducible exact Blk.new _ _ _ (by first | rfl | (simp; done) | (simp; omega)) | with_reducible refine Blk.alloc ?_ _ | with_reducible refine Blk.far ?_ (by first | (simp; done) | (simp; omega) | omega) _))) hb2
  have L1_2 : Blk w2 (w.heap.size + 1) [.int .i64 bx, .int .i64 by'] 46 := Blk.kept (by ((try simp only [Blk.drew_iff]); (try simp only [Blk.drewN_iff]); (try simp only [Blk.drew_iff]); repeat (first | with_reducible assumption | with_reducible exact Blk.new _ _ _ (by first | rfl | (simp; done) | (simp; omega)) | with_reducible refine Blk.alloc ?_ _ | with_reducible refine Blk.far ?_ (by first | (simp; done) | (simp; omega) | omega) _))) hb2
  have L2_2 : Blk w2 (w.heap.size + 1 + 1) [.int .i64 cx, .int .i64 cy] 46 := Blk.kept (by ((try simp only [Blk.drew_iff]); (try simp only [Blk.drewN_iff]); (try simp only [Blk.drew_iff]); repeat (first | with_reducible assumption | with_reducible exact Blk.new _ _ _ (by first | rfl | (simp; done) | (simp; omega)) | with_reducible refine Blk.alloc ?_ _ | with_reducible refine Blk.far ?_ (by first | (simp; done) | (simp; omega) | omega) _))) hb2
  have L3_2 : Blk w2 (w.heap.size + 1 + 1 + 1) [.int .i64 dx, .int .i64 dy] 46 := Blk.kept (by ((try simp only [Blk.drew_iff]); (try simp only [Blk.drewN_iff]); (try simp only [Blk.drew_iff]); repeat (first | with_reducible assumption | with_reducible exact Blk.new _ _ _ (by first | rfl | (simp; done) | (simp; omega)) | with_reducible refine Blk.alloc ?_ _ | with_reducible refine Blk.far ?_ (by first | (simp; done) | (simp; omega) | omega) _))) hb2
  clear hb2
  clear L0_1 l0_1 f0_1_0 f0_1_1 f0_1_2 f0_1_3 L1_1 l1_1 f1_1_0 f1_1_1 f1_1_2 f1_1_3 L2_1 l2_1 f2_1_0 f2_1_1 f2_1_2 f2_1_3 L3_1 l3_1 f3_1_0 f3_1_1 f3_1_2 f3_1_3
  have l0_2 := L0_2.lt
  obtain ⟨f0_2_0, f0_2_1, f0_2_2, f0_2_3⟩ := L0_2.two
  have l1_2 := L1_2.lt
  obtain ⟨f1_2_0, f1_2_1, f1_2_2, f1_2_3⟩ := L1_2.two
  have l2_2 := L2_2.lt
  obtain ⟨f2_2_0, f2_2_1, f2_2_2, f2_2_3⟩ := L2_2.two
  have l3_2 := L3_2.lt
  obtain ⟨f3_2_0, f3_2_1, f3_2_2, f3_2_3⟩ := L3_2.two
  go_wp2
  go_ret
  exact ⟨rfl, acc2⟩

set_option maxRecDepth 100000 in
set_option maxHeartbeats 16000000 in
theorem meet_btrue (ax ay bx by' cx cy dx dy : Int) (w : World) (hab : ¬ ax = bx ∨ ((ax = bx) = True ∧ ¬ ay = by')) (hcd : (cx = dx) = True ∧ (cy = dy) = True) (H2 : Hid (∀ W, Calls Try.prog 33 #[v2 ax ay, v2 bx by', v2 cx cy] W fun e w' => e = .returned (.bool true) ∧ Below W.heap.size W w')) :
    Calls Try.prog 35 #[v2 ax ay, v2 bx by', v2 cx cy, v2 dx dy] w fun e w' => e = .returned (.int .i64 1) ∧ Below w.heap.size w w' := by
  obtain ⟨g3, g4⟩ := hcd
  rcases hab with g1 | ⟨g1, g2⟩
  all_goals
    go_enter Try.func35, Try.ntmps35
    go_wp2_with fail
    refine (H2.out _).mono ?_
    rintro e w1 ⟨rfl, hb1⟩
    have acc1 : Below w.heap.size w w1 := below_step (by (repeat (first | with_reducible assumption | with_reducible exact Below.refl _ _ | simp only [Below.drew_iff] | simp only [Below.drewN_iff] | with_reducible refine Below.setCell ?_ (by first | omega | (simp; done) | (simp; omega)) _ | with_reducible refine Below.alloc ?_ (by first | omega | (simp; done) | (simp; omega)) _))) hb1
    have zz1 := acc1.size
    have L0_1 : Blk w1 (w.heap.size) [.int .i64 ax, .int .i64 ay] 46 := Blk.kept (by ((try simp only [Blk.drew_iff]); (try simp only [Blk.drewN_iff]); (try simp only [Blk.drew_iff]); repeat (first | with_reducible assumption | with_reducible exact Blk.new _ _ _ (by first | rfl | (simp; done) | (simp; omega)) | with_reducible refine Blk.alloc ?_ _ | with_reducible refine Blk.far ?_ (by first | (simp; done) | (simp; omega) | omega) _))) hb1
    have L1_1 : Blk w1 (w.heap.size + 1) [.int .i64 bx, .int .i64 by'] 46 := Blk.kept (by ((try simp only [Blk.drew_iff]); (try simp only [Blk.drewN_iff]); (try simp only [Blk.drew_iff]); repeat (first | with_reducible assumption | with_reducible exact Blk.new _ _ _ (by first | rfl | (simp; done) | (simp; omega)) | with_reducible refine Blk.alloc ?_ _ | with_reducible refine Blk.far ?_ (by first | (simp; done) | (simp; omega) | omega) _))) hb1
    have L2_1 : Blk w1 (w.heap.size + 1 + 1) [.int .i64 cx, .int .i64 cy] 46 := Blk.kept (by ((try simp only [Blk.drew_iff]); (try simp only [Blk.drewN_iff]); (try simp only [Blk.drew_iff]); repeat (first | with_reducible assumption | with_reducible exact Blk.new _ _ _ (by first | rfl | (simp; done) | (simp; omega)) | with_reducible refine Blk.alloc ?_ _ | with_reducible refine Blk.far ?_ (by first | (simp; done) | (simp; omega) | omega) _))) hb1
    have L3_1 : Blk w1 (w.heap.size + 1 + 1 + 1) [.int .i64 dx, .int .i64 dy] 46 := Blk.kept (by ((try simp only [Blk.drew_iff]); (try simp only [Blk.drewN_iff]); (try simp only [Blk.drew_iff]); repeat (first | with_reducible assumption | with_reducible exact Blk.new _ _ _ (by first | rfl | (simp; done) | (simp; omega)) | with_reducible refine Blk.alloc ?_ _ | with_reducible refine Blk.far ?_ (by first | (simp; done) | (simp; omega) | omega) _))) hb1
    clear hb1
    have l0_1 := L0_1.lt
    obtain ⟨f0_1_0, f0_1_1, f0_1_2, f0_1_3⟩ := L0_1.two
    have l1_1 := L1_1.lt
    obtain ⟨f1_1_0, f1_1_1, f1_1_2, f1_1_3⟩ := L1_1.two
    have l2_1 := L2_1.lt
    obtain ⟨f2_1_0, f2_1_1, f2_1_2, f2_1_3⟩ := L2_1.two
    have l3_1 := L3_1.lt
    obtain ⟨f3_1_0, f3_1_1, f3_1_2, f3_1_3⟩ := L3_1.two
    go_wp2
    go_ret
    exact ⟨rfl, acc1⟩

set_option maxRecDepth 100000 in
set_option maxHeartbeats 16000000 in
theorem meet_bfalse (ax ay bx by' cx cy dx dy : Int) (w : World) (hab : ¬ ax = bx ∨ ((ax = bx) = True ∧ ¬ ay = by')) (hcd : (cx = dx) = True ∧ (cy = dy) = True) (H2 : Hid (∀ W, Calls Try.prog 33 #[v2 ax ay, v2 bx by', v2 cx cy] W fun e w' => e = .returned (.bool false) ∧ Below W.heap.size W w')) :
    Calls Try.prog 35 #[v2 ax ay, v2 bx by', v2 cx cy, v2 dx dy] w fun e w' => e = .returned (.int .i64 0) ∧ Below w.heap.size w w' := by
  obtain ⟨g3, g4⟩ := hcd
  rcases hab with g1 | ⟨g1, g2⟩
  all_goals
    go_enter Try.func35, Try.ntmps35
    go_wp2_with fail
    refine (H2.out _).mono ?_
    rintro e w1 ⟨rfl, hb1⟩
    have acc1 : Below w.heap.size w w1 := below_step (by (repeat (first | with_reducible assumption | with_reducible exact Below.refl _ _ | simp only [Below.drew_iff] | simp only [Below.drewN_iff] | with_reducible refine Below.setCell ?_ (by first | omega | (simp; done) | (simp; omega)) _ | with_reducible refine Below.alloc ?_ (by first | omega | (simp; done) | (simp; omega)) _))) hb1
    have zz1 := acc1.size
    have L0_1 : Blk w1 (w.heap.size) [.int .i64 ax, .int .i64 ay] 46 := Blk.kept (by ((try simp only [Blk.drew_iff]); (try simp only [Blk.drewN_iff]); (try simp only [Blk.drew_iff]); repeat (first | with_reducible assumption | with_reducible exact Blk.new _ _ _ (by first | rfl | (simp; done) | (simp; omega)) | with_reducible refine Blk.alloc ?_ _ | with_reducible refine Blk.far ?_ (by first | (simp; done) | (simp; omega) | omega) _))) hb1
    have L1_1 : Blk w1 (w.heap.size + 1) [.int .i64 bx, .int .i64 by'] 46 := Blk.kept (by ((try simp only [Blk.drew_iff]); (try simp only [Blk.drewN_iff]); (try simp only [Blk.drew_iff]); repeat (first | with_reducible assumption | with_reducible exact Blk.new _ _ _ (by first | rfl | (simp; done) | (simp; omega)) | with_reducible refine Blk.alloc ?_ _ | with_reducible refine Blk.far ?_ (by first | (simp; done) | (simp; omega) | omega) _))) hb1
    have L2_1 : Blk w1 (w.heap.size + 1 + 1) [.int .i64 cx, .int .i64 cy] 46 := Blk.kept (by ((try simp only [Blk.drew_iff]); (try simp only [Blk.drewN_iff]); (try simp only [Blk.drew_iff]); repeat (first | with_reducible assumption | with_reducible exact Blk.new _ _ _ (by first | rfl | (simp; done) | (simp; omega)) | with_reducible refine Blk.alloc ?_ _ | with_reducible refine Blk.far ?_ (by first | (simp; done) | (simp; omega) | omega) _))) hb1
    have L3_1 : Blk w1 (w.heap.size + 1 + 1 + 1) [.int .i64 dx, .int .i64 dy] 46 := Blk.kept (by ((try simp only [Blk.drew_iff]); (try simp only [Blk.drewN_iff]); (try simp only [Blk.drew_iff]); repeat (first | with_reducible assumption | with_reducible exact Blk.new _ _ _ (by first | rfl | (simp; done) | (simp; omega)) | with_reducible refine Blk.alloc ?_ _ | with_reducible refine Blk.far ?_ (by first | (simp; done) | (simp; omega) | omega) _))) hb1
    clear hb1
    have l0_1 := L0_1.lt
    obtain ⟨f0_1_0, f0_1_1, f0_1_2, f0_1_3⟩ := L0_1.two
    have l1_1 := L1_1.lt
    obtain ⟨f1_1_0, f1_1_1, f1_1_2, f1_1_3⟩ := L1_1.two
    have l2_1 := L2_1.lt
    obtain ⟨f2_1_0, f2_1_1, f2_1_2, f2_1_3⟩ := L2_1.two
    have l3_1 := L3_1.lt
    obtain ⟨f3_1_0, f3_1_1, f3_1_2, f3_1_3⟩ := L3_1.two
    go_wp2
    go_ret
    exact ⟨rfl, acc1⟩

end Go.Proofs.Ytnhoabehemnpnaa
