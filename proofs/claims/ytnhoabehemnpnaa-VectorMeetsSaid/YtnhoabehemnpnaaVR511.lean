/- The reference's Meet: segments on one line. -/
import Derived.Test.YtnhoabehemnpnaaVR2
import Derived.Deep.DeepCutAuto
namespace Go.Proofs.Ytnhoabehemnpnaa
open Go.RowKit
attribute [local go_sem ↓] Go.wp_at_zero Go.wp_at_succ

set_option maxRecDepth 100000 in
set_option maxHeartbeats 16000000 in
theorem meet_l11 (ax ay bx by' cx cy dx dy m1x m1y n1x n1y m2x m2y n2x n2y v : Int) (r : Bool) (w : World) (hab : ¬ ax = bx ∨ ((ax = bx) = True ∧ ¬ ay = by')) (hcd : ¬ cx = dx ∨ ((cx = dx) = True ∧ ¬ cy = dy)) (H1 : Hid (∀ W, Calls Try.prog 32 #[v2 ax ay, v2 bx by', v2 cx cy] W fun e w' => e = .returned (.int .i64 0) ∧ Below W.heap.size W w')) (H2 : Hid (∀ W, Calls Try.prog 32 #[v2 ax ay, v2 bx by', v2 dx dy] W fun e w' => e = .returned (.int .i64 0) ∧ Below W.heap.size W w'))
    (S1 : Hid (∀ W, Calls Try.prog 51 #[v2 ax ay, v2 bx by'] W fun e w' => e = .returned (.tuple #[v2 m1x m1y, v2 n1x n1y]) ∧ Below W.heap.size W w')) (S2 : Hid (∀ W, Calls Try.prog 51 #[v2 cx cy, v2 dx dy] W fun e w' => e = .returned (.tuple #[v2 m2x m2y, v2 n2x n2y]) ∧ Below W.heap.size W w'))
    (B1 : Hid (∀ W, Calls Try.prog 52 #[v2 m1x m1y, v2 m2x m2y] W fun e w' => e = .returned (.bool true) ∧ Below W.heap.size W w')) (B2 : Hid (∀ W, Calls Try.prog 52 #[v2 n2x n2y, v2 n1x n1y] W fun e w' => e = .returned (.bool true) ∧ Below W.heap.size W w')) (B3 : Hid (∀ W, Calls Try.prog 52 #[v2 m2x m2y, v2 n2x n2y] W fun e w' => e = .returned (.bool r) ∧ Below W.heap.size W w'))
    (hv : (r = true ∧ v = 2) ∨ (r = false ∧ v = 1 ∧ (m2x = n2x) = True ∧ (m2y = n2y) = True) ∨ (r = false ∧ v = 0 ∧ (¬ m2x = n2x ∨ ((m2x = n2x) = True ∧ ¬ m2y = n2y)))) :
    Calls Try.prog 35 #[v2 ax ay, v2 bx by', v2 cx cy, v2 dx dy] w fun e w' => e = .returned (.int .i64 v) ∧ Below w.heap.size w w' := by
  rcases hab with g1 | ⟨g1, g2⟩ <;> rcases hcd with g3 | ⟨g3, g4⟩
  all_goals
    go_enter Try.func35, Try.ntmps35
    go_wp2_with fail
    refine (H1.out _).mono ?_
    rintro e w1 ⟨rfl, hb1⟩
    have acc1 : Below w.heap.size w w1 := below_step (by (repeat (first | with_reducible assumption | with_reducible exact Below.refl _ _ | simp only [Below.drew_iff] | simp only [Below.drewN_iff] | with_reducible refine Below.setCell ?_ (by first | omega | (simp; done) | (simp; omega)) _ | with_reducible refine Below.alloc ?_ (by first | omega | (simp; done) | (simp; omega)) _))) hb1
    have zz1 := acc1.size
    have L0_1 : Blk w1 (w.heap.size) [.int .i64 ax, .int .i64 ay] 46 := Blk.kept (by ((try simp only [Blk.drew_iff]); (try simp only [Blk.drewN_iff]); (try simp only [Blk.drew_iff]); repeat (first | with_reducible assumption | with_reducible exact Blk.new _ _ _ (by first | rfl | (simp; done) | (simp; omega)) | with_reducible refine Blk.alloc ?_ _ | with_reducible refine Blk.far ?_ (by first | (simp; done) | (simp; omega) | omega) _))) hb1
    have L1_1 : Blk w1 (w.heap.size + 1) [.int .i64 bx, .int .i64 by'] 46 := Blk.kept (by ((try simp only [Blk.drew_iff]); (try simp only [Blk.drewN_iff]); (try simp only [Blk.drew_iff]); repeat (first | with_reducible assumption | with_reducible exact Blk.new _ _ _ (by first | rfl | (simp; done) | (simp; omega)) | with_reducible refine Blk.alloc ?_ _ | with_reducible refine Blk.far ?_ (by first | (simp; done) | (simp; omega) | omega) _))) hb1
    have L2_1 : Blk w1 (w.heap.size + 1 + 1) [.int .i64 cx, .int .i64 cy] 46 := Blk.kept (by ((try simp only [Blk.drew_iff]); (try simp only [Blk.drewN_iff]); (try simp only [Blk.drew_iff]); repeat (first | with_reducible assumption | with_reducible exact Blk.new _ _ _ (by first | rfl | (simp; done) | (simp; omega)) | with_reducible refine Blk.alloc ?_ _ | with_reducible refine Blk.far ?_ (by first | (simp; done) | (simp; omega) | omega) _))) hb1
    have L3_1 : Blk w1 (w.heap.size + 1 + 1 + 1) [.int .i64 dx, .int .i64 dy] 46 := Blk.kept (by ((try simp only [Blk.drew_iff]); (try simp only [Blk.drewN_iff]); (try simp only [Blk.drew_iff]); repeat (first | with_reducible assumption | with_reducible exact Blk.new _ _ _ (by first | rfl | (simp; done) | (simp; omega)) | with_reducible refine Blk.alloc ?_ _ | with_reducible refine Blk.far ?_ (by first | (simp; done) | (simp; omega) | omega) _))) hb1
    clear hb1
    have l0_1 := L0_1.lt
    obtain ⟨f0_1_0, f0_1_1, f0_1_2, f0_1_3⟩ := L0_1.two
    have l1_1 := L1_1.lt
    obtain ⟨f1_1_0, f1_1_1, f1_1_2, f1_1_3⟩ := L1_1.two
    have l2_1 := L2_1.lt
    obtain ⟨f2_1_0, f2_1_1, f2_1_2, f2_1_3⟩ := L2_1.two
    have l3_1 := L3_1.lt
    obtain ⟨f3_1_0, f3_1_1, f3_1_2, f3_1_3⟩ := L3_1.two
    go_wp2_with fail
    refine (H2.out _).mono ?_
    rintro e w2 ⟨rfl, hb2⟩
    have acc2 : Below w.heap.size w w2 := below_step (by (repeat (first | with_reducible assumption | with_reducible exact Below.refl _ _ | simp only [Below.drew_iff] | simp only [Below.drewN_iff] | with_reducible refine Below.setCell ?_ (by first | omega | (simp; done) | (simp; omega)) _ | with_reducible refine Below.alloc ?_ (by first | omega | (simp; done) | (simp; omega)) _))) hb2
    have zz2 := acc2.size
    have L0_2 : Blk w2 (w.heap.size) [.int .i64 ax, .int .i64 ay] 46 := Blk.kept (by ((try simp only [Blk.drew_iff]); (try simp only [Blk.drewN_iff]); (try simp only [Blk.drew_iff]); repeat (first | with_reducible assumption | with_reducible exact Blk.new _ _ _ (by first | rfl | (simp; done) | (simp; omega)) | with_reducible refine Blk.alloc ?_ _ | with_reducible refine Blk.far ?_ (by first | (simp; done) | (simp; omega) | omega) _))) hb2
    have L1_2 : Blk w2 (w.heap.size + 1) [.int .i64 bx, .int .i64 by'] 46 := Blk.kept (by ((try simp only [Blk.drew_iff]); (try simp only [Blk.drewN_iff]); (try simp only [Blk.drew_iff]); repeat (first | with_reducible assumption | with_reducible exact Blk.new _ _ _ (by first | rfl | (simp; done) | (simp; omega)) | with_reducible refine Blk.alloc ?_ _ | with_reducible refine Blk.far ?_ (by first | (simp; done) | (simp; omega) | omega) _))) hb2
    have L2_2 : Blk w2 (w.heap.size + 1 + 1) [.int .i64 cx, .int .i64 cy] 46 := Blk.kept (by ((try simp only [Blk.drew_iff]); (try simp only [Blk.drewN_iff]); (try simp only [Blk.drew_iff]); repeat (first | with_reducible assumption | with_reducible exact Blk.new _ _ _ (by first | rfl | (simp; done) | (simp; omega)) | with_reducible refine Blk.alloc ?_ _ | with_reducible refine Blk.far ?_ (by first | (simp; done) | (simp; omega) | omega) _))) hb2
    have L3_2 : Blk w2 (w.heap.size + 1 + 1 + 1) [.int .i64 dx, .int .i64 dy] 46 := Blk.kept (by ((try simp only [Blk.drew_iff]); (try simp only [Blk.drewN_iff]); (try simp only [Blk.drew_iff]); repeat (first | with_reducible assumption | with_reducible exact Blk.new _ _ _ (by first | rfl | (simp; done) | (simp; omega)) | with_reducible refine Blk.alloc ?_ _ | with_reducible refine Blk.far ?_ (by first | (simp; done) | (simp; omega) | omega) _))) hb2
    clear hb2
    clear L0_1 l0_1 f0_1_0 f0_1_1 f0_1_2 f0_1_3 L1_1 l1_1 f1_1_0 f1_1_1 f1_1_2 f1_1_3 L2_1 l2_1 f2_1_0 f2_1_1 f2_1_2 f2_1_3 L3_1 l3_1 f3_1_0 f3_1_1 f3_1_2 f3_1_3
    have l0_2 := L0_2.lt
    obtain ⟨f0_2_0, f0_2_1, f0_2_2, f0_2_3⟩ := L0_2.two
    have l1_2 := L1_2.lt
    obtain ⟨f1_2_0, f1_2_1, f1_2_2, f1_2_3⟩ := L1_2.two
    have l2_2 := L2_2.lt
    obtain ⟨f2_2_0, f2_2_1, f2_2_2, f2_2_3⟩ := L2_2.two
    have l3_2 := L3_2.lt
    obtain ⟨f3_2_0, f3_2_1, f3_2_2, f3_2_3⟩ := L3_2.two
    go_wp2_with fail
    refine (S1.out _).mono ?_
    rintro e w3 ⟨rfl, hb3⟩
    have A3 := L0_2.kept hb3
    have B3 := L1_2.kept hb3
    have C3 := L2_2.kept hb3
    have D3 := L3_2.kept hb3
    have acc3 := below_step acc2 hb3
    have z3 := acc3.size
    clear f0_2_0 f0_2_1 f0_2_2 f0_2_3 l0_2
    clear f1_2_0 f1_2_1 f1_2_2 f1_2_3 l1_2
    clear f2_2_0 f2_2_1 f2_2_2 f2_2_3 l2_2
    clear f3_2_0 f3_2_1 f3_2_2 f3_2_3 l3_2
    obtain ⟨a30, a31, a32, a33⟩ := A3.two
    obtain ⟨b30, b31, b32, b33⟩ := B3.two
    obtain ⟨c30, c31, c32, c33⟩ := C3.two
    obtain ⟨d30, d31, d32, d33⟩ := D3.two
    go_wp2_with fail
    refine (S2.out _).mono ?_
    rintro e w4 ⟨rfl, hb4⟩
    have A4 := (((A3.set2 (.int .i64 m1x) (.int .i64 m1y)).far (by first | (simp; done) | (simp; omega) | (first | assumption | (intro h; omega))) _).far (by first | (simp; done) | (simp; omega) | (first | assumption | (intro h; omega))) _).kept hb4
    have B4 := (((B3.far (by first | (simp; done) | (simp; omega) | (first | assumption | (intro h; omega))) _).far (by first | (simp; done) | (simp; omega) | (first | assumption | (intro h; omega))) _).set2 (.int .i64 n1x) (.int .i64 n1y)).kept hb4
    have C4 := ((((C3.far (by first | (simp; done) | (simp; omega) | (first | assumption | (intro h; omega))) _).far (by first | (simp; done) | (simp; omega) | (first | assumption | (intro h; omega))) _).far (by first | (simp; done) | (simp; omega) | (first | assumption | (intro h; omega))) _).far (by first | (simp; done) | (simp; omega) | (first | assumption | (intro h; omega))) _).kept hb4
    have D4 := ((((D3.far (by first | (simp; done) | (simp; omega) | (first | assumption | (intro h; omega))) _).far (by first | (simp; done) | (simp; omega) | (first | assumption | (intro h; omega))) _).far (by first | (simp; done) | (simp; omega) | (first | assumption | (intro h; omega))) _).far (by first | (simp; done) | (simp; omega) | (first | assumption | (intro h; omega))) _).kept hb4
    have acc4 := below_step ((((acc3.setCell (p := ⟨w.heap.size, 0, none⟩) (by first | (simp; done) | (simp; omega) | omega) (.int .i64 m1x)).setCell (p := ⟨w.heap.size, 1, none⟩) (by first | (simp; done) | (simp; omega) | omega) (.int .i64 m1y)).setCell (p := ⟨w.heap.size + 1, 0, none⟩) (by first | (simp; done) | (simp; omega) | omega) (.int .i64 n1x)).setCell (p := ⟨w.heap.size + 1, 1, none⟩) (by first | (simp; done) | (simp; omega) | omega) (.int .i64 n1y)) hb4
    have z4 := acc4.size
    clear a30 a31 a32 a33 A3
    clear b30 b31 b32 b33 B3
    clear c30 c31 c32 c33 C3
    clear d30 d31 d32 d33 D3
    obtain ⟨a40, a41, a42, a43⟩ := A4.two
    obtain ⟨b40, b41, b42, b43⟩ := B4.two
    obtain ⟨c40, c41, c42, c43⟩ := C4.two
    obtain ⟨d40, d41, d42, d43⟩ := D4.two
    have lA4 := A4.lt
    have lB4 := B4.lt
    have lC4 := C4.lt
    have lD4 := D4.lt
    have A5 : Blk ((((w4.setCell ⟨w.heap.size + 1 + 1, 0, none⟩ (.int .i64 m2x)).setCell ⟨w.heap.size + 1 + 1, 1, none⟩ (.int .i64 m2y)).setCell ⟨w.heap.size + 1 + 1 + 1, 0, none⟩ (.int .i64 n2x)).setCell ⟨w.heap.size + 1 + 1 + 1, 1, none⟩ (.int .i64 n2y)) (w.heap.size) [.int .i64 m1x, .int .i64 m1y] 46 := ((((A4.far (by first | (simp; done) | (simp; omega) | (first | assumption | (intro h; omega))) _).far (by first | (simp; done) | (simp; omega) | (first | assumption | (intro h; omega))) _).far (by first | (simp; done) | (simp; omega) | (first | assumption | (intro h; omega))) _).far (by first | (simp; done) | (simp; omega) | (first | assumption | (intro h; omega))) _)
    have B5 : Blk ((((w4.setCell ⟨w.heap.size + 1 + 1, 0, none⟩ (.int .i64 m2x)).setCell ⟨w.heap.size + 1 + 1, 1, none⟩ (.int .i64 m2y)).setCell ⟨w.heap.size + 1 + 1 + 1, 0, none⟩ (.int .i64 n2x)).setCell ⟨w.heap.size + 1 + 1 + 1, 1, none⟩ (.int .i64 n2y)) (w.heap.size + 1) [.int .i64 n1x, .int .i64 n1y] 46 := ((((B4.far (by first | (simp; done) | (simp; omega) | (first | assumption | (intro h; omega))) _).far (by first | (simp; done) | (simp; omega) | (first | assumption | (intro h; omega))) _).far (by first | (simp; done) | (simp; omega) | (first | assumption | (intro h; omega))) _).far (by first | (simp; done) | (simp; omega) | (first | assumption | (intro h; omega))) _)
    have C5 : Blk ((((w4.setCell ⟨w.heap.size + 1 + 1, 0, none⟩ (.int .i64 m2x)).setCell ⟨w.heap.size + 1 + 1, 1, none⟩ (.int .i64 m2y)).setCell ⟨w.heap.size + 1 + 1 + 1, 0, none⟩ (.int .i64 n2x)).setCell ⟨w.heap.size + 1 + 1 + 1, 1, none⟩ (.int .i64 n2y)) (w.heap.size + 1 + 1) [.int .i64 m2x, .int .i64 m2y] 46 := (((C4.set2 _ _).far (by first | (simp; done) | (simp; omega) | (first | assumption | (intro h; omega))) _).far (by first | (simp; done) | (simp; omega) | (first | assumption | (intro h; omega))) _)
    have D5 : Blk ((((w4.setCell ⟨w.heap.size + 1 + 1, 0, none⟩ (.int .i64 m2x)).setCell ⟨w.heap.size + 1 + 1, 1, none⟩ (.int .i64 m2y)).setCell ⟨w.heap.size + 1 + 1 + 1, 0, none⟩ (.int .i64 n2x)).setCell ⟨w.heap.size + 1 + 1 + 1, 1, none⟩ (.int .i64 n2y)) (w.heap.size + 1 + 1 + 1) [.int .i64 n2x, .int .i64 n2y] 46 := (((D4.far (by first | (simp; done) | (simp; omega) | (first | assumption | (intro h; omega))) _).far (by first | (simp; done) | (simp; omega) | (first | assumption | (intro h; omega))) _).set2 _ _)
    have acc5 : Below w.heap.size w ((((w4.setCell ⟨w.heap.size + 1 + 1, 0, none⟩ (.int .i64 m2x)).setCell ⟨w.heap.size + 1 + 1, 1, none⟩ (.int .i64 m2y)).setCell ⟨w.heap.size + 1 + 1 + 1, 0, none⟩ (.int .i64 n2x)).setCell ⟨w.heap.size + 1 + 1 + 1, 1, none⟩ (.int .i64 n2y)) := (((acc4.setCell (p := ⟨w.heap.size + 1 + 1, 0, none⟩) (by first | (simp; done) | (simp; omega) | omega) _).setCell (p := ⟨w.heap.size + 1 + 1, 1, none⟩) (by first | (simp; done) | (simp; omega) | omega) _).setCell (p := ⟨w.heap.size + 1 + 1 + 1, 0, none⟩) (by first | (simp; done) | (simp; omega) | omega) _).setCell (p := ⟨w.heap.size + 1 + 1 + 1, 1, none⟩) (by first | (simp; done) | (simp; omega) | omega) _
    go_upto_region 8 with fail
    go_cut [9, 10] (fun s9 s10 wx => ∃ g g' : Nat, s9 = .pointer (some ⟨g, 0, none⟩) ∧ s10 = .pointer (some ⟨g', 0, none⟩) ∧ g ≠ g' ∧ w.heap.size + 1 + 1 + 1 < g ∧ w.heap.size + 1 + 1 + 1 < g' ∧ Blk wx g [.int .i64 m1x, .int .i64 m1y] 46 ∧ Blk wx g' [.int .i64 n1x, .int .i64 n1y] 46 ∧ Blk wx (w.heap.size + 1 + 1) [.int .i64 m2x, .int .i64 m2y] 46 ∧ Blk wx (w.heap.size + 1 + 1 + 1) [.int .i64 n2x, .int .i64 n2y] 46 ∧ Below w.heap.size w wx)
    case first =>
      go_region_held3 (fun w' => w'.cell? ⟨w.heap.size, 0, none⟩ = some (.int .i64 m1x) ∧ w'.cell? ⟨w.heap.size, 1, none⟩ = some (.int .i64 m1y) ∧ w'.cell? ⟨w.heap.size + 1, 0, none⟩ = some (.int .i64 n1x) ∧ w'.cell? ⟨w.heap.size + 1, 1, none⟩ = some (.int .i64 n1y) ∧ w'.cell? ⟨w.heap.size + 1 + 1, 0, none⟩ = some (.int .i64 m2x) ∧ w'.cell? ⟨w.heap.size + 1 + 1, 1, none⟩ = some (.int .i64 m2y) ∧ w'.cell? ⟨w.heap.size + 1 + 1 + 1, 0, none⟩ = some (.int .i64 n2x) ∧ w'.cell? ⟨w.heap.size + 1 + 1 + 1, 1, none⟩ = some (.int .i64 n2y))
        (first | (refine ⟨?_, ?_, ?_, ?_, ?_, ?_, ?_, ?_⟩ <;> with_reducible assumption) | (refine ⟨Blk.cell (cs := [.int .i64 m1x, .int .i64 m1y]) (t := 46) ?_ 0 rfl, Blk.cell (cs := [.int .i64 m1x, .int .i64 m1y]) (t := 46) ?_ 1 rfl, Blk.cell (cs := [.int .i64 n1x, .int .i64 n1y]) (t := 46) ?_ 0 rfl, Blk.cell (cs := [.int .i64 n1x, .int .i64 n1y]) (t := 46) ?_ 1 rfl, Blk.cell (cs := [.int .i64 m2x, .int .i64 m2y]) (t := 46) ?_ 0 rfl, Blk.cell (cs := [.int .i64 m2x, .int .i64 m2y]) (t := 46) ?_ 1 rfl, Blk.cell (cs := [.int .i64 n2x, .int .i64 n2y]) (t := 46) ?_ 0 rfl, Blk.cell (cs := [.int .i64 n2x, .int .i64 n2y]) (t := 46) ?_ 1 rfl⟩ <;> ((try simp only [Blk.drew_iff]); (try simp only [Blk.drewN_iff]); (try simp only [Blk.drew_iff]); repeat (first | with_reducible assumption | with_reducible exact Blk.new _ _ _ (by first | rfl | (simp; done) | (simp; omega)) | with_reducible refine Blk.alloc ?_ _ | with_reducible refine Blk.far ?_ (by first | (simp; done) | (simp; omega) | omega) _))) | go_keep | (refine ⟨?_, ?_, ?_, ?_, ?_, ?_, ?_, ?_⟩ <;> go_keep))
        (fail)
      all_goals go_wp2_with fail
      all_goals go_meet
      all_goals exact ⟨_, _, rfl, rfl, by first | (simp; done) | (simp; omega), by first | omega | (simp; omega), by first | omega | (simp; omega), (by (repeat (first | with_reducible assumption | with_reducible exact Blk.new _ _ _ (by first | rfl | (simp; done) | (simp; omega)) | simp only [Blk.drew_iff] | simp only [Blk.drewN_iff] | with_reducible refine Blk.far ?_ (by first | (simp; done) | (simp; omega) | omega) _ | with_reducible refine Blk.alloc ?_ _ | with_reducible refine Blk.set2 (u := .int .i64 0) (v := .int .i64 0) ?_ _ _))), (by (repeat (first | with_reducible assumption | with_reducible exact Blk.new _ _ _ (by first | rfl | (simp; done) | (simp; omega)) | simp only [Blk.drew_iff] | simp only [Blk.drewN_iff] | with_reducible refine Blk.far ?_ (by first | (simp; done) | (simp; omega) | omega) _ | with_reducible refine Blk.alloc ?_ _ | with_reducible refine Blk.set2 (u := .int .i64 0) (v := .int .i64 0) ?_ _ _))), (by (repeat (first | with_reducible assumption | with_reducible exact Blk.new _ _ _ (by first | rfl | (simp; done) | (simp; omega)) | simp only [Blk.drew_iff] | simp only [Blk.drewN_iff] | with_reducible refine Blk.far ?_ (by first | (simp; done) | (simp; omega) | omega) _ | with_reducible refine Blk.alloc ?_ _ | with_reducible refine Blk.set2 (u := .int .i64 0) (v := .int .i64 0) ?_ _ _))), (by (repeat (first | with_reducible assumption | with_reducible exact Blk.new _ _ _ (by first | rfl | (simp; done) | (simp; omega)) | simp only [Blk.drew_iff] | simp only [Blk.drewN_iff] | with_reducible refine Blk.far ?_ (by first | (simp; done) | (simp; omega) | omega) _ | with_reducible refine Blk.alloc ?_ _ | with_reducible refine Blk.set2 (u := .int .i64 0) (v := .int .i64 0) ?_ _ _))), (by (repeat (first | with_reducible assumption | with_reducible exact Below.refl _ _ | simp only [Below.drew_iff] | simp only [Below.drewN_iff] | with_reducible refine Below.setCell ?_ (by first | omega | (simp; done) | (simp; omega)) _ | with_reducible refine Below.alloc ?_ (by first | omega | (simp; done) | (simp; omega)) _)))⟩
    case rest =>
      obtain ⟨g, g', rfl, rfl, ne, lg, lg', G, G', C6, D6, acc6⟩ := hcut
      clear A5 B5 C5 D5 acc5 A4 B4 C4 D4 acc4 acc3 a40 a41 a42 a43 b40 b41 b42 b43 c40 c41 c42 c43 d40 d41 d42 d43 lA4 lB4 lC4 lD4 z3 z4
      have ne2 : g' ≠ g := fun h => ne h.symm
      have ni1 : w.heap.size + 1 + 1 ≠ g := by omega
      have ni1s : g ≠ w.heap.size + 1 + 1 := by omega
      have ni2 : w.heap.size + 1 + 1 ≠ g' := by omega
      have ni2s : g' ≠ w.heap.size + 1 + 1 := by omega
      have nj1 : w.heap.size + 1 + 1 + 1 ≠ g := by omega
      have nj1s : g ≠ w.heap.size + 1 + 1 + 1 := by omega
      have nj2 : w.heap.size + 1 + 1 + 1 ≠ g' := by omega
      have nj2s : g' ≠ w.heap.size + 1 + 1 + 1 := by omega
      have G_0 := G
      have G'_0 := G'
      have C6_0 := C6
      have D6_0 := D6
      obtain ⟨g_0_0, g_0_1, g_0_2, g_0_3⟩ := G_0.two
      obtain ⟨gp_0_0, gp_0_1, gp_0_2, gp_0_3⟩ := G'_0.two
      obtain ⟨c6_0_0, c6_0_1, c6_0_2, c6_0_3⟩ := C6_0.two
      obtain ⟨d6_0_0, d6_0_1, d6_0_2, d6_0_3⟩ := D6_0.two
      go_wp2_with fail
      refine (B1.out _).mono ?_
      rintro e w7 ⟨rfl, hb7⟩
      have G_7 := G.kept hb7
      have G'_7 := G'.kept hb7
      have C6_7 := C6.kept hb7
      have D6_7 := D6.kept hb7
      have acc7 := below_step acc6 hb7
      have z7 := acc7.size
      clear g_0_0 g_0_1 g_0_2 g_0_3 gp_0_0 gp_0_1 gp_0_2 gp_0_3 c6_0_0 c6_0_1 c6_0_2 c6_0_3 d6_0_0 d6_0_1 d6_0_2 d6_0_3
      obtain ⟨g_7_0, g_7_1, g_7_2, g_7_3⟩ := G_7.two
      obtain ⟨gp_7_0, gp_7_1, gp_7_2, gp_7_3⟩ := G'_7.two
      obtain ⟨c6_7_0, c6_7_1, c6_7_2, c6_7_3⟩ := C6_7.two
      obtain ⟨d6_7_0, d6_7_1, d6_7_2, d6_7_3⟩ := D6_7.two
      go_wp2_with fail
      refine (B2.out _).mono ?_
      rintro e w8 ⟨rfl, hb8⟩
      have G_8 := (G_7.set2 (.int .i64 m2x) (.int .i64 m2y)).kept hb8
      have G'_8 := ((G'_7.far (by first | assumption | (simp; done) | (simp; omega)) _).far (by first | assumption | (simp; done) | (simp; omega)) _).kept hb8
      have C6_8 := ((C6_7.far (by first | assumption | (simp; done) | (simp; omega)) _).far (by first | assumption | (simp; done) | (simp; omega)) _).kept hb8
      have D6_8 := ((D6_7.far (by first | assumption | (simp; done) | (simp; omega)) _).far (by first | assumption | (simp; done) | (simp; omega)) _).kept hb8
      have acc8 := below_step ((acc7.setCell (p := ⟨g, 0, none⟩) (by first | (simp; done) | (simp; omega) | omega) (.int .i64 m2x)).setCell (p := ⟨g, 1, none⟩) (by first | (simp; done) | (simp; omega) | omega) (.int .i64 m2y)) hb8
      have z8 := acc8.size
      clear g_7_0 g_7_1 g_7_2 g_7_3 gp_7_0 gp_7_1 gp_7_2 gp_7_3 c6_7_0 c6_7_1 c6_7_2 c6_7_3 d6_7_0 d6_7_1 d6_7_2 d6_7_3
      obtain ⟨g_8_0, g_8_1, g_8_2, g_8_3⟩ := G_8.two
      obtain ⟨gp_8_0, gp_8_1, gp_8_2, gp_8_3⟩ := G'_8.two
      obtain ⟨c6_8_0, c6_8_1, c6_8_2, c6_8_3⟩ := C6_8.two
      obtain ⟨d6_8_0, d6_8_1, d6_8_2, d6_8_3⟩ := D6_8.two
      go_wp2_with fail
      refine (B3.out _).mono ?_
      rintro e w9 ⟨rfl, hb9⟩
      have G'_9 := (G'_8.set2 (.int .i64 n2x) (.int .i64 n2y)).kept hb9
      have G_9 := ((G_8.far (by first | assumption | (simp; done) | (simp; omega)) _).far (by first | assumption | (simp; done) | (simp; omega)) _).kept hb9
      have C6_9 := ((C6_8.far (by first | assumption | (simp; done) | (simp; omega)) _).far (by first | assumption | (simp; done) | (simp; omega)) _).kept hb9
      have D6_9 := ((D6_8.far (by first | assumption | (simp; done) | (simp; omega)) _).far (by first | assumption | (simp; done) | (simp; omega)) _).kept hb9
      have acc9 := below_step ((acc8.setCell (p := ⟨g', 0, none⟩) (by first | (simp; done) | (simp; omega) | omega) (.int .i64 n2x)).setCell (p := ⟨g', 1, none⟩) (by first | (simp; done) | (simp; omega) | omega) (.int .i64 n2y)) hb9
      clear g_8_0 g_8_1 g_8_2 g_8_3 gp_8_0 gp_8_1 gp_8_2 gp_8_3 c6_8_0 c6_8_1 c6_8_2 c6_8_3 d6_8_0 d6_8_1 d6_8_2 d6_8_3
      obtain ⟨g_9_0, g_9_1, g_9_2, g_9_3⟩ := G_9.two
      obtain ⟨gp_9_0, gp_9_1, gp_9_2, gp_9_3⟩ := G'_9.two
      obtain ⟨c6_9_0, c6_9_1, c6_9_2, c6_9_3⟩ := C6_9.two
      obtain ⟨d6_9_0, d6_9_1, d6_9_2, d6_9_3⟩ := D6_9.two
      rcases hv with ⟨rfl, rfl⟩ | ⟨rfl, rfl, q1, q2⟩ | ⟨rfl, rfl, (q1 | ⟨q1, q2⟩)⟩
      all_goals go_wp2
      all_goals (go_ret; exact ⟨rfl, acc9⟩)
end Go.Proofs.Ytnhoabehemnpnaa
