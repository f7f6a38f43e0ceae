/- The walk of the statement PolygonOrients. -/
import Derived.Test.YtklkkehhmmipeaaPJ
import Derived.Test.YtklkkehhmmipeaaPK
namespace Go.Proofs.Ytklkkehhmmipeaa
open Go.RowKit
attribute [local go_sem ↓] Go.wp_at_zero Go.wp_at_succ

set_option maxRecDepth 100000 in
set_option maxHeartbeats 16000000 in
theorem polygonOrients_any (ax ay bx by' cx cy : Int) (w : World) :
    Calls Try.prog 4 #[v2 ax ay, v2 bx by', v2 cx cy] w fun e w' => e = .returned (.bool true) ∧ Below w.heap.size w w' := by
  rcases (show (inP ax ay = true ∧ inP bx by' = true ∧ inP cx cy = true) ∨ inP ax ay = false ∨ (inP ax ay = true ∧ inP bx by' = false) ∨ (inP ax ay = true ∧ inP bx by' = true ∧ inP cx cy = false) by cases inP ax ay <;> cases inP bx by' <;> cases inP cx cy <;> simp) with ⟨h1, h2, h3⟩ | h1 | ⟨h1, h2⟩ | ⟨h1, h2, h3⟩
  · obtain ⟨n, hn⟩ : ∃ n, turnM (ax, ay) (bx, by') (cx, cy) = n := ⟨_, rfl⟩
    have k1 : ∀ W, Calls Try.prog 23 #[v2 ax ay, v2 bx by', v2 cx cy] W fun e w' => e = .returned (.int .i64 n) ∧ Below W.heap.size W w' := fun W => orient_any (ax, ay) (bx, by') (cx, cy) n W (by rw [orient_ok h1 h2 h3, hn])
    have k2 : ∀ W, Calls Try.prog 24 #[v2 ax ay, v2 bx by', v2 cx cy] W fun e w' => e = .returned (.int .i64 n) ∧ Below W.heap.size W w' := fun W => refOrient_any (ax, ay) (bx, by') (cx, cy) n W h1 h2 h3 hn
    have k3 : ∀ W, Calls Try.prog 23 #[v2 bx by', v2 ax ay, v2 cx cy] W fun e w' => e = .returned (.int .i64 (-n)) ∧ Below W.heap.size W w' := fun W => orient_any (bx, by') (ax, ay) (cx, cy) (-n) W (by rw [orient_ok h2 h1 h3, turn_rev, hn])
    have k4 : ∀ W, Calls Try.prog 23 #[v2 bx by', v2 cx cy, v2 ax ay] W fun e w' => e = .returned (.int .i64 n) ∧ Below W.heap.size W w' := fun W => orient_any (bx, by') (cx, cy) (ax, ay) n W (by rw [orient_ok h2 h3 h1, turn_cyc, hn])
    have hbd := turnM_bd (ax, ay) (bx, by') (cx, cy)
    rw [hn] at hbd
    obtain ⟨n1, n2⟩ := hbd
    have H1 := Lib.hid h1
    have H2 := Lib.hid h2
    have H3 := Lib.hid h3
    have K1 := Lib.hid k1
    have K2 := Lib.hid k2
    have K3 := Lib.hid k3
    have K4 := Lib.hid k4
    clear h1 h2 h3 k1 k2 k3 k4 hn
    go_enter Try.func4, Try.ntmps4
    go_wp2_with fail
    refine (awake_any _).mono ?_
    rintro e w1 ⟨rfl, hb1⟩
    have acc1 : Below w.heap.size w w1 := below_step (by (repeat (first | with_reducible assumption | with_reducible exact Below.refl _ _ | simp only [Below.drew_iff] | simp only [Below.drewN_iff] | with_reducible refine Below.setCell ?_ (by first | omega | (simp; done) | (simp; omega)) _ | with_reducible refine Below.alloc ?_ (by first | omega | (simp; done) | (simp; omega)) _))) hb1
    have zz1 := acc1.size
    have L0_1 : Blk w1 (w.heap.size) [.int .i64 ax, .int .i64 ay] 31 := Blk.kept (by ((try simp only [Blk.drew_iff]); (try simp only [Blk.drewN_iff]); (try simp only [Blk.drew_iff]); repeat (first | with_reducible assumption | with_reducible exact Blk.new _ _ _ (by first | rfl | (simp; done) | (simp; omega)) | with_reducible refine Blk.alloc ?_ _ | with_reducible refine Blk.far ?_ (by first | (simp; done) | (simp; omega) | omega) _))) hb1
    have L1_1 : Blk w1 (w.heap.size + 1) [.int .i64 bx, .int .i64 by'] 31 := Blk.kept (by ((try simp only [Blk.drew_iff]); (try simp only [Blk.drewN_iff]); (try simp only [Blk.drew_iff]); repeat (first | with_reducible assumption | with_reducible exact Blk.new _ _ _ (by first | rfl | (simp; done) | (simp; omega)) | with_reducible refine Blk.alloc ?_ _ | with_reducible refine Blk.far ?_ (by first | (simp; done) | (simp; omega) | omega) _))) hb1
    have L2_1 : Blk w1 (w.heap.size + 1 + 1) [.int .i64 cx, .int .i64 cy] 31 := Blk.kept (by ((try simp only [Blk.drew_iff]); (try simp only [Blk.drewN_iff]); (try simp only [Blk.drew_iff]); repeat (first | with_reducible assumption | with_reducible exact Blk.new _ _ _ (by first | rfl | (simp; done) | (simp; omega)) | with_reducible refine Blk.alloc ?_ _ | with_reducible refine Blk.far ?_ (by first | (simp; done) | (simp; omega) | omega) _))) hb1
    clear hb1
    have l0_1 := L0_1.lt
    obtain ⟨f0_1_0, f0_1_1, f0_1_2, f0_1_3⟩ := L0_1.two
    have l1_1 := L1_1.lt
    obtain ⟨f1_1_0, f1_1_1, f1_1_2, f1_1_3⟩ := L1_1.two
    have l2_1 := L2_1.lt
    obtain ⟨f2_1_0, f2_1_1, f2_1_2, f2_1_3⟩ := L2_1.two
    go_wp2_with fail
    refine (refAllowed_any ax ay true _ H1.out).mono ?_
    rintro e w2 ⟨rfl, hb2⟩
    have acc2 : Below w.heap.size w w2 := below_step (by (repeat (first | with_reducible assumption | with_reducible exact Below.refl _ _ | simp only [Below.drew_iff] | simp only [Below.drewN_iff] | with_reducible refine Below.setCell ?_ (by first | omega | (simp; done) | (simp; omega)) _ | with_reducible refine Below.alloc ?_ (by first | omega | (simp; done) | (simp; omega)) _))) hb2
    have zz2 := acc2.size
    have L0_2 : Blk w2 (w.heap.size) [.int .i64 ax, .int .i64 ay] 31 := Blk.kept (by ((try simp only [Blk.drew_iff]); (try simp only [Blk.drewN_iff]); (try simp only [Blk.drew_iff]); repeat (first | with_reducible assumption | with_reducible exact Blk.new _ _ _ (by first | rfl | (simp; done) | (simp; omega)) | with_reducible refine Blk.alloc ?_ _ | with_reducible refine Blk.far ?_ (by first | (simp; done) | (simp; omega) | omega) _))) hb2
    have L1_2 : Blk w2 (w.heap.size + 1) [.int .i64 bx, .int .i64 by'] 31 := Blk.kept (by ((try simp only [Blk.drew_iff]); (try simp only [Blk.drewN_iff]); (try simp only [Blk.drew_iff]); repeat (first | with_reducible assumption | with_reducible exact Blk.new _ _ _ (by first | rfl | (simp; done) | (simp; omega)) | with_reducible refine Blk.alloc ?_ _ | with_reducible refine Blk.far ?_ (by first | (simp; done) | (simp; omega) | omega) _))) hb2
    have L2_2 : Blk w2 (w.heap.size + 1 + 1) [.int .i64 cx, .int .i64 cy] 31 := Blk.kept (by ((try simp only [Blk.drew_iff]); (try simp only [Blk.drewN_iff]); (try simp only [Blk.drew_iff]); repeat (first | with_reducible assumption | with_reducible exact Blk.new _ _ _ (by first | rfl | (simp; done) | (simp; omega)) | with_reducible refine Blk.alloc ?_ _ | with_reducible refine Blk.far ?_ (by first | (simp; done) | (simp; omega) | omega) _))) hb2
    clear hb2
    clear L0_1 l0_1 f0_1_0 f0_1_1 f0_1_2 f0_1_3 L1_1 l1_1 f1_1_0 f1_1_1 f1_1_2 f1_1_3 L2_1 l2_1 f2_1_0 f2_1_1 f2_1_2 f2_1_3
    have l0_2 := L0_2.lt
    obtain ⟨f0_2_0, f0_2_1, f0_2_2, f0_2_3⟩ := L0_2.two
    have l1_2 := L1_2.lt
    obtain ⟨f1_2_0, f1_2_1, f1_2_2, f1_2_3⟩ := L1_2.two
    have l2_2 := L2_2.lt
    obtain ⟨f2_2_0, f2_2_1, f2_2_2, f2_2_3⟩ := L2_2.two
    go_wp2_with fail
    refine (refAllowed_any bx by' true _ H2.out).mono ?_
    rintro e w3 ⟨rfl, hb3⟩
    have acc3 : Below w.heap.size w w3 := below_step (by (repeat (first | with_reducible assumption | with_reducible exact Below.refl _ _ | simp only [Below.drew_iff] | simp only [Below.drewN_iff] | with_reducible refine Below.setCell ?_ (by first | omega | (simp; done) | (simp; omega)) _ | with_reducible refine Below.alloc ?_ (by first | omega | (simp; done) | (simp; omega)) _))) hb3
    have zz3 := acc3.size
    have L0_3 : Blk w3 (w.heap.size) [.int .i64 ax, .int .i64 ay] 31 := Blk.kept (by ((try simp only [Blk.drew_iff]); (try simp only [Blk.drewN_iff]); (try simp only [Blk.drew_iff]); repeat (first | with_reducible assumption | with_reducible exact Blk.new _ _ _ (by first | rfl | (simp; done) | (simp; omega)) | with_reducible refine Blk.alloc ?_ _ | with_reducible refine Blk.far ?_ (by first | (simp; done) | (simp; omega) | omega) _))) hb3
    have L1_3 : Blk w3 (w.heap.size + 1) [.int .i64 bx, .int .i64 by'] 31 := Blk.kept (by ((try simp only [Blk.drew_iff]); (try simp only [Blk.drewN_iff]); (try simp only [Blk.drew_iff]); repeat (first | with_reducible assumption | with_reducible exact Blk.new _ _ _ (by first | rfl | (simp; done) | (simp; omega)) | with_reducible refine Blk.alloc ?_ _ | with_reducible refine Blk.far ?_ (by first | (simp; done) | (simp; omega) | omega) _))) hb3
    have L2_3 : Blk w3 (w.heap.size + 1 + 1) [.int .i64 cx, .int .i64 cy] 31 := Blk.kept (by ((try simp only [Blk.drew_iff]); (try simp only [Blk.drewN_iff]); (try simp only [Blk.drew_iff]); repeat (first | with_reducible assumption | with_reducible exact Blk.new _ _ _ (by first | rfl | (simp; done) | (simp; omega)) | with_reducible refine Blk.alloc ?_ _ | with_reducible refine Blk.far ?_ (by first | (simp; done) | (simp; omega) | omega) _))) hb3
    clear hb3
    clear L0_2 l0_2 f0_2_0 f0_2_1 f0_2_2 f0_2_3 L1_2 l1_2 f1_2_0 f1_2_1 f1_2_2 f1_2_3 L2_2 l2_2 f2_2_0 f2_2_1 f2_2_2 f2_2_3
    have l0_3 := L0_3.lt
    obtain ⟨f0_3_0, f0_3_1, f0_3_2, f0_3_3⟩ := L0_3.two
    have l1_3 := L1_3.lt
    obtain ⟨f1_3_0, f1_3_1, f1_3_2, f1_3_3⟩ := L1_3.two
    have l2_3 := L2_3.lt
    obtain ⟨f2_3_0, f2_3_1, f2_3_2, f2_3_3⟩ := L2_3.two
    go_wp2_with fail
    refine (refAllowed_any cx cy true _ H3.out).mono ?_
    rintro e w4 ⟨rfl, hb4⟩
    have acc4 : Below w.heap.size w w4 := below_step (by (repeat (first | with_reducible assumption | with_reducible exact Below.refl _ _ | simp only [Below.drew_iff] | simp only [Below.drewN_iff] | with_reducible refine Below.setCell ?_ (by first | omega | (simp; done) | (simp; omega)) _ | with_reducible refine Below.alloc ?_ (by first | omega | (simp; done) | (simp; omega)) _))) hb4
    have zz4 := acc4.size
    have L0_4 : Blk w4 (w.heap.size) [.int .i64 ax, .int .i64 ay] 31 := Blk.kept (by ((try simp only [Blk.drew_iff]); (try simp only [Blk.drewN_iff]); (try simp only [Blk.drew_iff]); repeat (first | with_reducible assumption | with_reducible exact Blk.new _ _ _ (by first | rfl | (simp; done) | (simp; omega)) | with_reducible refine Blk.alloc ?_ _ | with_reducible refine Blk.far ?_ (by first | (simp; done) | (simp; omega) | omega) _))) hb4
    have L1_4 : Blk w4 (w.heap.size + 1) [.int .i64 bx, .int .i64 by'] 31 := Blk.kept (by ((try simp only [Blk.drew_iff]); (try simp only [Blk.drewN_iff]); (try simp only [Blk.drew_iff]); repeat (first | with_reducible assumption | with_reducible exact Blk.new _ _ _ (by first | rfl | (simp; done) | (simp; omega)) | with_reducible refine Blk.alloc ?_ _ | with_reducible refine Blk.far ?_ (by first | (simp; done) | (simp; omega) | omega) _))) hb4
    have L2_4 : Blk w4 (w.heap.size + 1 + 1) [.int .i64 cx, .int .i64 cy] 31 := Blk.kept (by ((try simp only [Blk.drew_iff]); (try simp only [Blk.drewN_iff]); (try simp only [Blk.drew_iff]); repeat (first | with_reducible assumption | with_reducible exact Blk.new _ _ _ (by first | rfl | (simp; done) | (simp; omega)) | with_reducible refine Blk.alloc ?_ _ | with_reducible refine Blk.far ?_ (by first | (simp; done) | (simp; omega) | omega) _))) hb4
    clear hb4
    clear L0_3 l0_3 f0_3_0 f0_3_1 f0_3_2 f0_3_3 L1_3 l1_3 f1_3_0 f1_3_1 f1_3_2 f1_3_3 L2_3 l2_3 f2_3_0 f2_3_1 f2_3_2 f2_3_3
    have l0_4 := L0_4.lt
    obtain ⟨f0_4_0, f0_4_1, f0_4_2, f0_4_3⟩ := L0_4.two
    have l1_4 := L1_4.lt
    obtain ⟨f1_4_0, f1_4_1, f1_4_2, f1_4_3⟩ := L1_4.two
    have l2_4 := L2_4.lt
    obtain ⟨f2_4_0, f2_4_1, f2_4_2, f2_4_3⟩ := L2_4.two
    go_wp2_with fail
    refine (K1.out _).mono ?_
    rintro e w5 ⟨rfl, hb5⟩
    have acc5 : Below w.heap.size w w5 := below_step (by (repeat (first | with_reducible assumption | with_reducible exact Below.refl _ _ | simp only [Below.drew_iff] | simp only [Below.drewN_iff] | with_reducible refine Below.setCell ?_ (by first | omega | (simp; done) | (simp; omega)) _ | with_reducible refine Below.alloc ?_ (by first | omega | (simp; done) | (simp; omega)) _))) hb5
    have zz5 := acc5.size
    have L0_5 : Blk w5 (w.heap.size) [.int .i64 ax, .int .i64 ay] 31 := Blk.kept (by ((try simp only [Blk.drew_iff]); (try simp only [Blk.drewN_iff]); (try simp only [Blk.drew_iff]); repeat (first | with_reducible assumption | with_reducible exact Blk.new _ _ _ (by first | rfl | (simp; done) | (simp; omega)) | with_reducible refine Blk.alloc ?_ _ | with_reducible refine Blk.far ?_ (by first | (simp; done) | (simp; omega) | omega) _))) hb5
    have L1_5 : Blk w5 (w.heap.size + 1) [.int .i64 bx, .int .i64 by'] 31 := Blk.kept (by ((try simp only [Blk.drew_iff]); (try simp only [Blk.drewN_iff]); (try simp only [Blk.drew_iff]); repeat (first | with_reducible assumption | with_reducible exact Blk.new _ _ _ (by first | rfl | (simp; done) | (simp; omega)) | with_reducible refine Blk.alloc ?_ _ | with_reducible refine Blk.far ?_ (by first | (simp; done) | (simp; omega) | omega) _))) hb5
    have L2_5 : Blk w5 (w.heap.size + 1 + 1) [.int .i64 cx, .int .i64 cy] 31 := Blk.kept (by ((try simp only [Blk.drew_iff]); (try simp only [Blk.drewN_iff]); (try simp only [Blk.drew_iff]); repeat (first | with_reducible assumption | with_reducible exact Blk.new _ _ _ (by first | rfl | (simp; done) | (simp; omega)) | with_reducible refine Blk.alloc ?_ _ | with_reducible refine Blk.far ?_ (by first | (simp; done) | (simp; omega) | omega) _))) hb5
    clear hb5
    clear L0_4 l0_4 f0_4_0 f0_4_1 f0_4_2 f0_4_3 L1_4 l1_4 f1_4_0 f1_4_1 f1_4_2 f1_4_3 L2_4 l2_4 f2_4_0 f2_4_1 f2_4_2 f2_4_3
    have l0_5 := L0_5.lt
    obtain ⟨f0_5_0, f0_5_1, f0_5_2, f0_5_3⟩ := L0_5.two
    have l1_5 := L1_5.lt
    obtain ⟨f1_5_0, f1_5_1, f1_5_2, f1_5_3⟩ := L1_5.two
    have l2_5 := L2_5.lt
    obtain ⟨f2_5_0, f2_5_1, f2_5_2, f2_5_3⟩ := L2_5.two
    go_wp2_with fail
    refine (K2.out _).mono ?_
    rintro e w6 ⟨rfl, hb6⟩
    have acc6 : Below w.heap.size w w6 := below_step (by (repeat (first | with_reducible assumption | with_reducible exact Below.refl _ _ | simp only [Below.drew_iff] | simp only [Below.drewN_iff] | with_reducible refine Below.setCell ?_ (by first | omega | (simp; done) | (simp; omega)) _ | with_reducible refine Below.alloc ?_ (by first | omega | (simp; done) | (simp; omega)) _))) hb6
    have zz6 := acc6.size
    have L0_6 : Blk w6 (w.heap.size) [.int .i64 ax, .int .i64 ay] 31 := Blk.kept (by ((try simp only [Blk.drew_iff]); (try simp only [Blk.drewN_iff]); (try simp only [Blk.drew_iff]); repeat (first | with_reducible assumption | with_reducible exact Blk.new _ _ _ (by first | rfl | (simp; done) | (simp; omega)) | with_reducible refine Blk.alloc ?_ _ | with_reducible refine Blk.far ?_ (by first | (simp; done) | (simp; omega) | omega) _))) hb6
    have L1_6 : Blk w6 (w.heap.size + 1) [.int .i64 bx, .int .i64 by'] 31 := Blk.kept (by ((try simp only [Blk.drew_iff]); (try simp only [Blk.drewN_iff]); (try simp only [Blk.drew_iff]); repeat (first | with_reducible assumption | with_reducible exact Blk.new _ _ _ (by first | rfl | (simp; done) | (simp; omega)) | with_reducible refine Blk.alloc ?_ _ | with_reducible refine Blk.far ?_ (by first | (simp; done) | (simp; omega) | omega) _))) hb6
    have L2_6 : Blk w6 (w.heap.size + 1 + 1) [.int .i64 cx, .int .i64 cy] 31 := Blk.kept (by ((try simp only [Blk.drew_iff]); (try simp only [Blk.drewN_iff]); (try simp only [Blk.drew_iff]); repeat (first | with_reducible assumption | with_reducible exact Blk.new _ _ _ (by first | rfl | (simp; done) | (simp; omega)) | with_reducible refine Blk.alloc ?_ _ | with_reducible refine Blk.far ?_ (by first | (simp; done) | (simp; omega) | omega) _))) hb6
    clear hb6
    clear L0_5 l0_5 f0_5_0 f0_5_1 f0_5_2 f0_5_3 L1_5 l1_5 f1_5_0 f1_5_1 f1_5_2 f1_5_3 L2_5 l2_5 f2_5_0 f2_5_1 f2_5_2 f2_5_3
    have l0_6 := L0_6.lt
    obtain ⟨f0_6_0, f0_6_1, f0_6_2, f0_6_3⟩ := L0_6.two
    have l1_6 := L1_6.lt
    obtain ⟨f1_6_0, f1_6_1, f1_6_2, f1_6_3⟩ := L1_6.two
    have l2_6 := L2_6.lt
    obtain ⟨f2_6_0, f2_6_1, f2_6_2, f2_6_3⟩ := L2_6.two
    go_wp2_with fail
    refine (K3.out _).mono ?_
    rintro e w7 ⟨rfl, hb7⟩
    have acc7 : Below w.heap.size w w7 := below_step (by (repeat (first | with_reducible assumption | with_reducible exact Below.refl _ _ | simp only [Below.drew_iff] | simp only [Below.drewN_iff] | with_reducible refine Below.setCell ?_ (by first | omega | (simp; done) | (simp; omega)) _ | with_reducible refine Below.alloc ?_ (by first | omega | (simp; done) | (simp; omega)) _))) hb7
    have zz7 := acc7.size
    have L0_7 : Blk w7 (w.heap.size) [.int .i64 ax, .int .i64 ay] 31 := Blk.kept (by ((try simp only [Blk.drew_iff]); (try simp only [Blk.drewN_iff]); (try simp only [Blk.drew_iff]); repeat (first | with_reducible assumption | with_reducible exact Blk.new _ _ _ (by first | rfl | (simp; done) | (simp; omega)) | with_reducible refine Blk.alloc ?_ _ | with_reducible refine Blk.far ?_ (by first | (simp; done) | (simp; omega) | omega) _))) hb7
    have L1_7 : Blk w7 (w.heap.size + 1) [.int .i64 bx, .int .i64 by'] 31 := Blk.kept (by ((try simp only [Blk.drew_iff]); (try simp only [Blk.drewN_iff]); (try simp only [Blk.drew_iff]); repeat (first | with_reducible assumption | with_reducible exact Blk.new _ _ _ (by first | rfl | (simp; done) | (simp; omega)) | with_reducible refine Blk.alloc ?_ _ | with_reducible refine Blk.far ?_ (by first | (simp; done) | (simp; omega) | omega) _))) hb7
    have L2_7 : Blk w7 (w.heap.size + 1 + 1) [.int .i64 cx, .int .i64 cy] 31 := Blk.kept (by ((try simp only [Blk.drew_iff]); (try simp only [Blk.drewN_iff]); (try simp only [Blk.drew_iff]); repeat (first | with_reducible assumption | with_reducible exact Blk.new _ _ _ (by first | rfl | (simp; done) | (simp; omega)) | with_reducible refine Blk.alloc ?_ _ | with_reducible refine Blk.far ?_ (by first | (simp; done) | (simp; omega) | omega) _))) hb7
    clear hb7
    clear L0_6 l0_6 f0_6_0 f0_6_1 f0_6_2 f0_6_3 L1_6 l1_6 f1_6_0 f1_6_1 f1_6_2 f1_6_3 L2_6 l2_6 f2_6_0 f2_6_1 f2_6_2 f2_6_3
    have l0_7 := L0_7.lt
    obtain ⟨f0_7_0, f0_7_1, f0_7_2, f0_7_3⟩ := L0_7.two
    have l1_7 := L1_7.lt
    obtain ⟨f1_7_0, f1_7_1, f1_7_2, f1_7_3⟩ := L1_7.two
    have l2_7 := L2_7.lt
    obtain ⟨f2_7_0, f2_7_1, f2_7_2, f2_7_3⟩ := L2_7.two
    go_wp2_with fail
    refine (K4.out _).mono ?_
    rintro e w8 ⟨rfl, hb8⟩
    have acc8 : Below w.heap.size w w8 := below_step (by (repeat (first | with_reducible assumption | with_reducible exact Below.refl _ _ | simp only [Below.drew_iff] | simp only [Below.drewN_iff] | with_reducible refine Below.setCell ?_ (by first | omega | (simp; done) | (simp; omega)) _ | with_reducible refine Below.alloc ?_ (by first | omega | (simp; done) | (simp; omega)) _))) hb8
    have zz8 := acc8.size
    have L0_8 : Blk w8 (w.heap.size) [.int .i64 ax, .int .i64 ay] 31 := Blk.kept (by ((try simp only [Blk.drew_iff]); (try simp only [Blk.drewN_iff]); (try simp only [Blk.drew_iff]); repeat (first | with_reducible assumption | with_reducible exact Blk.new _ _ _ (by first | rfl | (simp; done) | (simp; omega)) | with_reducible refine Blk.alloc ?_ _ | with_reducible refine Blk.far ?_ (by first | (simp; done) | (simp; omega) | omega) _))) hb8
    have L1_8 : Blk w8 (w.heap.size + 1) [.int .i64 bx, .int .i64 by'] 31 := Blk.kept (by ((try simp only [Blk.drew_iff]); (try simp only [Blk.drewN_iff]); (try simp only [Blk.drew_iff]); repeat (first | with_reducible assumption | with_reducible exact Blk.new _ _ _ (by first | rfl | (simp; done) | (simp; omega)) | with_reducible refine Blk.alloc ?_ _ | with_reducible refine Blk.far ?_ (by first | (simp; done) | (simp; omega) | omega) _))) hb8
    have L2_8 : Blk w8 (w.heap.size + 1 + 1) [.int .i64 cx, .int .i64 cy] 31 := Blk.kept (by ((try simp only [Blk.drew_iff]); (try simp only [Blk.drewN_iff]); (try simp only [Blk.drew_iff]); repeat (first | with_reducible assumption | with_reducible exact Blk.new _ _ _ (by first | rfl | (simp; done) | (simp; omega)) | with_reducible refine Blk.alloc ?_ _ | with_reducible refine Blk.far ?_ (by first | (simp; done) | (simp; omega) | omega) _))) hb8
    clear hb8
    clear L0_7 l0_7 f0_7_0 f0_7_1 f0_7_2 f0_7_3 L1_7 l1_7 f1_7_0 f1_7_1 f1_7_2 f1_7_3 L2_7 l2_7 f2_7_0 f2_7_1 f2_7_2 f2_7_3
    have l0_8 := L0_8.lt
    obtain ⟨f0_8_0, f0_8_1, f0_8_2, f0_8_3⟩ := L0_8.two
    have l1_8 := L1_8.lt
    obtain ⟨f1_8_0, f1_8_1, f1_8_2, f1_8_3⟩ := L1_8.two
    have l2_8 := L2_8.lt
    obtain ⟨f2_8_0, f2_8_1, f2_8_2, f2_8_3⟩ := L2_8.two
    go_wp2
    go_ret
    exact ⟨ret_bool (by simp), acc8⟩
  · have H1 := Lib.hid h1
    clear h1
    go_enter Try.func4, Try.ntmps4
    go_wp2_with fail
    refine (awake_any _).mono ?_
    rintro e w1 ⟨rfl, hb1⟩
    have acc1 : Below w.heap.size w w1 := below_step (by (repeat (first | with_reducible assumption | with_reducible exact Below.refl _ _ | simp only [Below.drew_iff] | simp only [Below.drewN_iff] | with_reducible refine Below.setCell ?_ (by first | omega | (simp; done) | (simp; omega)) _ | with_reducible refine Below.alloc ?_ (by first | omega | (simp; done) | (simp; omega)) _))) hb1
    have zz1 := acc1.size
    have L0_1 : Blk w1 (w.heap.size) [.int .i64 ax, .int .i64 ay] 31 := Blk.kept (by ((try simp only [Blk.drew_iff]); (try simp only [Blk.drewN_iff]); (try simp only [Blk.drew_iff]); repeat (first | with_reducible assumption | with_reducible exact Blk.new _ _ _ (by first | rfl | (simp; done) | (simp; omega)) | with_reducible refine Blk.alloc ?_ _ | with_reducible refine Blk.far ?_ (by first | (simp; done) | (simp; omega) | omega) _))) hb1
    have L1_1 : Blk w1 (w.heap.size + 1) [.int .i64 bx, .int .i64 by'] 31 := Blk.kept (by ((try simp only [Blk.drew_iff]); (try simp only [Blk.drewN_iff]); (try simp only [Blk.drew_iff]); repeat (first | with_reducible assumption | with_reducible exact Blk.new _ _ _ (by first | rfl | (simp; done) | (simp; omega)) | with_reducible refine Blk.alloc ?_ _ | with_reducible refine Blk.far ?_ (by first | (simp; done) | (simp; omega) | omega) _))) hb1
    have L2_1 : Blk w1 (w.heap.size + 1 + 1) [.int .i64 cx, .int .i64 cy] 31 := Blk.kept (by ((try simp only [Blk.drew_iff]); (try simp only [Blk.drewN_iff]); (try simp only [Blk.drew_iff]); repeat (first | with_reducible assumption | with_reducible exact Blk.new _ _ _ (by first | rfl | (simp; done) | (simp; omega)) | with_reducible refine Blk.alloc ?_ _ | with_reducible refine Blk.far ?_ (by first | (simp; done) | (simp; omega) | omega) _))) hb1
    clear hb1
    have l0_1 := L0_1.lt
    obtain ⟨f0_1_0, f0_1_1, f0_1_2, f0_1_3⟩ := L0_1.two
    have l1_1 := L1_1.lt
    obtain ⟨f1_1_0, f1_1_1, f1_1_2, f1_1_3⟩ := L1_1.two
    have l2_1 := L2_1.lt
    obtain ⟨f2_1_0, f2_1_1, f2_1_2, f2_1_3⟩ := L2_1.two
    go_wp2_with fail
    refine (refAllowed_any ax ay false _ H1.out).mono ?_
    rintro e w2 ⟨rfl, hb2⟩
    have acc2 : Below w.heap.size w w2 := below_step (by (repeat (first | with_reducible assumption | with_reducible exact Below.refl _ _ | simp only [Below.drew_iff] | simp only [Below.drewN_iff] | with_reducible refine Below.setCell ?_ (by first | omega | (simp; done) | (simp; omega)) _ | with_reducible refine Below.alloc ?_ (by first | omega | (simp; done) | (simp; omega)) _))) hb2
    have zz2 := acc2.size
    have L0_2 : Blk w2 (w.heap.size) [.int .i64 ax, .int .i64 ay] 31 := Blk.kept (by ((try simp only [Blk.drew_iff]); (try simp only [Blk.drewN_iff]); (try simp only [Blk.drew_iff]); repeat (first | with_reducible assumption | with_reducible exact Blk.new _ _ _ (by first | rfl | (simp; done) | (simp; omega)) | with_reducible refine Blk.alloc ?_ _ | with_reducible refine Blk.far ?_ (by first | (simp; done) | (simp; omega) | omega) _))) hb2
    have L1_2 : Blk w2 (w.heap.size + 1) [.int .i64 bx, .int .i64 by'] 31 := Blk.kept (by ((try simp only [Blk.drew_iff]); (try simp only [Blk.drewN_iff]); (try simp only [Blk.drew_iff]); repeat (first | with_reducible assumption | with_reducible exact Blk.new _ _ _ (by first | rfl | (simp; done) | (simp; omega)) | with_reducible refine Blk.alloc ?_ _ | with_reducible refine Blk.far ?_ (by first | (simp; done) | (simp; omega) | omega) _))) hb2
    have L2_2 : Blk w2 (w.heap.size + 1 + 1) [.int .i64 cx, .int .i64 cy] 31 := Blk.kept (by ((try simp only [Blk.drew_iff]); (try simp only [Blk.drewN_iff]); (try simp only [Blk.drew_iff]); repeat (first | with_reducible assumption | with_reducible exact Blk.new _ _ _ (by first | rfl | (simp; done) | (simp; omega)) | with_reducible refine Blk.alloc ?_ _ | with_reducible refine Blk.far ?_ (by first | (simp; done) | (simp; omega) | omega) _))) hb2
    clear hb2
    clear L0_1 l0_1 f0_1_0 f0_1_1 f0_1_2 f0_1_3 L1_1 l1_1 f1_1_0 f1_1_1 f1_1_2 f1_1_3 L2_1 l2_1 f2_1_0 f2_1_1 f2_1_2 f2_1_3
    have l0_2 := L0_2.lt
    obtain ⟨f0_2_0, f0_2_1, f0_2_2, f0_2_3⟩ := L0_2.two
    have l1_2 := L1_2.lt
    obtain ⟨f1_2_0, f1_2_1, f1_2_2, f1_2_3⟩ := L1_2.two
    have l2_2 := L2_2.lt
    obtain ⟨f2_2_0, f2_2_1, f2_2_2, f2_2_3⟩ := L2_2.two
    go_wp2
    go_ret
    exact ⟨rfl, acc2⟩
  · have H1 := Lib.hid h1
    have H2 := Lib.hid h2
    clear h1 h2
    go_enter Try.func4, Try.ntmps4
    go_wp2_with fail
    refine (awake_any _).mono ?_
    rintro e w1 ⟨rfl, hb1⟩
    have acc1 : Below w.heap.size w w1 := below_step (by (repeat (first | with_reducible assumption | with_reducible exact Below.refl _ _ | simp only [Below.drew_iff] | simp only [Below.drewN_iff] | with_reducible refine Below.setCell ?_ (by first | omega | (simp; done) | (simp; omega)) _ | with_reducible refine Below.alloc ?_ (by first | omega | (simp; done) | (simp; omega)) _))) hb1
    have zz1 := acc1.size
    have L0_1 : Blk w1 (w.heap.size) [.int .i64 ax, .int .i64 ay] 31 := Blk.kept (by ((try simp only [Blk.drew_iff]); (try simp only [Blk.drewN_iff]); (try simp only [Blk.drew_iff]); repeat (first | with_reducible assumption | with_reducible exact Blk.new _ _ _ (by first | rfl | (simp; done) | (simp; omega)) | with_reducible refine Blk.alloc ?_ _ | with_reducible refine Blk.far ?_ (by first | (simp; done) | (simp; omega) | omega) _))) hb1
    have L1_1 : Blk w1 (w.heap.size + 1) [.int .i64 bx, .int .i64 by'] 31 := Blk.kept (by ((try simp only [Blk.drew_iff]); (try simp only [Blk.drewN_iff]); (try simp only [Blk.drew_iff]); repeat (first | with_reducible assumption | with_reducible exact Blk.new _ _ _ (by first | rfl | (simp; done) | (simp; omega)) | with_reducible refine Blk.alloc ?_ _ | with_reducible refine Blk.far ?_ (by first | (simp; done) | (simp; omega) | omega) _))) hb1
    have L2_1 : Blk w1 (w.heap.size + 1 + 1) [.int .i64 cx, .int .i64 cy] 31 := Blk.kept (by ((try simp only [Blk.drew_iff]); (try simp only [Blk.drewN_iff]); (try simp only [Blk.drew_iff]); repeat (first | with_reducible assumption | with_reducible exact Blk.new _ _ _ (by first | rfl | (simp; done) | (simp; omega)) | with_reducible refine Blk.alloc ?_ _ | with_reducible refine Blk.far ?_ (by first | (simp; done) | (simp; omega) | omega) _))) hb1
    clear hb1
    have l0_1 := L0_1.lt
    obtain ⟨f0_1_0, f0_1_1, f0_1_2, f0_1_3⟩ := L0_1.two
    have l1_1 := L1_1.lt
    obtain ⟨f1_1_0, f1_1_1, f1_1_2, f1_1_3⟩ := L1_1.two
    have l2_1 := L2_1.lt
    obtain ⟨f2_1_0, f2_1_1, f2_1_2, f2_1_3⟩ := L2_1.two
    go_wp2_with fail
    refine (refAllowed_any ax ay true _ H1.out).mono ?_
    rintro e w2 ⟨rfl, hb2⟩
    have acc2 : Below w.heap.size w w2 := below_step (by (repeat (first | with_reducible assumption | with_reducible exact Below.refl _ _ | simp only [Below.drew_iff] | simp only [Below.drewN_iff] | with_reducible refine Below.setCell ?_ (by first | omega | (simp; done) | (simp; omega)) _ | with_reducible refine Below.alloc ?_ (by first | omega | (simp; done) | (simp; omega)) _))) hb2
    have zz2 := acc2.size
    have L0_2 : Blk w2 (w.heap.size) [.int .i64 ax, .int .i64 ay] 31 := Blk.kept (by ((try simp only [Blk.drew_iff]); (try simp only [Blk.drewN_iff]); (try simp only [Blk.drew_iff]); repeat (first | with_reducible assumption | with_reducible exact Blk.new _ _ _ (by first | rfl | (simp; done) | (simp; omega)) | with_reducible refine Blk.alloc ?_ _ | with_reducible refine Blk.far ?_ (by first | (simp; done) | (simp; omega) | omega) _))) hb2
    have L1_2 : Blk w2 (w.heap.size + 1) [.int .i64 bx, .int .i64 by'] 31 := Blk.kept (by ((try simp only [Blk.drew_iff]); (try simp only [Blk.drewN_iff]); (try simp only [Blk.drew_iff]); repeat (first | with_reducible assumption | with_reducible exact Blk.new _ _ _ (by first | rfl | (simp; done) | (simp; omega)) | with_reducible refine Blk.alloc ?_ _ | with_reducible refine Blk.far ?_ (by first | (simp; done) | (simp; omega) | omega) _))) hb2
    have L2_2 : Blk w2 (w.heap.size + 1 + 1) [.int .i64 cx, .int .i64 cy] 31 := Blk.kept (by ((try simp only [Blk.drew_iff]); (try simp only [Blk.drewN_iff]); (try simp only [Blk.drew_iff]); repeat (first | with_reducible assumption | with_reducible exact Blk.new _ _ _ (by first | rfl | (simp; done) | (simp; omega)) | with_reducible refine Blk.alloc ?_ _ | with_reducible refine Blk.far ?_ (by first | (simp; done) | (simp; omega) | omega) _))) hb2
    clear hb2
    clear L0_1 l0_1 f0_1_0 f0_1_1 f0_1_2 f0_1_3 L1_1 l1_1 f1_1_0 f1_1_1 f1_1_2 f1_1_3 L2_1 l2_1 f2_1_0 f2_1_1 f2_1_2 f2_1_3
    have l0_2 := L0_2.lt
    obtain ⟨f0_2_0, f0_2_1, f0_2_2, f0_2_3⟩ := L0_2.two
    have l1_2 := L1_2.lt
    obtain ⟨f1_2_0, f1_2_1, f1_2_2, f1_2_3⟩ := L1_2.two
    have l2_2 := L2_2.lt
    obtain ⟨f2_2_0, f2_2_1, f2_2_2, f2_2_3⟩ := L2_2.two
    go_wp2_with fail
    refine (refAllowed_any bx by' false _ H2.out).mono ?_
    rintro e w3 ⟨rfl, hb3⟩
    have acc3 : Below w.heap.size w w3 := below_step (by (repeat (first | with_reducible assumption | with_reducible exact Below.refl _ _ | simp only [Below.drew_iff] | simp only [Below.drewN_iff] | with_reducible refine Below.setCell ?_ (by first | omega | (simp; done) | (simp; omega)) _ | with_reducible refine Below.alloc ?_ (by first | omega | (simp; done) | (simp; omega)) _))) hb3
    have zz3 := acc3.size
    have L0_3 : Blk w3 (w.heap.size) [.int .i64 ax, .int .i64 ay] 31 := Blk.kept (by ((try simp only [Blk.drew_iff]); (try simp only [Blk.drewN_iff]); (try simp only [Blk.drew_iff]); repeat (first | with_reducible assumption | with_reducible exact Blk.new _ _ _ (by first | rfl | (simp; done) | (simp; omega)) | with_reducible refine Blk.alloc ?_ _ | with_reducible refine Blk.far ?_ (by first | (simp; done) | (simp; omega) | omega) _))) hb3
    have L1_3 : Blk w3 (w.heap.size + 1) [.int .i64 bx, .int .i64 by'] 31 := Blk.kept (by ((try simp only [Blk.drew_iff]); (try simp only [Blk.drewN_iff]); (try simp only [Blk.drew_iff]); repeat (first | with_reducible assumption | with_reducible exact Blk.new _ _ _ (by first | rfl | (simp; done) | (simp; omega)) | with_reducible refine Blk.alloc ?_ _ | with_reducible refine Blk.far ?_ (by first | (simp; done) | (simp; omega) | omega) _))) hb3
    have L2_3 : Blk w3 (w.heap.size + 1 + 1) [.int .i64 cx, .int .i64 cy] 31 := Blk.kept (by ((try simp only [Blk.drew_iff]); (try simp only [Blk.drewN_iff]); (try simp only [Blk.drew_iff]); repeat (first | with_reducible assumption | with_reducible exact Blk.new _ _ _ (by first | rfl | (simp; done) | (simp; omega)) | with_reducible refine Blk.alloc ?_ _ | with_reducible refine Blk.far ?_ (by first | (simp; done) | (simp; omega) | omega) _))) hb3
    clear hb3
    clear L0_2 l0_2 f0_2_0 f0_2_1 f0_2_2 f0_2_3 L1_2 l1_2 f1_2_0 f1_2_1 f1_2_2 f1_2_3 L2_2 l2_2 f2_2_0 f2_2_1 f2_2_2 f2_2_3
    have l0_3 := L0_3.lt
    obtain ⟨f0_3_0, f0_3_1, f0_3_2, f0_3_3⟩ := L0_3.two
    have l1_3 := L1_3.lt
    obtain ⟨f1_3_0, f1_3_1, f1_3_2, f1_3_3⟩ := L1_3.two
    have l2_3 := L2_3.lt
    obtain ⟨f2_3_0, f2_3_1, f2_3_2, f2_3_3⟩ := L2_3.two
    go_wp2
    go_ret
    exact ⟨rfl, acc3⟩
  · have H1 := Lib.hid h1
    have H2 := Lib.hid h2
    have H3 := Lib.hid h3
    clear h1 h2 h3
    go_enter Try.func4, Try.ntmps4
    go_wp2_with fail
    refine (awake_any _).mono ?_
    rintro e w1 ⟨rfl, hb1⟩
    have acc1 : Below w.heap.size w w1 := below_step (by (repeat (first | with_reducible assumption | with_reducible exact Below.refl _ _ | simp only [Below.drew_iff] | simp only [Below.drewN_iff] | with_reducible refine Below.setCell ?_ (by first | omega | (simp; done) | (simp; omega)) _ | with_reducible refine Below.alloc ?_ (by first | omega | (simp; done) | (simp; omega)) _))) hb1
    have zz1 := acc1.size
    have L0_1 : Blk w1 (w.heap.size) [.int .i64 ax, .int .i64 ay] 31 := Blk.kept (by ((try simp only [Blk.drew_iff]); (try simp only [Blk.drewN_iff]); (try simp only [Blk.drew_iff]); repeat (first | with_reducible assumption | with_reducible exact Blk.new _ _ _ (by first | rfl | (simp; done) | (simp; omega)) | with_reducible refine Blk.alloc ?_ _ | with_reducible refine Blk.far ?_ (by first | (simp; done) | (simp; omega) | omega) _))) hb1
    have L1_1 : Blk w1 (w.heap.size + 1) [.int .i64 bx, .int .i64 by'] 31 := Blk.kept (by ((try simp only [Blk.drew_iff]); (try simp only [Blk.drewN_iff]); (try simp only [Blk.drew_iff]); repeat (first | with_reducible assumption | with_reducible exact Blk.new _ _ _ (by first | rfl | (simp; done) | (simp; omega)) | with_reducible refine Blk.alloc ?_ _ | with_reducible refine Blk.far ?_ (by first | (simp; done) | (simp; omega) | omega) _))) hb1
    have L2_1 : Blk w1 (w.heap.size + 1 + 1) [.int .i64 cx, .int .i64 cy] 31 := Blk.kept (by ((try simp only [Blk.drew_iff]); (try simp only [Blk.drewN_iff]); (try simp only [Blk.drew_iff]); repeat (first | with_reducible assumption | with_reducible exact Blk.new _ _ _ (by first | rfl | (simp; done) | (simp; omega)) | with_reducible refine Blk.alloc ?_ _ | with_reducible refine Blk.far ?_ (by first | (simp; done) | (simp; omega) | omega) _))) hb1
    clear hb1
    have l0_1 := L0_1.lt
    obtain ⟨f0_1_0, f0_1_1, f0_1_2, f0_1_3⟩ := L0_1.two
    have l1_1 := L1_1.lt
    obtain ⟨f1_1_0, f1_1_1, f1_1_2, f1_1_3⟩ := L1_1.two
    have l2_1 := L2_1.lt
    obtain ⟨f2_1_0, f2_1_1, f2_1_2, f2_1_3⟩ := L2_1.two
    go_wp2_with fail
    refine (refAllowed_any ax ay true _ H1.out).mono ?_
    rintro e w2 ⟨rfl, hb2⟩
    have acc2 : Below w.heap.size w w2 := below_step (by (repeat (first | with_reducible assumption | with_reducible exact Below.refl _ _ | simp only [Below.drew_iff] | simp only [Below.drewN_iff] | with_reducible refine Below.setCell ?_ (by first | omega | (simp; done) | (simp; omega)) _ | with_reducible refine Below.alloc ?_ (by first | omega | (simp; done) | (simp; omega)) _))) hb2
    have zz2 := acc2.size
    have L0_2 : Blk w2 (w.heap.size) [.int .i64 ax, .int .i64 ay] 31 := Blk.kept (by ((try simp only [Blk.drew_iff]); (try simp only [Blk.drewN_iff]); (try simp only [Blk.drew_iff]); repeat (first | with_reducible assumption | with_reducible exact Blk.new _ _ _ (by first | rfl | (simp; done) | (simp; omega)) | with_reducible refine Blk.alloc ?_ _ | with_reducible refine Blk.far ?_ (by first | (simp; done) | (simp; omega) | omega) _))) hb2
    have L1_2 : Blk w2 (w.heap.size + 1) [.int .i64 bx, .int .i64 by'] 31 := Blk.kept (by ((try simp only [Blk.drew_iff]); (try simp only [Blk.drewN_iff]); (try simp only [Blk.drew_iff]); repeat (first | with_reducible assumption | with_reducible exact Blk.new _ _ _ (by first | rfl | (simp; done) | (simp; omega)) | with_reducible refine Blk.alloc ?_ _ | with_reducible refine Blk.far ?_ (by first | (simp; done) | (simp; omega) | omega) _))) hb2
    have L2_2 : Blk w2 (w.heap.size + 1 + 1) [.int .i64 cx, .int .i64 cy] 31 := Blk.kept (by ((try simp only [Blk.drew_iff]); (try simp only [Blk.drewN_iff]); (try simp only [Blk.drew_iff]); repeat (first | with_reducible assumption | with_reducible exact Blk.new _ _ _ (by first | rfl | (simp; done) | (simp; omega)) | with_reducible refine Blk.alloc ?_ _ | with_reducible refine Blk.far ?_ (by first | (simp; done) | (simp; omega) | omega) _))) hb2
    clear hb2
    clear L0_1 l0_1 f0_1_0 f0_1_1 f0_1_2 f0_1_3 L1_1 l1_1 f1_1_0 f1_1_1 f1_1_2 f1_1_3 L2_1 l2_1 f2_1_0 f2_1_1 f2_1_2 f2_1_3
    have l0_2 := L0_2.lt
    obtain ⟨f0_2_0, f0_2_1, f0_2_2, f0_2_3⟩ := L0_2.two
    have l1_2 := L1_2.lt
    obtain ⟨f1_2_0, f1_2_1, f1_2_2, f1_2_3⟩ := L1_2.two
    have l2_2 := L2_2.lt
    obtain ⟨f2_2_0, f2_2_1, f2_2_2, f2_2_3⟩ := L2_2.two
    go_wp2_with fail
    refine (refAllowed_any bx by' true _ H2.out).mono ?_
    rintro e w3 ⟨rfl, hb3⟩
    have acc3 : Below w.heap.size w w3 := below_step (by (repeat (first | with_reducible assumption | with_reducible exact Below.refl _ _ | simp only [Below.drew_iff] | simp only [Below.drewN_iff] | with_reducible refine Below.setCell ?_ (by first | omega | (simp; done) | (simp; omega)) _ | with_reducible refine Below.alloc ?_ (by first | omega | (simp; done) | (simp; omega)) _))) hb3
    have zz3 := acc3.size
    have L0_3 : Blk w3 (w.heap.size) [.int .i64 ax, .int .i64 ay] 31 := Blk.kept (by ((try simp only [Blk.drew_iff]); (try simp only [Blk.drewN_iff]); (try simp only [Blk.drew_iff]); repeat (first | with_reducible assumption | with_reducible exact Blk.new _ _ _ (by first | rfl | (simp; done) | (simp; omega)) | with_reducible refine Blk.alloc ?_ _ | with_reducible refine Blk.far ?_ (by first | (simp; done) | (simp; omega) | omega) _))) hb3
    have L1_3 : Blk w3 (w.heap.size + 1) [.int .i64 bx, .int .i64 by'] 31 := Blk.kept (by ((try simp only [Blk.drew_iff]); (try simp only [Blk.drewN_iff]); (try simp only [Blk.drew_iff]); repeat (first | with_reducible assumption | with_reducible exact Blk.new _ _ _ (by first | rfl | (simp; done) | (simp; omega)) | with_reducible refine Blk.alloc ?_ _ | with_reducible refine Blk.far ?_ (by first | (simp; done) | (simp; omega) | omega) _))) hb3
    have L2_3 : Blk w3 (w.heap.size + 1 + 1) [.int .i64 cx, .int .i64 cy] 31 := Blk.kept (by ((try simp only [Blk.drew_iff]); (try simp only [Blk.drewN_iff]); (try simp only [Blk.drew_iff]); repeat (first | with_reducible assumption | with_reducible exact Blk.new _ _ _ (by first | rfl | (simp; done) | (simp; omega)) | with_reducible refine Blk.alloc ?_ _ | with_reducible refine Blk.far ?_ (by first | (simp; done) | (simp; omega) | omega) _))) hb3
    clear hb3
    clear L0_2 l0_2 f0_2_0 f0_2_1 f0_2_2 f0_2_3 L1_2 l1_2 f1_2_0 f1_2_1 f1_2_2 f1_2_3 L2_2 l2_2 f2_2_0 f2_2_1 f2_2_2 f2_2_3
    have l0_3 := L0_3.lt
    obtain ⟨f0_3_0, f0_3_1, f0_3_2, f0_3_3⟩ := L0_3.two
    have l1_3 := L1_3.lt
    obtain ⟨f1_3_0, f1_3_1, f1_3_2, f1_3_3⟩ := L1_3.two
    have l2_3 := L2_3.lt
    obtain ⟨f2_3_0, f2_3_1, f2_3_2, f2_3_3⟩ := L2_3.two
    go_wp2_with fail
    refine (refAllowed_any cx cy false _ H3.out).mono ?_
    rintro e w4 ⟨rfl, hb4⟩
    have acc4 : Below w.heap.size w w4 := below_step (by (repeat (first | with_reducible assumption | with_reducible exact Below.refl _ _ | simp only [Below.drew_iff] | simp only [Below.drewN_iff] | with_reducible refine Below.setCell ?_ (by first | omega | (simp; done) | (simp; omega)) _ | with_reducible refine Below.alloc ?_ (by first | omega | (simp; done) | (simp; omega)) _))) hb4
    have zz4 := acc4.size
    have L0_4 : Blk w4 (w.heap.size) [.int .i64 ax, .int .i64 ay] 31 := Blk.kept (by ((try simp only [Blk.drew_iff]); (try simp only [Blk.drewN_iff]); (try simp only [Blk.drew_iff]); repeat (first | with_reducible assumption | with_reducible exact Blk.new _ _ _ (by first | rfl | (simp; done) | (simp; omega)) | with_reducible refine Blk.alloc ?_ _ | with_reducible refine Blk.far ?_ (by first | (simp; done) | (simp; omega) | omega) _))) hb4
    have L1_4 : Blk w4 (w.heap.size + 1) [.int .i64 bx, .int .i64 by'] 31 := Blk.kept (by ((try simp only [Blk.drew_iff]); (try simp only [Blk.drewN_iff]); (try simp only [Blk.drew_iff]); repeat (first | with_reducible assumption | with_reducible exact Blk.new _ _ _ (by first | rfl | (simp; done) | (simp; omega)) | with_reducible refine Blk.alloc ?_ _ | with_reducible refine Blk.far ?_ (by first | (simp; done) | (simp; omega) | omega) _))) hb4
    have L2_4 : Blk w4 (w.heap.size + 1 + 1) [.int .i64 cx, .int .i64 cy] 31 := Blk.kept (by ((try simp only [Blk.drew_iff]); (try simp only [Blk.drewN_iff]); (try simp only [Blk.drew_iff]); repeat (first | with_reducible assumption | with_reducible exact Blk.new _ _ _ (by first | rfl | (simp; done) | (simp; omega)) | with_reducible refine Blk.alloc ?_ _ | with_reducible refine Blk.far ?_ (by first | (simp; done) | (simp; omega) | omega) _))) hb4
    clear hb4
    clear L0_3 l0_3 f0_3_0 f0_3_1 f0_3_2 f0_3_3 L1_3 l1_3 f1_3_0 f1_3_1 f1_3_2 f1_3_3 L2_3 l2_3 f2_3_0 f2_3_1 f2_3_2 f2_3_3
    have l0_4 := L0_4.lt
    obtain ⟨f0_4_0, f0_4_1, f0_4_2, f0_4_3⟩ := L0_4.two
    have l1_4 := L1_4.lt
    obtain ⟨f1_4_0, f1_4_1, f1_4_2, f1_4_3⟩ := L1_4.two
    have l2_4 := L2_4.lt
    obtain ⟨f2_4_0, f2_4_1, f2_4_2, f2_4_3⟩ := L2_4.two
    go_wp2
    go_ret
    exact ⟨rfl, acc4⟩
end Go.Proofs.Ytklkkehhmmipeaa
