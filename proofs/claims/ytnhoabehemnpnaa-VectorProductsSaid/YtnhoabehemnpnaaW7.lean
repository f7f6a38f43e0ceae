/- The walk of the statement VectorProducts. -/
import Derived.Test.YtnhoabehemnpnaaWA
import Derived.Test.YtnhoabehemnpnaaW6
import Derived.Test.YtnhoabehemnpnaaW1
import Derived.Deep.DeepCutAuto
namespace Go.Proofs.Ytnhoabehemnpnaa
open Go.RowKit
attribute [local go_sem ↓] Go.wp_at_zero Go.wp_at_succ

theorem prod_in {x y z x' y' z' : Int} (h1 : inV x y z = true) (h2 : inV x' y' z' = true) : dotV x y z x' y' z' = .tuple #[.int .i64 (x * x' + y * y' + z * z'), .int .i64 0] ∧ crossV x y z x' y' z' = .tuple #[v3 (y * z' - z * y') (z * x' - x * z') (x * y' - y * x'), .int .i64 0] ∧
    distV x y z x' y' z' = .tuple #[.int .i64 ((x - x') * (x - x') + (y - y') * (y - y') + (z - z') * (z - z')), .int .i64 0] := by
  have p1 : (inV x y z && inV x' y' z') = true := by rw [h1, h2]; rfl
  refine ⟨?_, ?_, ?_⟩
  · unfold dotV; rw [if_pos p1]
  · unfold crossV; rw [if_pos p1]
  · unfold distV; rw [if_pos p1]
theorem dist_out {x y z x' y' z' : Int} (h : (inV x y z && inV x' y' z') = false) : distV x y z x' y' z' = .tuple #[.int .i64 0, .int .i64 6] := by
  unfold distV; rw [if_neg (by simp [h])]

set_option maxRecDepth 100000 in
set_option maxHeartbeats 16000000 in
theorem vectorProducts_any (x y z x' y' z' : Int) (w : World) :
    Calls Try.prog 4 #[v3 x y z, v3 x' y' z'] w fun e w' => e = .returned (.bool true) ∧ Below w.heap.size w w' := by
  rcases (show (inV x y z = true ∧ inV x' y' z' = true) ∨ inV x y z = false ∨ (inV x y z = true ∧ inV x' y' z' = false) by cases inV x y z <;> cases inV x' y' z' <;> simp) with ⟨h1, h2⟩ | h1 | ⟨h1, h2⟩
  · obtain ⟨t1, t2, t3⟩ := prod_in h1 h2
    obtain ⟨⟨a1, a2⟩, ⟨a3, a4⟩, a5, a6⟩ := inV_true h1
    obtain ⟨⟨e1, e2⟩, ⟨e3, e4⟩, e5, e6⟩ := inV_true h2
    obtain ⟨k1, k2⟩ := mul_in a1 a2 e1 e2
    obtain ⟨k3, k4⟩ := mul_in a3 a4 e3 e4
    obtain ⟨k5, k6⟩ := mul_in a5 a6 e5 e6
    obtain ⟨l1, l2⟩ := mul_in2 (a := x - x') (b := x - x') (by omega) (by omega) (by omega) (by omega)
    obtain ⟨l3, l4⟩ := mul_in2 (a := y - y') (b := y - y') (by omega) (by omega) (by omega) (by omega)
    obtain ⟨l5, l6⟩ := mul_in2 (a := z - z') (b := z - z') (by omega) (by omega) (by omega) (by omega)
    have r1 : ∀ W, Calls Try.prog 21 #[v3 x y z, v3 x' y' z'] W fun e w' => e = .returned (v3 (x - x') (y - y') (z - z')) ∧ Below W.heap.size W w' := fun W => refSub_any x y z x' y' z' W h1 h2
    have r2 : ∀ W, Calls Try.prog 25 #[v3 x y z, v3 x' y' z'] W fun e w' => e = .returned (.int .i64 (x * x' + y * y' + z * z')) ∧ Below W.heap.size W w' := fun W => refDot_any x y z x' y' z' W (by omega) (by omega) (by omega) (by omega) (by omega) (by omega)
    have r3 : ∀ W, Calls Try.prog 26 #[v3 x y z, v3 x' y' z'] W fun e w' => e = .returned (v3 (y * z' - z * y') (z * x' - x * z') (x * y' - y * x')) ∧ Below W.heap.size W w' := fun W => refCross_any x y z x' y' z' W h1 h2
    have r4 : ∀ W, Calls Try.prog 25 #[v3 (x - x') (y - y') (z - z'), v3 (x - x') (y - y') (z - z')] W fun e w' => e = .returned (.int .i64 ((x - x') * (x - x') + (y - y') * (y - y') + (z - z') * (z - z'))) ∧ Below W.heap.size W w' := fun W => refDot_any _ _ _ _ _ _ W (by omega) (by omega) (by omega) (by omega) (by omega) (by omega)
    clear a1 a2 a3 a4 a5 a6 e1 e2 e3 e4 e5 e6 k1 k2 k3 k4 k5 k6 l1 l2 l3 l4 l5 l6
    generalize (x - x') * (x - x') + (y - y') * (y - y') + (z - z') * (z - z') = d at t3 r4
    generalize x * x' + y * y' + z * z' = n at t1 r2
    generalize y * z' - z * y' = c1 at t2 r3
    generalize z * x' - x * z' = c2 at t2 r3
    generalize x * y' - y * x' = c3 at t2 r3
    generalize x - x' = s1 at r1 r4
    generalize y - y' = s2 at r1 r4
    generalize z - z' = s3 at r1 r4
    have hq := arr_eq c1 c2 c3 c1 c2 c3
    simp only [beq_self_eq_true, Bool.and_self] at hq
    have H1 := Lib.hid t1
    have H2 := Lib.hid t2
    have H3 := Lib.hid t3
    have H4 := Lib.hid h1
    have H5 := Lib.hid h2
    have H6 := Lib.hid r1
    have H7 := Lib.hid r2
    have H8 := Lib.hid r3
    have H9 := Lib.hid r4
    clear t1 t2 t3 h1 h2 r1 r2 r3 r4
    go_enter Try.func4, Try.ntmps4
    go_wp2_with fail
    refine (awake_any _).mono ?_
    rintro e w1 ⟨rfl, hb1⟩
    have acc1 : Below w.heap.size w w1 := below_step (by (repeat (first | with_reducible assumption | with_reducible exact Below.refl _ _ | simp only [Below.drew_iff] | simp only [Below.drewN_iff] | with_reducible refine Below.setCell ?_ (by first | omega | (simp; done) | (simp; omega)) _ | with_reducible refine Below.alloc ?_ (by first | omega | (simp; done) | (simp; omega)) _))) hb1
    have zz1 := acc1.size
    have L0_1 : Blk w1 (w.heap.size) [.int .i64 x, .int .i64 y, .int .i64 z] 23 := Blk.kept (by ((try simp only [Blk.drew_iff]); (try simp only [Blk.drewN_iff]); (try simp only [Blk.drew_iff]); repeat (first | with_reducible assumption | with_reducible exact Blk.new _ _ _ (by first | rfl | (simp; done) | (simp; omega)) | with_reducible refine Blk.alloc ?_ _ | with_reducible refine Blk.far ?_ (by first | (simp; done) | (simp; omega) | omega) _))) hb1
    have L1_1 : Blk w1 (w.heap.size + 1) [.int .i64 x', .int .i64 y', .int .i64 z'] 23 := Blk.kept (by ((try simp only [Blk.drew_iff]); (try simp only [Blk.drewN_iff]); (try simp only [Blk.drew_iff]); repeat (first | with_reducible assumption | with_reducible exact Blk.new _ _ _ (by first | rfl | (simp; done) | (simp; omega)) | with_reducible refine Blk.alloc ?_ _ | with_reducible refine Blk.far ?_ (by first | (simp; done) | (simp; omega) | omega) _))) hb1
    clear hb1
    have l0_1 := L0_1.lt
    obtain ⟨f0_1_0, f0_1_1, f0_1_2, f0_1_3, f0_1_4, f0_1_5⟩ := L0_1.three
    have l1_1 := L1_1.lt
    obtain ⟨f1_1_0, f1_1_1, f1_1_2, f1_1_3, f1_1_4, f1_1_5⟩ := L1_1.three
    go_wp2_with fail
    refine (dot_e x y z x' y' z' n 0 _ H1.out).mono ?_
    rintro e w2 ⟨rfl, hb2⟩
    have acc2 : Below w.heap.size w w2 := below_step (by (repeat (first | with_reducible assumption | with_reducible exact Below.refl _ _ | simp only [Below.drew_iff] | simp only [Below.drewN_iff] | with_reducible refine Below.setCell ?_ (by first | omega | (simp; done) | (simp; omega)) _ | with_reducible refine Below.alloc ?_ (by first | omega | (simp; done) | (simp; omega)) _))) hb2
    have zz2 := acc2.size
    have L0_2 : Blk w2 (w.heap.size) [.int .i64 x, .int .i64 y, .int .i64 z] 23 := Blk.kept (by ((try simp only [Blk.drew_iff]); (try simp only [Blk.drewN_iff]); (try simp only [Blk.drew_iff]); repeat (first | with_reducible assumption | with_reducible exact Blk.new _ _ _ (by first | rfl | (simp; done) | (simp; omega)) | with_reducible refine Blk.alloc ?_ _ | with_reducible refine Blk.far ?_ (by first | (simp; done) | (simp; omega) | omega) _))) hb2
    have L1_2 : Blk w2 (w.heap.size + 1) [.int .i64 x', .int .i64 y', .int .i64 z'] 23 := Blk.kept (by ((try simp only [Blk.drew_iff]); (try simp only [Blk.drewN_iff]); (try simp only [Blk.drew_iff]); repeat (first | with_reducible assumption | with_reducible exact Blk.new _ _ _ (by first | rfl | (simp; done) | (simp; omega)) | with_reducible refine Blk.alloc ?_ _ | with_reducible refine Blk.far ?_ (by first | (simp; done) | (simp; omega) | omega) _))) hb2
    clear hb2
    clear L0_1 l0_1 f0_1_0 f0_1_1 f0_1_2 f0_1_3 f0_1_4 f0_1_5 L1_1 l1_1 f1_1_0 f1_1_1 f1_1_2 f1_1_3 f1_1_4 f1_1_5
    have l0_2 := L0_2.lt
    obtain ⟨f0_2_0, f0_2_1, f0_2_2, f0_2_3, f0_2_4, f0_2_5⟩ := L0_2.three
    have l1_2 := L1_2.lt
    obtain ⟨f1_2_0, f1_2_1, f1_2_2, f1_2_3, f1_2_4, f1_2_5⟩ := L1_2.three
    go_wp2_with fail
    refine (cross_e x y z x' y' z' c1 c2 c3 0 _ H2.out).mono ?_
    rintro e w3 ⟨rfl, hb3⟩
    have acc3 : Below w.heap.size w w3 := below_step (by (repeat (first | with_reducible assumption | with_reducible exact Below.refl _ _ | simp only [Below.drew_iff] | simp only [Below.drewN_iff] | with_reducible refine Below.setCell ?_ (by first | omega | (simp; done) | (simp; omega)) _ | with_reducible refine Below.alloc ?_ (by first | omega | (simp; done) | (simp; omega)) _))) hb3
    have zz3 := acc3.size
    have L0_3 : Blk w3 (w.heap.size) [.int .i64 x, .int .i64 y, .int .i64 z] 23 := Blk.kept (by ((try simp only [Blk.drew_iff]); (try simp only [Blk.drewN_iff]); (try simp only [Blk.drew_iff]); repeat (first | with_reducible assumption | with_reducible exact Blk.new _ _ _ (by first | rfl | (simp; done) | (simp; omega)) | with_reducible refine Blk.alloc ?_ _ | with_reducible refine Blk.far ?_ (by first | (simp; done) | (simp; omega) | omega) _))) hb3
    have L1_3 : Blk w3 (w.heap.size + 1) [.int .i64 x', .int .i64 y', .int .i64 z'] 23 := Blk.kept (by ((try simp only [Blk.drew_iff]); (try simp only [Blk.drewN_iff]); (try simp only [Blk.drew_iff]); repeat (first | with_reducible assumption | with_reducible exact Blk.new _ _ _ (by first | rfl | (simp; done) | (simp; omega)) | with_reducible refine Blk.alloc ?_ _ | with_reducible refine Blk.far ?_ (by first | (simp; done) | (simp; omega) | omega) _))) hb3
    clear hb3
    clear L0_2 l0_2 f0_2_0 f0_2_1 f0_2_2 f0_2_3 f0_2_4 f0_2_5 L1_2 l1_2 f1_2_0 f1_2_1 f1_2_2 f1_2_3 f1_2_4 f1_2_5
    have l0_3 := L0_3.lt
    obtain ⟨f0_3_0, f0_3_1, f0_3_2, f0_3_3, f0_3_4, f0_3_5⟩ := L0_3.three
    have l1_3 := L1_3.lt
    obtain ⟨f1_3_0, f1_3_1, f1_3_2, f1_3_3, f1_3_4, f1_3_5⟩ := L1_3.three
    go_wp2_with fail
    refine (dist_e x y z x' y' z' d 0 _ H3.out).mono ?_
    rintro e w4 ⟨rfl, hb4⟩
    have acc4 : Below w.heap.size w w4 := below_step (by (repeat (first | with_reducible assumption | with_reducible exact Below.refl _ _ | simp only [Below.drew_iff] | simp only [Below.drewN_iff] | with_reducible refine Below.setCell ?_ (by first | omega | (simp; done) | (simp; omega)) _ | with_reducible refine Below.alloc ?_ (by first | omega | (simp; done) | (simp; omega)) _))) hb4
    have zz4 := acc4.size
    have L0_4 : Blk w4 (w.heap.size) [.int .i64 x, .int .i64 y, .int .i64 z] 23 := Blk.kept (by ((try simp only [Blk.drew_iff]); (try simp only [Blk.drewN_iff]); (try simp only [Blk.drew_iff]); repeat (first | with_reducible assumption | with_reducible exact Blk.new _ _ _ (by first | rfl | (simp; done) | (simp; omega)) | with_reducible refine Blk.alloc ?_ _ | with_reducible refine Blk.far ?_ (by first | (simp; done) | (simp; omega) | omega) _))) hb4
    have L1_4 : Blk w4 (w.heap.size + 1) [.int .i64 x', .int .i64 y', .int .i64 z'] 23 := Blk.kept (by ((try simp only [Blk.drew_iff]); (try simp only [Blk.drewN_iff]); (try simp only [Blk.drew_iff]); repeat (first | with_reducible assumption | with_reducible exact Blk.new _ _ _ (by first | rfl | (simp; done) | (simp; omega)) | with_reducible refine Blk.alloc ?_ _ | with_reducible refine Blk.far ?_ (by first | (simp; done) | (simp; omega) | omega) _))) hb4
    have L2_4 : Blk w4 (w3.heap.size) [.int .i64 c1, .int .i64 c2, .int .i64 c3] 36 := Blk.kept (by ((try simp only [Blk.drew_iff]); (try simp only [Blk.drewN_iff]); (try simp only [Blk.drew_iff]); repeat (first | with_reducible assumption | with_reducible exact Blk.new _ _ _ (by first | rfl | (simp; done) | (simp; omega)) | with_reducible refine Blk.alloc ?_ _ | with_reducible refine Blk.far ?_ (by first | (simp; done) | (simp; omega) | omega) _))) hb4
    clear hb4
    clear L0_3 l0_3 f0_3_0 f0_3_1 f0_3_2 f0_3_3 f0_3_4 f0_3_5 L1_3 l1_3 f1_3_0 f1_3_1 f1_3_2 f1_3_3 f1_3_4 f1_3_5
    have l0_4 := L0_4.lt
    obtain ⟨f0_4_0, f0_4_1, f0_4_2, f0_4_3, f0_4_4, f0_4_5⟩ := L0_4.three
    have l1_4 := L1_4.lt
    obtain ⟨f1_4_0, f1_4_1, f1_4_2, f1_4_3, f1_4_4, f1_4_5⟩ := L1_4.three
    have l2_4 := L2_4.lt
    obtain ⟨f2_4_0, f2_4_1, f2_4_2, f2_4_3, f2_4_4, f2_4_5⟩ := L2_4.three
    go_wp2_with fail
    refine (in_e x y z true _ H4.out).mono ?_
    rintro e w5 ⟨rfl, hb5⟩
    have acc5 : Below w.heap.size w w5 := below_step (by (repeat (first | with_reducible assumption | with_reducible exact Below.refl _ _ | simp only [Below.drew_iff] | simp only [Below.drewN_iff] | with_reducible refine Below.setCell ?_ (by first | omega | (simp; done) | (simp; omega)) _ | with_reducible refine Below.alloc ?_ (by first | omega | (simp; done) | (simp; omega)) _))) hb5
    have zz5 := acc5.size
    have L0_5 : Blk w5 (w.heap.size) [.int .i64 x, .int .i64 y, .int .i64 z] 23 := Blk.kept (by ((try simp only [Blk.drew_iff]); (try simp only [Blk.drewN_iff]); (try simp only [Blk.drew_iff]); repeat (first | with_reducible assumption | with_reducible exact Blk.new _ _ _ (by first | rfl | (simp; done) | (simp; omega)) | with_reducible refine Blk.alloc ?_ _ | with_reducible refine Blk.far ?_ (by first | (simp; done) | (simp; omega) | omega) _))) hb5
    have L1_5 : Blk w5 (w.heap.size + 1) [.int .i64 x', .int .i64 y', .int .i64 z'] 23 := Blk.kept (by ((try simp only [Blk.drew_iff]); (try simp only [Blk.drewN_iff]); (try simp only [Blk.drew_iff]); repeat (first | with_reducible assumption | with_reducible exact Blk.new _ _ _ (by first | rfl | (simp; done) | (simp; omega)) | with_reducible refine Blk.alloc ?_ _ | with_reducible refine Blk.far ?_ (by first | (simp; done) | (simp; omega) | omega) _))) hb5
    have L2_5 : Blk w5 (w3.heap.size) [.int .i64 c1, .int .i64 c2, .int .i64 c3] 36 := Blk.kept (by ((try simp only [Blk.drew_iff]); (try simp only [Blk.drewN_iff]); (try simp only [Blk.drew_iff]); repeat (first | with_reducible assumption | with_reducible exact Blk.new _ _ _ (by first | rfl | (simp; done) | (simp; omega)) | with_reducible refine Blk.alloc ?_ _ | with_reducible refine Blk.far ?_ (by first | (simp; done) | (simp; omega) | omega) _))) hb5
    clear hb5
    clear L0_4 l0_4 f0_4_0 f0_4_1 f0_4_2 f0_4_3 f0_4_4 f0_4_5 L1_4 l1_4 f1_4_0 f1_4_1 f1_4_2 f1_4_3 f1_4_4 f1_4_5 L2_4 l2_4 f2_4_0 f2_4_1 f2_4_2 f2_4_3 f2_4_4 f2_4_5
    have l0_5 := L0_5.lt
    obtain ⟨f0_5_0, f0_5_1, f0_5_2, f0_5_3, f0_5_4, f0_5_5⟩ := L0_5.three
    have l1_5 := L1_5.lt
    obtain ⟨f1_5_0, f1_5_1, f1_5_2, f1_5_3, f1_5_4, f1_5_5⟩ := L1_5.three
    have l2_5 := L2_5.lt
    obtain ⟨f2_5_0, f2_5_1, f2_5_2, f2_5_3, f2_5_4, f2_5_5⟩ := L2_5.three
    go_wp2_with fail
    refine (in_e x' y' z' true _ H5.out).mono ?_
    rintro e w6 ⟨rfl, hb6⟩
    have acc6 : Below w.heap.size w w6 := below_step (by (repeat (first | with_reducible assumption | with_reducible exact Below.refl _ _ | simp only [Below.drew_iff] | simp only [Below.drewN_iff] | with_reducible refine Below.setCell ?_ (by first | omega | (simp; done) | (simp; omega)) _ | with_reducible refine Below.alloc ?_ (by first | omega | (simp; done) | (simp; omega)) _))) hb6
    have zz6 := acc6.size
    have L0_6 : Blk w6 (w.heap.size) [.int .i64 x, .int .i64 y, .int .i64 z] 23 := Blk.kept (by ((try simp only [Blk.drew_iff]); (try simp only [Blk.drewN_iff]); (try simp only [Blk.drew_iff]); repeat (first | with_reducible assumption | with_reducible exact Blk.new _ _ _ (by first | rfl | (simp; done) | (simp; omega)) | with_reducible refine Blk.alloc ?_ _ | with_reducible refine Blk.far ?_ (by first | (simp; done) | (simp; omega) | omega) _))) hb6
    have L1_6 : Blk w6 (w.heap.size + 1) [.int .i64 x', .int .i64 y', .int .i64 z'] 23 := Blk.kept (by ((try simp only [Blk.drew_iff]); (try simp only [Blk.drewN_iff]); (try simp only [Blk.drew_iff]); repeat (first | with_reducible assumption | with_reducible exact Blk.new _ _ _ (by first | rfl | (simp; done) | (simp; omega)) | with_reducible refine Blk.alloc ?_ _ | with_reducible refine Blk.far ?_ (by first | (simp; done) | (simp; omega) | omega) _))) hb6
    have L2_6 : Blk w6 (w3.heap.size) [.int .i64 c1, .int .i64 c2, .int .i64 c3] 36 := Blk.kept (by ((try simp only [Blk.drew_iff]); (try simp only [Blk.drewN_iff]); (try simp only [Blk.drew_iff]); repeat (first | with_reducible assumption | with_reducible exact Blk.new _ _ _ (by first | rfl | (simp; done) | (simp; omega)) | with_reducible refine Blk.alloc ?_ _ | with_reducible refine Blk.far ?_ (by first | (simp; done) | (simp; omega) | omega) _))) hb6
    clear hb6
    clear L0_5 l0_5 f0_5_0 f0_5_1 f0_5_2 f0_5_3 f0_5_4 f0_5_5 L1_5 l1_5 f1_5_0 f1_5_1 f1_5_2 f1_5_3 f1_5_4 f1_5_5 L2_5 l2_5 f2_5_0 f2_5_1 f2_5_2 f2_5_3 f2_5_4 f2_5_5
    have l0_6 := L0_6.lt
    obtain ⟨f0_6_0, f0_6_1, f0_6_2, f0_6_3, f0_6_4, f0_6_5⟩ := L0_6.three
    have l1_6 := L1_6.lt
    obtain ⟨f1_6_0, f1_6_1, f1_6_2, f1_6_3, f1_6_4, f1_6_5⟩ := L1_6.three
    have l2_6 := L2_6.lt
    obtain ⟨f2_6_0, f2_6_1, f2_6_2, f2_6_3, f2_6_4, f2_6_5⟩ := L2_6.three
    go_wp2_with fail
    refine (H6.out _).mono ?_
    rintro e w7 ⟨rfl, hb7⟩
    have acc7 : Below w.heap.size w w7 := below_step (by (repeat (first | with_reducible assumption | with_reducible exact Below.refl _ _ | simp only [Below.drew_iff] | simp only [Below.drewN_iff] | with_reducible refine Below.setCell ?_ (by first | omega | (simp; done) | (simp; omega)) _ | with_reducible refine Below.alloc ?_ (by first | omega | (simp; done) | (simp; omega)) _))) hb7
    have zz7 := acc7.size
    have L0_7 : Blk w7 (w.heap.size) [.int .i64 x, .int .i64 y, .int .i64 z] 23 := Blk.kept (by ((try simp only [Blk.drew_iff]); (try simp only [Blk.drewN_iff]); (try simp only [Blk.drew_iff]); repeat (first | with_reducible assumption | with_reducible exact Blk.new _ _ _ (by first | rfl | (simp; done) | (simp; omega)) | with_reducible refine Blk.alloc ?_ _ | with_reducible refine Blk.far ?_ (by first | (simp; done) | (simp; omega) | omega) _))) hb7
    have L1_7 : Blk w7 (w.heap.size + 1) [.int .i64 x', .int .i64 y', .int .i64 z'] 23 := Blk.kept (by ((try simp only [Blk.drew_iff]); (try simp only [Blk.drewN_iff]); (try simp only [Blk.drew_iff]); repeat (first | with_reducible assumption | with_reducible exact Blk.new _ _ _ (by first | rfl | (simp; done) | (simp; omega)) | with_reducible refine Blk.alloc ?_ _ | with_reducible refine Blk.far ?_ (by first | (simp; done) | (simp; omega) | omega) _))) hb7
    have L2_7 : Blk w7 (w3.heap.size) [.int .i64 c1, .int .i64 c2, .int .i64 c3] 36 := Blk.kept (by ((try simp only [Blk.drew_iff]); (try simp only [Blk.drewN_iff]); (try simp only [Blk.drew_iff]); repeat (first | with_reducible assumption | with_reducible exact Blk.new _ _ _ (by first | rfl | (simp; done) | (simp; omega)) | with_reducible refine Blk.alloc ?_ _ | with_reducible refine Blk.far ?_ (by first | (simp; done) | (simp; omega) | omega) _))) hb7
    clear hb7
    clear L0_6 l0_6 f0_6_0 f0_6_1 f0_6_2 f0_6_3 f0_6_4 f0_6_5 L1_6 l1_6 f1_6_0 f1_6_1 f1_6_2 f1_6_3 f1_6_4 f1_6_5 L2_6 l2_6 f2_6_0 f2_6_1 f2_6_2 f2_6_3 f2_6_4 f2_6_5
    have l0_7 := L0_7.lt
    obtain ⟨f0_7_0, f0_7_1, f0_7_2, f0_7_3, f0_7_4, f0_7_5⟩ := L0_7.three
    have l1_7 := L1_7.lt
    obtain ⟨f1_7_0, f1_7_1, f1_7_2, f1_7_3, f1_7_4, f1_7_5⟩ := L1_7.three
    have l2_7 := L2_7.lt
    obtain ⟨f2_7_0, f2_7_1, f2_7_2, f2_7_3, f2_7_4, f2_7_5⟩ := L2_7.three
    have zl := acc7.alloc zz7 (.cells #[.int .i64 s1, .int .i64 s2, .int .i64 s3] 23)
    go_wp2_with fail
    go_region_held3 (fun w' => w'.cell? ⟨w.heap.size, 0, none⟩ = some (.int .i64 x) ∧ w'.cell? ⟨w.heap.size, 1, none⟩ = some (.int .i64 y) ∧ w'.cell? ⟨w.heap.size, 2, none⟩ = some (.int .i64 z) ∧ w'.cell? ⟨w.heap.size + 1, 0, none⟩ = some (.int .i64 x') ∧ w'.cell? ⟨w.heap.size + 1, 1, none⟩ = some (.int .i64 y') ∧ w'.cell? ⟨w.heap.size + 1, 2, none⟩ = some (.int .i64 z') ∧ w'.cell? ⟨w3.heap.size, 0, none⟩ = some (.int .i64 c1) ∧ w'.cell? ⟨w3.heap.size, 1, none⟩ = some (.int .i64 c2) ∧ w'.cell? ⟨w3.heap.size, 2, none⟩ = some (.int .i64 c3) ∧ w'.cell? ⟨w7.heap.size, 0, none⟩ = some (.int .i64 s1) ∧ w'.cell? ⟨w7.heap.size, 1, none⟩ = some (.int .i64 s2) ∧ w'.cell? ⟨w7.heap.size, 2, none⟩ = some (.int .i64 s3))
      (first | (refine ⟨?_, ?_, ?_, ?_, ?_, ?_, ?_, ?_, ?_, ?_, ?_, ?_⟩ <;> with_reducible assumption) | (refine ⟨Blk.cell (cs := [.int .i64 x, .int .i64 y, .int .i64 z]) (t := 23) ?_ 0 rfl, Blk.cell (cs := [.int .i64 x, .int .i64 y, .int .i64 z]) (t := 23) ?_ 1 rfl, Blk.cell (cs := [.int .i64 x, .int .i64 y, .int .i64 z]) (t := 23) ?_ 2 rfl, Blk.cell (cs := [.int .i64 x', .int .i64 y', .int .i64 z']) (t := 23) ?_ 0 rfl, Blk.cell (cs := [.int .i64 x', .int .i64 y', .int .i64 z']) (t := 23) ?_ 1 rfl, Blk.cell (cs := [.int .i64 x', .int .i64 y', .int .i64 z']) (t := 23) ?_ 2 rfl, Blk.cell (cs := [.int .i64 c1, .int .i64 c2, .int .i64 c3]) (t := 36) ?_ 0 rfl, Blk.cell (cs := [.int .i64 c1, .int .i64 c2, .int .i64 c3]) (t := 36) ?_ 1 rfl, Blk.cell (cs := [.int .i64 c1, .int .i64 c2, .int .i64 c3]) (t := 36) ?_ 2 rfl, Blk.cell (cs := [.int .i64 s1, .int .i64 s2, .int .i64 s3]) (t := 23) ?_ 0 rfl, Blk.cell (cs := [.int .i64 s1, .int .i64 s2, .int .i64 s3]) (t := 23) ?_ 1 rfl, Blk.cell (cs := [.int .i64 s1, .int .i64 s2, .int .i64 s3]) (t := 23) ?_ 2 rfl⟩ <;> ((try simp only [Blk.drew_iff]); (try simp only [Blk.drewN_iff]); (try simp only [Blk.drew_iff]); repeat (first | with_reducible assumption | with_reducible exact Blk.new _ _ _ (by first | rfl | (simp; done) | (simp; omega)) | with_reducible refine Blk.alloc ?_ _ | with_reducible refine Blk.far ?_ (by first | (simp; done) | (simp; omega) | omega) _))) | go_keep | (refine ⟨?_, ?_, ?_, ?_, ?_, ?_, ?_, ?_, ?_, ?_, ?_, ?_⟩ <;> go_keep))
      (first
        | (go_at_call 25; (have tok := hbq2; clear tok); (fail_if_success (have tok := hbq3)); refine (H9.out _).mono ?_; rintro e wq3 ⟨rfl, hbq3⟩; have accq3 : Below w.heap.size w wq3 := below_step (by (repeat (first | with_reducible assumption | with_reducible exact Below.refl _ _ | simp only [Below.drew_iff] | simp only [Below.drewN_iff] | with_reducible refine Below.setCell ?_ (by first | omega | (simp; done) | (simp; omega)) _ | with_reducible refine Below.alloc ?_ (by first | omega | (simp; done) | (simp; omega)) _))) hbq3; have zzq3 := accq3.size; have Aq0_3 : Blk wq3 (w.heap.size) [.int .i64 x, .int .i64 y, .int .i64 z] 23 := Blk.kept (by ((try simp only [Blk.drew_iff]); (try simp only [Blk.drewN_iff]); (try simp only [Blk.drew_iff]); first | with_reducible assumption | with_reducible exact Blk.new _ _ _ (by first | rfl | (simp; done) | (simp; omega)) | (with_reducible refine Blk.alloc ?_ _; first | with_reducible assumption | with_reducible exact Blk.new _ _ _ (by first | rfl | (simp; done) | (simp; omega)) | (with_reducible refine Blk.alloc ?_ _; with_reducible assumption)))) hbq3; obtain ⟨aq0_3_0, aq0_3_1, aq0_3_2, aq0_3_3, aq0_3_4, aq0_3_5⟩ := Aq0_3.three; have lAq0_3 := Aq0_3.lt; have Aq1_3 : Blk wq3 (w.heap.size + 1) [.int .i64 x', .int .i64 y', .int .i64 z'] 23 := Blk.kept (by ((try simp only [Blk.drew_iff]); (try simp only [Blk.drewN_iff]); (try simp only [Blk.drew_iff]); first | with_reducible assumption | with_reducible exact Blk.new _ _ _ (by first | rfl | (simp; done) | (simp; omega)) | (with_reducible refine Blk.alloc ?_ _; first | with_reducible assumption | with_reducible exact Blk.new _ _ _ (by first | rfl | (simp; done) | (simp; omega)) | (with_reducible refine Blk.alloc ?_ _; with_reducible assumption)))) hbq3; obtain ⟨aq1_3_0, aq1_3_1, aq1_3_2, aq1_3_3, aq1_3_4, aq1_3_5⟩ := Aq1_3.three; have lAq1_3 := Aq1_3.lt; have Aq2_3 : Blk wq3 (w3.heap.size) [.int .i64 c1, .int .i64 c2, .int .i64 c3] 36 := Blk.kept (by ((try simp only [Blk.drew_iff]); (try simp only [Blk.drewN_iff]); (try simp only [Blk.drew_iff]); first | with_reducible assumption | with_reducible exact Blk.new _ _ _ (by first | rfl | (simp; done) | (simp; omega)) | (with_reducible refine Blk.alloc ?_ _; first | with_reducible assumption | with_reducible exact Blk.new _ _ _ (by first | rfl | (simp; done) | (simp; omega)) | (with_reducible refine Blk.alloc ?_ _; with_reducible assumption)))) hbq3; obtain ⟨aq2_3_0, aq2_3_1, aq2_3_2, aq2_3_3, aq2_3_4, aq2_3_5⟩ := Aq2_3.three; have lAq2_3 := Aq2_3.lt; have Aq3_3 : Blk wq3 (w7.heap.size) [.int .i64 s1, .int .i64 s2, .int .i64 s3] 23 := Blk.kept (by ((try simp only [Blk.drew_iff]); (try simp only [Blk.drewN_iff]); (try simp only [Blk.drew_iff]); first | with_reducible assumption | with_reducible exact Blk.new _ _ _ (by first | rfl | (simp; done) | (simp; omega)) | (with_reducible refine Blk.alloc ?_ _; first | with_reducible assumption | with_reducible exact Blk.new _ _ _ (by first | rfl | (simp; done) | (simp; omega)) | (with_reducible refine Blk.alloc ?_ _; with_reducible assumption)))) hbq3; obtain ⟨aq3_3_0, aq3_3_1, aq3_3_2, aq3_3_3, aq3_3_4, aq3_3_5⟩ := Aq3_3.three; have lAq3_3 := Aq3_3.lt)
        | (go_at_call 26; (have tok := hbq1; clear tok); (fail_if_success (have tok := hbq2)); refine (H8.out _).mono ?_; rintro e wq2 ⟨rfl, hbq2⟩; have accq2 : Below w.heap.size w wq2 := below_step (by (repeat (first | with_reducible assumption | with_reducible exact Below.refl _ _ | simp only [Below.drew_iff] | simp only [Below.drewN_iff] | with_reducible refine Below.setCell ?_ (by first | omega | (simp; done) | (simp; omega)) _ | with_reducible refine Below.alloc ?_ (by first | omega | (simp; done) | (simp; omega)) _))) hbq2; have zzq2 := accq2.size; have Aq0_2 : Blk wq2 (w.heap.size) [.int .i64 x, .int .i64 y, .int .i64 z] 23 := Blk.kept (by ((try simp only [Blk.drew_iff]); (try simp only [Blk.drewN_iff]); (try simp only [Blk.drew_iff]); first | with_reducible assumption | with_reducible exact Blk.new _ _ _ (by first | rfl | (simp; done) | (simp; omega)) | (with_reducible refine Blk.alloc ?_ _; first | with_reducible assumption | with_reducible exact Blk.new _ _ _ (by first | rfl | (simp; done) | (simp; omega)) | (with_reducible refine Blk.alloc ?_ _; with_reducible assumption)))) hbq2; obtain ⟨aq0_2_0, aq0_2_1, aq0_2_2, aq0_2_3, aq0_2_4, aq0_2_5⟩ := Aq0_2.three; have lAq0_2 := Aq0_2.lt; have Aq1_2 : Blk wq2 (w.heap.size + 1) [.int .i64 x', .int .i64 y', .int .i64 z'] 23 := Blk.kept (by ((try simp only [Blk.drew_iff]); (try simp only [Blk.drewN_iff]); (try simp only [Blk.drew_iff]); first | with_reducible assumption | with_reducible exact Blk.new _ _ _ (by first | rfl | (simp; done) | (simp; omega)) | (with_reducible refine Blk.alloc ?_ _; first | with_reducible assumption | with_reducible exact Blk.new _ _ _ (by first | rfl | (simp; done) | (simp; omega)) | (with_reducible refine Blk.alloc ?_ _; with_reducible assumption)))) hbq2; obtain ⟨aq1_2_0, aq1_2_1, aq1_2_2, aq1_2_3, aq1_2_4, aq1_2_5⟩ := Aq1_2.three; have lAq1_2 := Aq1_2.lt; have Aq2_2 : Blk wq2 (w3.heap.size) [.int .i64 c1, .int .i64 c2, .int .i64 c3] 36 := Blk.kept (by ((try simp only [Blk.drew_iff]); (try simp only [Blk.drewN_iff]); (try simp only [Blk.drew_iff]); first | with_reducible assumption | with_reducible exact Blk.new _ _ _ (by first | rfl | (simp; done) | (simp; omega)) | (with_reducible refine Blk.alloc ?_ _; first | with_reducible assumption | with_reducible exact Blk.new _ _ _ (by first | rfl | (simp; done) | (simp; omega)) | (with_reducible refine Blk.alloc ?_ _; with_reducible assumption)))) hbq2; obtain ⟨aq2_2_0, aq2_2_1, aq2_2_2, aq2_2_3, aq2_2_4, aq2_2_5⟩ := Aq2_2.three; have lAq2_2 := Aq2_2.lt; have Aq3_2 : Blk wq2 (w7.heap.size) [.int .i64 s1, .int .i64 s2, .int .i64 s3] 23 := Blk.kept (by ((try simp only [Blk.drew_iff]); (try simp only [Blk.drewN_iff]); (try simp only [Blk.drew_iff]); first | with_reducible assumption | with_reducible exact Blk.new _ _ _ (by first | rfl | (simp; done) | (simp; omega)) | (with_reducible refine Blk.alloc ?_ _; first | with_reducible assumption | with_reducible exact Blk.new _ _ _ (by first | rfl | (simp; done) | (simp; omega)) | (with_reducible refine Blk.alloc ?_ _; with_reducible assumption)))) hbq2; obtain ⟨aq3_2_0, aq3_2_1, aq3_2_2, aq3_2_3, aq3_2_4, aq3_2_5⟩ := Aq3_2.three; have lAq3_2 := Aq3_2.lt)
        | (go_at_call 25; (fail_if_success (have tok := hbq1)); refine (H7.out _).mono ?_; rintro e wq1 ⟨rfl, hbq1⟩; have accq1 : Below w.heap.size w wq1 := below_step (by (repeat (first | with_reducible assumption | with_reducible exact Below.refl _ _ | simp only [Below.drew_iff] | simp only [Below.drewN_iff] | with_reducible refine Below.setCell ?_ (by first | omega | (simp; done) | (simp; omega)) _ | with_reducible refine Below.alloc ?_ (by first | omega | (simp; done) | (simp; omega)) _))) hbq1; have zzq1 := accq1.size; have Aq0_1 : Blk wq1 (w.heap.size) [.int .i64 x, .int .i64 y, .int .i64 z] 23 := Blk.kept (by ((try simp only [Blk.drew_iff]); (try simp only [Blk.drewN_iff]); (try simp only [Blk.drew_iff]); first | with_reducible assumption | with_reducible exact Blk.new _ _ _ (by first | rfl | (simp; done) | (simp; omega)) | (with_reducible refine Blk.alloc ?_ _; first | with_reducible assumption | with_reducible exact Blk.new _ _ _ (by first | rfl | (simp; done) | (simp; omega)) | (with_reducible refine Blk.alloc ?_ _; with_reducible assumption)))) hbq1; obtain ⟨aq0_1_0, aq0_1_1, aq0_1_2, aq0_1_3, aq0_1_4, aq0_1_5⟩ := Aq0_1.three; have lAq0_1 := Aq0_1.lt; have Aq1_1 : Blk wq1 (w.heap.size + 1) [.int .i64 x', .int .i64 y', .int .i64 z'] 23 := Blk.kept (by ((try simp only [Blk.drew_iff]); (try simp only [Blk.drewN_iff]); (try simp only [Blk.drew_iff]); first | with_reducible assumption | with_reducible exact Blk.new _ _ _ (by first | rfl | (simp; done) | (simp; omega)) | (with_reducible refine Blk.alloc ?_ _; first | with_reducible assumption | with_reducible exact Blk.new _ _ _ (by first | rfl | (simp; done) | (simp; omega)) | (with_reducible refine Blk.alloc ?_ _; with_reducible assumption)))) hbq1; obtain ⟨aq1_1_0, aq1_1_1, aq1_1_2, aq1_1_3, aq1_1_4, aq1_1_5⟩ := Aq1_1.three; have lAq1_1 := Aq1_1.lt; have Aq2_1 : Blk wq1 (w3.heap.size) [.int .i64 c1, .int .i64 c2, .int .i64 c3] 36 := Blk.kept (by ((try simp only [Blk.drew_iff]); (try simp only [Blk.drewN_iff]); (try simp only [Blk.drew_iff]); first | with_reducible assumption | with_reducible exact Blk.new _ _ _ (by first | rfl | (simp; done) | (simp; omega)) | (with_reducible refine Blk.alloc ?_ _; first | with_reducible assumption | with_reducible exact Blk.new _ _ _ (by first | rfl | (simp; done) | (simp; omega)) | (with_reducible refine Blk.alloc ?_ _; with_reducible assumption)))) hbq1; obtain ⟨aq2_1_0, aq2_1_1, aq2_1_2, aq2_1_3, aq2_1_4, aq2_1_5⟩ := Aq2_1.three; have lAq2_1 := Aq2_1.lt; have Aq3_1 : Blk wq1 (w7.heap.size) [.int .i64 s1, .int .i64 s2, .int .i64 s3] 23 := Blk.kept (by ((try simp only [Blk.drew_iff]); (try simp only [Blk.drewN_iff]); (try simp only [Blk.drew_iff]); first | with_reducible assumption | with_reducible exact Blk.new _ _ _ (by first | rfl | (simp; done) | (simp; omega)) | (with_reducible refine Blk.alloc ?_ _; first | with_reducible assumption | with_reducible exact Blk.new _ _ _ (by first | rfl | (simp; done) | (simp; omega)) | (with_reducible refine Blk.alloc ?_ _; with_reducible assumption)))) hbq1; obtain ⟨aq3_1_0, aq3_1_1, aq3_1_2, aq3_1_3, aq3_1_4, aq3_1_5⟩ := Aq3_1.three; have lAq3_1 := Aq3_1.lt))
    go_wp2_with fail
    go_ret
    exact ⟨ret_bool (by simp), accq3⟩
  · have ho : (inV x y z && inV x' y' z') = false := by simp [h1]
    obtain ⟨t1, _, t2, _, _⟩ := laws_out ho
    have H1 := Lib.hid t1
    have H2 := Lib.hid t2
    have H3 := Lib.hid (dist_out ho)
    have H4 := Lib.hid h1
    clear ho t1 t2 h1
    have hq := arr_eq 0 0 0 0 0 0
    simp only [beq_self_eq_true, Bool.and_self] at hq
    go_enter Try.func4, Try.ntmps4
    go_wp2_with fail
    refine (awake_any _).mono ?_
    rintro e w1 ⟨rfl, hb1⟩
    have acc1 : Below w.heap.size w w1 := below_step (by (repeat (first | with_reducible assumption | with_reducible exact Below.refl _ _ | simp only [Below.drew_iff] | simp only [Below.drewN_iff] | with_reducible refine Below.setCell ?_ (by first | omega | (simp; done) | (simp; omega)) _ | with_reducible refine Below.alloc ?_ (by first | omega | (simp; done) | (simp; omega)) _))) hb1
    have zz1 := acc1.size
    have L0_1 : Blk w1 (w.heap.size) [.int .i64 x, .int .i64 y, .int .i64 z] 23 := Blk.kept (by ((try simp only [Blk.drew_iff]); (try simp only [Blk.drewN_iff]); (try simp only [Blk.drew_iff]); repeat (first | with_reducible assumption | with_reducible exact Blk.new _ _ _ (by first | rfl | (simp; done) | (simp; omega)) | with_reducible refine Blk.alloc ?_ _ | with_reducible refine Blk.far ?_ (by first | (simp; done) | (simp; omega) | omega) _))) hb1
    have L1_1 : Blk w1 (w.heap.size + 1) [.int .i64 x', .int .i64 y', .int .i64 z'] 23 := Blk.kept (by ((try simp only [Blk.drew_iff]); (try simp only [Blk.drewN_iff]); (try simp only [Blk.drew_iff]); repeat (first | with_reducible assumption | with_reducible exact Blk.new _ _ _ (by first | rfl | (simp; done) | (simp; omega)) | with_reducible refine Blk.alloc ?_ _ | with_reducible refine Blk.far ?_ (by first | (simp; done) | (simp; omega) | omega) _))) hb1
    clear hb1
    have l0_1 := L0_1.lt
    obtain ⟨f0_1_0, f0_1_1, f0_1_2, f0_1_3, f0_1_4, f0_1_5⟩ := L0_1.three
    have l1_1 := L1_1.lt
    obtain ⟨f1_1_0, f1_1_1, f1_1_2, f1_1_3, f1_1_4, f1_1_5⟩ := L1_1.three
    go_wp2_with fail
    refine (dot_e x y z x' y' z' 0 6 _ H1.out).mono ?_
    rintro e w2 ⟨rfl, hb2⟩
    have acc2 : Below w.heap.size w w2 := below_step (by (repeat (first | with_reducible assumption | with_reducible exact Below.refl _ _ | simp only [Below.drew_iff] | simp only [Below.drewN_iff] | with_reducible refine Below.setCell ?_ (by first | omega | (simp; done) | (simp; omega)) _ | with_reducible refine Below.alloc ?_ (by first | omega | (simp; done) | (simp; omega)) _))) hb2
    have zz2 := acc2.size
    have L0_2 : Blk w2 (w.heap.size) [.int .i64 x, .int .i64 y, .int .i64 z] 23 := Blk.kept (by ((try simp only [Blk.drew_iff]); (try simp only [Blk.drewN_iff]); (try simp only [Blk.drew_iff]); repeat (first | with_reducible assumption | with_reducible exact Blk.new _ _ _ (by first | rfl | (simp; done) | (simp; omega)) | with_reducible refine Blk.alloc ?_ _ | with_reducible refine Blk.far ?_ (by first | (simp; done) | (simp; omega) | omega) _))) hb2
    have L1_2 : Blk w2 (w.heap.size + 1) [.int .i64 x', .int .i64 y', .int .i64 z'] 23 := Blk.kept (by ((try simp only [Blk.drew_iff]); (try simp only [Blk.drewN_iff]); (try simp only [Blk.drew_iff]); repeat (first | with_reducible assumption | with_reducible exact Blk.new _ _ _ (by first | rfl | (simp; done) | (simp; omega)) | with_reducible refine Blk.alloc ?_ _ | with_reducible refine Blk.far ?_ (by first | (simp; done) | (simp; omega) | omega) _))) hb2
    clear hb2
    clear L0_1 l0_1 f0_1_0 f0_1_1 f0_1_2 f0_1_3 f0_1_4 f0_1_5 L1_1 l1_1 f1_1_0 f1_1_1 f1_1_2 f1_1_3 f1_1_4 f1_1_5
    have l0_2 := L0_2.lt
    obtain ⟨f0_2_0, f0_2_1, f0_2_2, f0_2_3, f0_2_4, f0_2_5⟩ := L0_2.three
    have l1_2 := L1_2.lt
    obtain ⟨f1_2_0, f1_2_1, f1_2_2, f1_2_3, f1_2_4, f1_2_5⟩ := L1_2.three
    go_wp2_with fail
    refine (cross_e x y z x' y' z' 0 0 0 6 _ H2.out).mono ?_
    rintro e w3 ⟨rfl, hb3⟩
    have acc3 : Below w.heap.size w w3 := below_step (by (repeat (first | with_reducible assumption | with_reducible exact Below.refl _ _ | simp only [Below.drew_iff] | simp only [Below.drewN_iff] | with_reducible refine Below.setCell ?_ (by first | omega | (simp; done) | (simp; omega)) _ | with_reducible refine Below.alloc ?_ (by first | omega | (simp; done) | (simp; omega)) _))) hb3
    have zz3 := acc3.size
    have L0_3 : Blk w3 (w.heap.size) [.int .i64 x, .int .i64 y, .int .i64 z] 23 := Blk.kept (by ((try simp only [Blk.drew_iff]); (try simp only [Blk.drewN_iff]); (try simp only [Blk.drew_iff]); repeat (first | with_reducible assumption | with_reducible exact Blk.new _ _ _ (by first | rfl | (simp; done) | (simp; omega)) | with_reducible refine Blk.alloc ?_ _ | with_reducible refine Blk.far ?_ (by first | (simp; done) | (simp; omega) | omega) _))) hb3
    have L1_3 : Blk w3 (w.heap.size + 1) [.int .i64 x', .int .i64 y', .int .i64 z'] 23 := Blk.kept (by ((try simp only [Blk.drew_iff]); (try simp only [Blk.drewN_iff]); (try simp only [Blk.drew_iff]); repeat (first | with_reducible assumption | with_reducible exact Blk.new _ _ _ (by first | rfl | (simp; done) | (simp; omega)) | with_reducible refine Blk.alloc ?_ _ | with_reducible refine Blk.far ?_ (by first | (simp; done) | (simp; omega) | omega) _))) hb3
    clear hb3
    clear L0_2 l0_2 f0_2_0 f0_2_1 f0_2_2 f0_2_3 f0_2_4 f0_2_5 L1_2 l1_2 f1_2_0 f1_2_1 f1_2_2 f1_2_3 f1_2_4 f1_2_5
    have l0_3 := L0_3.lt
    obtain ⟨f0_3_0, f0_3_1, f0_3_2, f0_3_3, f0_3_4, f0_3_5⟩ := L0_3.three
    have l1_3 := L1_3.lt
    obtain ⟨f1_3_0, f1_3_1, f1_3_2, f1_3_3, f1_3_4, f1_3_5⟩ := L1_3.three
    go_wp2_with fail
    refine (dist_e x y z x' y' z' 0 6 _ H3.out).mono ?_
    rintro e w4 ⟨rfl, hb4⟩
    have acc4 : Below w.heap.size w w4 := below_step (by (repeat (first | with_reducible assumption | with_reducible exact Below.refl _ _ | simp only [Below.drew_iff] | simp only [Below.drewN_iff] | with_reducible refine Below.setCell ?_ (by first | omega | (simp; done) | (simp; omega)) _ | with_reducible refine Below.alloc ?_ (by first | omega | (simp; done) | (simp; omega)) _))) hb4
    have zz4 := acc4.size
    have L0_4 : Blk w4 (w.heap.size) [.int .i64 x, .int .i64 y, .int .i64 z] 23 := Blk.kept (by ((try simp only [Blk.drew_iff]); (try simp only [Blk.drewN_iff]); (try simp only [Blk.drew_iff]); repeat (first | with_reducible assumption | with_reducible exact Blk.new _ _ _ (by first | rfl | (simp; done) | (simp; omega)) | with_reducible refine Blk.alloc ?_ _ | with_reducible refine Blk.far ?_ (by first | (simp; done) | (simp; omega) | omega) _))) hb4
    have L1_4 : Blk w4 (w.heap.size + 1) [.int .i64 x', .int .i64 y', .int .i64 z'] 23 := Blk.kept (by ((try simp only [Blk.drew_iff]); (try simp only [Blk.drewN_iff]); (try simp only [Blk.drew_iff]); repeat (first | with_reducible assumption | with_reducible exact Blk.new _ _ _ (by first | rfl | (simp; done) | (simp; omega)) | with_reducible refine Blk.alloc ?_ _ | with_reducible refine Blk.far ?_ (by first | (simp; done) | (simp; omega) | omega) _))) hb4
    have L2_4 : Blk w4 (w3.heap.size) [.int .i64 0, .int .i64 0, .int .i64 0] 36 := Blk.kept (by ((try simp only [Blk.drew_iff]); (try simp only [Blk.drewN_iff]); (try simp only [Blk.drew_iff]); repeat (first | with_reducible assumption | with_reducible exact Blk.new _ _ _ (by first | rfl | (simp; done) | (simp; omega)) | with_reducible refine Blk.alloc ?_ _ | with_reducible refine Blk.far ?_ (by first | (simp; done) | (simp; omega) | omega) _))) hb4
    clear hb4
    clear L0_3 l0_3 f0_3_0 f0_3_1 f0_3_2 f0_3_3 f0_3_4 f0_3_5 L1_3 l1_3 f1_3_0 f1_3_1 f1_3_2 f1_3_3 f1_3_4 f1_3_5
    have l0_4 := L0_4.lt
    obtain ⟨f0_4_0, f0_4_1, f0_4_2, f0_4_3, f0_4_4, f0_4_5⟩ := L0_4.three
    have l1_4 := L1_4.lt
    obtain ⟨f1_4_0, f1_4_1, f1_4_2, f1_4_3, f1_4_4, f1_4_5⟩ := L1_4.three
    have l2_4 := L2_4.lt
    obtain ⟨f2_4_0, f2_4_1, f2_4_2, f2_4_3, f2_4_4, f2_4_5⟩ := L2_4.three
    go_wp2_with fail
    refine (in_e x y z false _ H4.out).mono ?_
    rintro e w5 ⟨rfl, hb5⟩
    have acc5 : Below w.heap.size w w5 := below_step (by (repeat (first | with_reducible assumption | with_reducible exact Below.refl _ _ | simp only [Below.drew_iff] | simp only [Below.drewN_iff] | with_reducible refine Below.setCell ?_ (by first | omega | (simp; done) | (simp; omega)) _ | with_reducible refine Below.alloc ?_ (by first | omega | (simp; done) | (simp; omega)) _))) hb5
    have zz5 := acc5.size
    have L0_5 : Blk w5 (w.heap.size) [.int .i64 x, .int .i64 y, .int .i64 z] 23 := Blk.kept (by ((try simp only [Blk.drew_iff]); (try simp only [Blk.drewN_iff]); (try simp only [Blk.drew_iff]); repeat (first | with_reducible assumption | with_reducible exact Blk.new _ _ _ (by first | rfl | (simp; done) | (simp; omega)) | with_reducible refine Blk.alloc ?_ _ | with_reducible refine Blk.far ?_ (by first | (simp; done) | (simp; omega) | omega) _))) hb5
    have L1_5 : Blk w5 (w.heap.size + 1) [.int .i64 x', .int .i64 y', .int .i64 z'] 23 := Blk.kept (by ((try simp only [Blk.drew_iff]); (try simp only [Blk.drewN_iff]); (try simp only [Blk.drew_iff]); repeat (first | with_reducible assumption | with_reducible exact Blk.new _ _ _ (by first | rfl | (simp; done) | (simp; omega)) | with_reducible refine Blk.alloc ?_ _ | with_reducible refine Blk.far ?_ (by first | (simp; done) | (simp; omega) | omega) _))) hb5
    have L2_5 : Blk w5 (w3.heap.size) [.int .i64 0, .int .i64 0, .int .i64 0] 36 := Blk.kept (by ((try simp only [Blk.drew_iff]); (try simp only [Blk.drewN_iff]); (try simp only [Blk.drew_iff]); repeat (first | with_reducible assumption | with_reducible exact Blk.new _ _ _ (by first | rfl | (simp; done) | (simp; omega)) | with_reducible refine Blk.alloc ?_ _ | with_reducible refine Blk.far ?_ (by first | (simp; done) | (simp; omega) | omega) _))) hb5
    clear hb5
    clear L0_4 l0_4 f0_4_0 f0_4_1 f0_4_2 f0_4_3 f0_4_4 f0_4_5 L1_4 l1_4 f1_4_0 f1_4_1 f1_4_2 f1_4_3 f1_4_4 f1_4_5 L2_4 l2_4 f2_4_0 f2_4_1 f2_4_2 f2_4_3 f2_4_4 f2_4_5
    have l0_5 := L0_5.lt
    obtain ⟨f0_5_0, f0_5_1, f0_5_2, f0_5_3, f0_5_4, f0_5_5⟩ := L0_5.three
    have l1_5 := L1_5.lt
    obtain ⟨f1_5_0, f1_5_1, f1_5_2, f1_5_3, f1_5_4, f1_5_5⟩ := L1_5.three
    have l2_5 := L2_5.lt
    obtain ⟨f2_5_0, f2_5_1, f2_5_2, f2_5_3, f2_5_4, f2_5_5⟩ := L2_5.three
    go_wp2
    go_ret
    exact ⟨rfl, acc5⟩
  · have ho : (inV x y z && inV x' y' z') = false := by simp [h1, h2]
    obtain ⟨t1, _, t2, _, _⟩ := laws_out ho
    have H1 := Lib.hid t1
    have H2 := Lib.hid t2
    have H3 := Lib.hid (dist_out ho)
    have H4 := Lib.hid h1
    have H5 := Lib.hid h2
    clear ho t1 t2 h1 h2
    have hq := arr_eq 0 0 0 0 0 0
    simp only [beq_self_eq_true, Bool.and_self] at hq
    go_enter Try.func4, Try.ntmps4
    go_wp2_with fail
    refine (awake_any _).mono ?_
    rintro e w1 ⟨rfl, hb1⟩
    have acc1 : Below w.heap.size w w1 := below_step (by (repeat (first | with_reducible assumption | with_reducible exact Below.refl _ _ | simp only [Below.drew_iff] | simp only [Below.drewN_iff] | with_reducible refine Below.setCell ?_ (by first | omega | (simp; done) | (simp; omega)) _ | with_reducible refine Below.alloc ?_ (by first | omega | (simp; done) | (simp; omega)) _))) hb1
    have zz1 := acc1.size
    have L0_1 : Blk w1 (w.heap.size) [.int .i64 x, .int .i64 y, .int .i64 z] 23 := Blk.kept (by ((try simp only [Blk.drew_iff]); (try simp only [Blk.drewN_iff]); (try simp only [Blk.drew_iff]); repeat (first | with_reducible assumption | with_reducible exact Blk.new _ _ _ (by first | rfl | (simp; done) | (simp; omega)) | with_reducible refine Blk.alloc ?_ _ | with_reducible refine Blk.far ?_ (by first | (simp; done) | (simp; omega) | omega) _))) hb1
    have L1_1 : Blk w1 (w.heap.size + 1) [.int .i64 x', .int .i64 y', .int .i64 z'] 23 := Blk.kept (by ((try simp only [Blk.drew_iff]); (try simp only [Blk.drewN_iff]); (try simp only [Blk.drew_iff]); repeat (first | with_reducible assumption | with_reducible exact Blk.new _ _ _ (by first | rfl | (simp; done) | (simp; omega)) | with_reducible refine Blk.alloc ?_ _ | with_reducible refine Blk.far ?_ (by first | (simp; done) | (simp; omega) | omega) _))) hb1
    clear hb1
    have l0_1 := L0_1.lt
    obtain ⟨f0_1_0, f0_1_1, f0_1_2, f0_1_3, f0_1_4, f0_1_5⟩ := L0_1.three
    have l1_1 := L1_1.lt
    obtain ⟨f1_1_0, f1_1_1, f1_1_2, f1_1_3, f1_1_4, f1_1_5⟩ := L1_1.three
    go_wp2_with fail
    refine (dot_e x y z x' y' z' 0 6 _ H1.out).mono ?_
    rintro e w2 ⟨rfl, hb2⟩
    have acc2 : Below w.heap.size w w2 := below_step (by (repeat (first | with_reducible assumption | with_reducible exact Below.refl _ _ | simp only [Below.drew_iff] | simp only [Below.drewN_iff] | with_reducible refine Below.setCell ?_ (by first | omega | (simp; done) | (simp; omega)) _ | with_reducible refine Below.alloc ?_ (by first | omega | (simp; done) | (simp; omega)) _))) hb2
    have zz2 := acc2.size
    have L0_2 : Blk w2 (w.heap.size) [.int .i64 x, .int .i64 y, .int .i64 z] 23 := Blk.kept (by ((try simp only [Blk.drew_iff]); (try simp only [Blk.drewN_iff]); (try simp only [Blk.drew_iff]); repeat (first | with_reducible assumption | with_reducible exact Blk.new _ _ _ (by first | rfl | (simp; done) | (simp; omega)) | with_reducible refine Blk.alloc ?_ _ | with_reducible refine Blk.far ?_ (by first | (simp; done) | (simp; omega) | omega) _))) hb2
    have L1_2 : Blk w2 (w.heap.size + 1) [.int .i64 x', .int .i64 y', .int .i64 z'] 23 := Blk.kept (by ((try simp only [Blk.drew_iff]); (try simp only [Blk.drewN_iff]); (try simp only [Blk.drew_iff]); repeat (first | with_reducible assumption | with_reducible exact Blk.new _ _ _ (by first | rfl | (simp; done) | (simp; omega)) | with_reducible refine Blk.alloc ?_ _ | with_reducible refine Blk.far ?_ (by first | (simp; done) | (simp; omega) | omega) _))) hb2
    clear hb2
    clear L0_1 l0_1 f0_1_0 f0_1_1 f0_1_2 f0_1_3 f0_1_4 f0_1_5 L1_1 l1_1 f1_1_0 f1_1_1 f1_1_2 f1_1_3 f1_1_4 f1_1_5
    have l0_2 := L0_2.lt
    obtain ⟨f0_2_0, f0_2_1, f0_2_2, f0_2_3, f0_2_4, f0_2_5⟩ := L0_2.three
    have l1_2 := L1_2.lt
    obtain ⟨f1_2_0, f1_2_1, f1_2_2, f1_2_3, f1_2_4, f1_2_5⟩ := L1_2.three
    go_wp2_with fail
    refine (cross_e x y z x' y' z' 0 0 0 6 _ H2.out).mono ?_
    rintro e w3 ⟨rfl, hb3⟩
    have acc3 : Below w.heap.size w w3 := below_step (by (repeat (first | with_reducible assumption | with_reducible exact Below.refl _ _ | simp only [Below.drew_iff] | simp only [Below.drewN_iff] | with_reducible refine Below.setCell ?_ (by first | omega | (simp; done) | (simp; omega)) _ | with_reducible refine Below.alloc ?_ (by first | omega | (simp; done) | (simp; omega)) _))) hb3
    have zz3 := acc3.size
    have L0_3 : Blk w3 (w.heap.size) [.int .i64 x, .int .i64 y, .int .i64 z] 23 := Blk.kept (by ((try simp only [Blk.drew_iff]); (try simp only [Blk.drewN_iff]); (try simp only [Blk.drew_iff]); repeat (first | with_reducible assumption | with_reducible exact Blk.new _ _ _ (by first | rfl | (simp; done) | (simp; omega)) | with_reducible refine Blk.alloc ?_ _ | with_reducible refine Blk.far ?_ (by first | (simp; done) | (simp; omega) | omega) _))) hb3
    have L1_3 : Blk w3 (w.heap.size + 1) [.int .i64 x', .int .i64 y', .int .i64 z'] 23 := Blk.kept (by ((try simp only [Blk.drew_iff]); (try simp only [Blk.drewN_iff]); (try simp only [Blk.drew_iff]); repeat (first | with_reducible assumption | with_reducible exact Blk.new _ _ _ (by first | rfl | (simp; done) | (simp; omega)) | with_reducible refine Blk.alloc ?_ _ | with_reducible refine Blk.far ?_ (by first | (simp; done) | (simp; omega) | omega) _))) hb3
    clear hb3
    clear L0_2 l0_2 f0_2_0 f0_2_1 f0_2_2 f0_2_3 f0_2_4 f0_2_5 L1_2 l1_2 f1_2_0 f1_2_1 f1_2_2 f1_2_3 f1_2_4 f1_2_5
    have l0_3 := L0_3.lt
    obtain ⟨f0_3_0, f0_3_1, f0_3_2, f0_3_3, f0_3_4, f0_3_5⟩ := L0_3.three
    have l1_3 := L1_3.lt
    obtain ⟨f1_3_0, f1_3_1, f1_3_2, f1_3_3, f1_3_4, f1_3_5⟩ := L1_3.three
    go_wp2_with fail
    refine (dist_e x y z x' y' z' 0 6 _ H3.out).mono ?_
    rintro e w4 ⟨rfl, hb4⟩
    have acc4 : Below w.heap.size w w4 := below_step (by (repeat (first | with_reducible assumption | with_reducible exact Below.refl _ _ | simp only [Below.drew_iff] | simp only [Below.drewN_iff] | with_reducible refine Below.setCell ?_ (by first | omega | (simp; done) | (simp; omega)) _ | with_reducible refine Below.alloc ?_ (by first | omega | (simp; done) | (simp; omega)) _))) hb4
    have zz4 := acc4.size
    have L0_4 : Blk w4 (w.heap.size) [.int .i64 x, .int .i64 y, .int .i64 z] 23 := Blk.kept (by ((try simp only [Blk.drew_iff]); (try simp only [Blk.drewN_iff]); (try simp only [Blk.drew_iff]); repeat (first | with_reducible assumption | with_reducible exact Blk.new _ _ _ (by first | rfl | (simp; done) | (simp; omega)) | with_reducible refine Blk.alloc ?_ _ | with_reducible refine Blk.far ?_ (by first | (simp; done) | (simp; omega) | omega) _))) hb4
    have L1_4 : Blk w4 (w.heap.size + 1) [.int .i64 x', .int .i64 y', .int .i64 z'] 23 := Blk.kept (by ((try simp only [Blk.drew_iff]); (try simp only [Blk.drewN_iff]); (try simp only [Blk.drew_iff]); repeat (first | with_reducible assumption | with_reducible exact Blk.new _ _ _ (by first | rfl | (simp; done) | (simp; omega)) | with_reducible refine Blk.alloc ?_ _ | with_reducible refine Blk.far ?_ (by first | (simp; done) | (simp; omega) | omega) _))) hb4
    have L2_4 : Blk w4 (w3.heap.size) [.int .i64 0, .int .i64 0, .int .i64 0] 36 := Blk.kept (by ((try simp only [Blk.drew_iff]); (try simp only [Blk.drewN_iff]); (try simp only [Blk.drew_iff]); repeat (first | with_reducible assumption | with_reducible exact Blk.new _ _ _ (by first | rfl | (simp; done) | (simp; omega)) | with_reducible refine Blk.alloc ?_ _ | with_reducible refine Blk.far ?_ (by first | (simp; done) | (simp; omega) | omega) _))) hb4
    clear hb4
    clear L0_3 l0_3 f0_3_0 f0_3_1 f0_3_2 f0_3_3 f0_3_4 f0_3_5 L1_3 l1_3 f1_3_0 f1_3_1 f1_3_2 f1_3_3 f1_3_4 f1_3_5
    have l0_4 := L0_4.lt
    obtain ⟨f0_4_0, f0_4_1, f0_4_2, f0_4_3, f0_4_4, f0_4_5⟩ := L0_4.three
    have l1_4 := L1_4.lt
    obtain ⟨f1_4_0, f1_4_1, f1_4_2, f1_4_3, f1_4_4, f1_4_5⟩ := L1_4.three
    have l2_4 := L2_4.lt
    obtain ⟨f2_4_0, f2_4_1, f2_4_2, f2_4_3, f2_4_4, f2_4_5⟩ := L2_4.three
    go_wp2_with fail
    refine (in_e x y z true _ H4.out).mono ?_
    rintro e w5 ⟨rfl, hb5⟩
    have acc5 : Below w.heap.size w w5 := below_step (by (repeat (first | with_reducible assumption | with_reducible exact Below.refl _ _ | simp only [Below.drew_iff] | simp only [Below.drewN_iff] | with_reducible refine Below.setCell ?_ (by first | omega | (simp; done) | (simp; omega)) _ | with_reducible refine Below.alloc ?_ (by first | omega | (simp; done) | (simp; omega)) _))) hb5
    have zz5 := acc5.size
    have L0_5 : Blk w5 (w.heap.size) [.int .i64 x, .int .i64 y, .int .i64 z] 23 := Blk.kept (by ((try simp only [Blk.drew_iff]); (try simp only [Blk.drewN_iff]); (try simp only [Blk.drew_iff]); repeat (first | with_reducible assumption | with_reducible exact Blk.new _ _ _ (by first | rfl | (simp; done) | (simp; omega)) | with_reducible refine Blk.alloc ?_ _ | with_reducible refine Blk.far ?_ (by first | (simp; done) | (simp; omega) | omega) _))) hb5
    have L1_5 : Blk w5 (w.heap.size + 1) [.int .i64 x', .int .i64 y', .int .i64 z'] 23 := Blk.kept (by ((try simp only [Blk.drew_iff]); (try simp only [Blk.drewN_iff]); (try simp only [Blk.drew_iff]); repeat (first | with_reducible assumption | with_reducible exact Blk.new _ _ _ (by first | rfl | (simp; done) | (simp; omega)) | with_reducible refine Blk.alloc ?_ _ | with_reducible refine Blk.far ?_ (by first | (simp; done) | (simp; omega) | omega) _))) hb5
    have L2_5 : Blk w5 (w3.heap.size) [.int .i64 0, .int .i64 0, .int .i64 0] 36 := Blk.kept (by ((try simp only [Blk.drew_iff]); (try simp only [Blk.drewN_iff]); (try simp only [Blk.drew_iff]); repeat (first | with_reducible assumption | with_reducible exact Blk.new _ _ _ (by first | rfl | (simp; done) | (simp; omega)) | with_reducible refine Blk.alloc ?_ _ | with_reducible refine Blk.far ?_ (by first | (simp; done) | (simp; omega) | omega) _))) hb5
    clear hb5
    clear L0_4 l0_4 f0_4_0 f0_4_1 f0_4_2 f0_4_3 f0_4_4 f0_4_5 L1_4 l1_4 f1_4_0 f1_4_1 f1_4_2 f1_4_3 f1_4_4 f1_4_5 L2_4 l2_4 f2_4_0 f2_4_1 f2_4_2 f2_4_3 f2_4_4 f2_4_5
    have l0_5 := L0_5.lt
    obtain ⟨f0_5_0, f0_5_1, f0_5_2, f0_5_3, f0_5_4, f0_5_5⟩ := L0_5.three
    have l1_5 := L1_5.lt
    obtain ⟨f1_5_0, f1_5_1, f1_5_2, f1_5_3, f1_5_4, f1_5_5⟩ := L1_5.three
    have l2_5 := L2_5.lt
    obtain ⟨f2_5_0, f2_5_1, f2_5_2, f2_5_3, f2_5_4, f2_5_5⟩ := L2_5.three
    go_wp2_with fail
    refine (in_e x' y' z' false _ H5.out).mono ?_
    rintro e w6 ⟨rfl, hb6⟩
    have acc6 : Below w.heap.size w w6 := below_step (by (repeat (first | with_reducible assumption | with_reducible exact Below.refl _ _ | simp only [Below.drew_iff] | simp only [Below.drewN_iff] | with_reducible refine Below.setCell ?_ (by first | omega | (simp; done) | (simp; omega)) _ | with_reducible refine Below.alloc ?_ (by first | omega | (simp; done) | (simp; omega)) _))) hb6
    have zz6 := acc6.size
    have L0_6 : Blk w6 (w.heap.size) [.int .i64 x, .int .i64 y, .int .i64 z] 23 := Blk.kept (by ((try simp only [Blk.drew_iff]); (try simp only [Blk.drewN_iff]); (try simp only [Blk.drew_iff]); repeat (first | with_reducible assumption | with_reducible exact Blk.new _ _ _ (by first | rfl | (simp; done) | (simp; omega)) | with_reducible refine Blk.alloc ?_ _ | with_reducible refine Blk.far ?_ (by first | (simp; done) | (simp; omega) | omega) _))) hb6
    have L1_6 : Blk w6 (w.heap.size + 1) [.int .i64 x', .int .i64 y', .int .i64 z'] 23 := Blk.kept (by ((try simp only [Blk.drew_iff]); (try simp only [Blk.drewN_iff]); (try simp only [Blk.drew_iff]); repeat (first | with_reducible assumption | with_reducible exact Blk.new _ _ _ (by first | rfl | (simp; done) | (simp; omega)) | with_reducible refine Blk.alloc ?_ _ | with_reducible refine Blk.far ?_ (by first | (simp; done) | (simp; omega) | omega) _))) hb6
    have L2_6 : Blk w6 (w3.heap.size) [.int .i64 0, .int .i64 0, .int .i64 0] 36 := Blk.kept (by ((try simp only [Blk.drew_iff]); (try simp only [Blk.drewN_iff]); (try simp only [Blk.drew_iff]); repeat (first | with_reducible assumption | with_reducible exact Blk.new _ _ _ (by first | rfl | (simp; done) | (simp; omega)) | with_reducible refine Blk.alloc ?_ _ | with_reducible refine Blk.far ?_ (by first | (simp; done) | (simp; omega) | omega) _))) hb6
    clear hb6
    clear L0_5 l0_5 f0_5_0 f0_5_1 f0_5_2 f0_5_3 f0_5_4 f0_5_5 L1_5 l1_5 f1_5_0 f1_5_1 f1_5_2 f1_5_3 f1_5_4 f1_5_5 L2_5 l2_5 f2_5_0 f2_5_1 f2_5_2 f2_5_3 f2_5_4 f2_5_5
    have l0_6 := L0_6.lt
    obtain ⟨f0_6_0, f0_6_1, f0_6_2, f0_6_3, f0_6_4, f0_6_5⟩ := L0_6.three
    have l1_6 := L1_6.lt
    obtain ⟨f1_6_0, f1_6_1, f1_6_2, f1_6_3, f1_6_4, f1_6_5⟩ := L1_6.three
    have l2_6 := L2_6.lt
    obtain ⟨f2_6_0, f2_6_1, f2_6_2, f2_6_3, f2_6_4, f2_6_5⟩ := L2_6.three
    go_wp2
    go_ret
    exact ⟨rfl, acc6⟩
end Go.Proofs.Ytnhoabehemnpnaa
