/- The walk of the statement VectorLaws, in one of its cases. -/
import Derived.Test.YtnhoabehemnpnaaWA
import Derived.Test.YtnhoabehemnpnaaW6
namespace Go.Proofs.Ytnhoabehemnpnaa
open Go.RowKit
attribute [local go_sem ↓] Go.wp_at_zero Go.wp_at_succ

set_option maxRecDepth 100000 in
set_option maxHeartbeats 16000000 in
theorem laws_isr (x y z x' y' z' x'' y'' z'' p1 p2 p3 q1 q2 q3 j k n c1 c2 c3 s1 s2 s3 : Int) (w : World) (H7 : Hid (combV x y z x'' y'' z'' 1 = .tuple #[v3 p1 p2 p3, .int .i64 j])) (H8 : Hid (combV x' y' z' x'' y'' z'' 1 = .tuple #[v3 q1 q2 q3, .int .i64 k])) (H1 : Hid (combV x y z x' y' z' 1 = .tuple #[v3 s1 s2 s3, .int .i64 0])) (H2 : Hid (combV s1 s2 s3 x' y' z' (-1) = .tuple #[v3 x y z, .int .i64 0])) (H3 : Hid (dotV x y z x' y' z' = .tuple #[.int .i64 n, .int .i64 0])) (H4 : Hid (dotV x' y' z' x y z = .tuple #[.int .i64 n, .int .i64 0])) (H5 : Hid (crossV x y z x' y' z' = .tuple #[v3 c1 c2 c3, .int .i64 0])) (H6 : Hid (crossV x' y' z' x y z = .tuple #[v3 (-c1) (-c2) (-c3), .int .i64 0])) (hjk : (j != 0) = true ∨ ((j != 0) = false ∧ (k != 0) = true)) (o1 : x * c1 + y * c2 + z * c3 = 0) (o2 : x' * c1 + y' * c2 + z' * c3 = 0) (hx : (-1000000 ≤ x ∧ x ≤ 1000000) ∧ (-1000000 ≤ y ∧ y ≤ 1000000) ∧ -1000000 ≤ z ∧ z ≤ 1000000) (hx' : (-1000000 ≤ x' ∧ x' ≤ 1000000) ∧ (-1000000 ≤ y' ∧ y' ≤ 1000000) ∧ -1000000 ≤ z' ∧ z' ≤ 1000000) (hc : (-2000000000000 ≤ c1 ∧ c1 ≤ 2000000000000) ∧ (-2000000000000 ≤ c2 ∧ c2 ≤ 2000000000000) ∧ (-2000000000000 ≤ c3 ∧ c3 ≤ 2000000000000)) :
    Calls Try.prog 8 #[v3 x y z, v3 x' y' z', v3 x'' y'' z''] w fun e w' => e = .returned (.bool true) ∧ Below w.heap.size w w' := by
  obtain ⟨⟨a1, a2⟩, ⟨a3, a4⟩, a5, a6⟩ := hx
  obtain ⟨⟨b1, b2⟩, ⟨b3, b4⟩, b5, b6⟩ := hx'
  obtain ⟨⟨d1, d2⟩, ⟨d3, d4⟩, d5, d6⟩ := hc
  obtain ⟨m1, m2⟩ := mul_mix a1 a2 d1 d2
  obtain ⟨m3, m4⟩ := mul_mix a3 a4 d3 d4
  obtain ⟨m5, m6⟩ := mul_mix a5 a6 d5 d6
  obtain ⟨m7, m8⟩ := mul_mix b1 b2 d1 d2
  obtain ⟨m9, m10⟩ := mul_mix b3 b4 d3 d4
  obtain ⟨m11, m12⟩ := mul_mix b5 b6 d5 d6
  have t1 : (x * c1 + y * c2 + z * c3 != 0) = false := by rw [o1]; rfl
  have t2 : (x' * c1 + y' * c2 + z' * c3 != 0) = false := by rw [o2]; rfl
  clear o1 o2
  rcases hjk with g1 | ⟨g1, g2⟩
  all_goals
    go_enter Try.func8, Try.ntmps8
    go_wp2_with fail
    refine (awake_any _).mono ?_
    rintro e w1 ⟨rfl, hb1⟩
    have acc1 : Below w.heap.size w w1 := below_step (by (repeat (first | with_reducible assumption | with_reducible exact Below.refl _ _ | simp only [Below.drew_iff] | simp only [Below.drewN_iff] | with_reducible refine Below.setCell ?_ (by first | omega | (simp; done) | (simp; omega)) _ | with_reducible refine Below.alloc ?_ (by first | omega | (simp; done) | (simp; omega)) _))) hb1
    have zz1 := acc1.size
    have L0_1 : Blk w1 (w.heap.size) [.int .i64 x, .int .i64 y, .int .i64 z] 23 := Blk.kept (by ((try simp only [Blk.drew_iff]); (try simp only [Blk.drewN_iff]); (try simp only [Blk.drew_iff]); repeat (first | with_reducible assumption | with_reducible exact Blk.new _ _ _ (by first | rfl | (simp; done) | (simp; omega)) | with_reducible refine Blk.alloc ?_ _ | with_reducible refine Blk.far ?_ (by first | (simp; done) | (simp; omega) | omega) _))) hb1
    have L1_1 : Blk w1 (w.heap.size + 1) [.int .i64 x', .int .i64 y', .int .i64 z'] 23 := Blk.kept (by ((try simp only [Blk.drew_iff]); (try simp only [Blk.drewN_iff]); (try simp only [Blk.drew_iff]); repeat (first | with_reducible assumption | with_reducible exact Blk.new _ _ _ (by first | rfl | (simp; done) | (simp; omega)) | with_reducible refine Blk.alloc ?_ _ | with_reducible refine Blk.far ?_ (by first | (simp; done) | (simp; omega) | omega) _))) hb1
    have L2_1 : Blk w1 (w.heap.size + 1 + 1) [.int .i64 x'', .int .i64 y'', .int .i64 z''] 23 := Blk.kept (by ((try simp only [Blk.drew_iff]); (try simp only [Blk.drewN_iff]); (try simp only [Blk.drew_iff]); repeat (first | with_reducible assumption | with_reducible exact Blk.new _ _ _ (by first | rfl | (simp; done) | (simp; omega)) | with_reducible refine Blk.alloc ?_ _ | with_reducible refine Blk.far ?_ (by first | (simp; done) | (simp; omega) | omega) _))) hb1
    clear hb1
    have l0_1 := L0_1.lt
    obtain ⟨f0_1_0, f0_1_1, f0_1_2, f0_1_3, f0_1_4, f0_1_5⟩ := L0_1.three
    have l1_1 := L1_1.lt
    obtain ⟨f1_1_0, f1_1_1, f1_1_2, f1_1_3, f1_1_4, f1_1_5⟩ := L1_1.three
    have l2_1 := L2_1.lt
    obtain ⟨f2_1_0, f2_1_1, f2_1_2, f2_1_3, f2_1_4, f2_1_5⟩ := L2_1.three
    go_wp2_with fail
    refine (add_e x y z x' y' z' s1 s2 s3 0 _ H1.out).mono ?_
    rintro e w2 ⟨rfl, hb2⟩
    have acc2 : Below w.heap.size w w2 := below_step (by (repeat (first | with_reducible assumption | with_reducible exact Below.refl _ _ | simp only [Below.drew_iff] | simp only [Below.drewN_iff] | with_reducible refine Below.setCell ?_ (by first | omega | (simp; done) | (simp; omega)) _ | with_reducible refine Below.alloc ?_ (by first | omega | (simp; done) | (simp; omega)) _))) hb2
    have zz2 := acc2.size
    have L0_2 : Blk w2 (w.heap.size) [.int .i64 x, .int .i64 y, .int .i64 z] 23 := Blk.kept (by ((try simp only [Blk.drew_iff]); (try simp only [Blk.drewN_iff]); (try simp only [Blk.drew_iff]); repeat (first | with_reducible assumption | with_reducible exact Blk.new _ _ _ (by first | rfl | (simp; done) | (simp; omega)) | with_reducible refine Blk.alloc ?_ _ | with_reducible refine Blk.far ?_ (by first | (simp; done) | (simp; omega) | omega) _))) hb2
    have L1_2 : Blk w2 (w.heap.size + 1) [.int .i64 x', .int .i64 y', .int .i64 z'] 23 := Blk.kept (by ((try simp only [Blk.drew_iff]); (try simp only [Blk.drewN_iff]); (try simp only [Blk.drew_iff]); repeat (first | with_reducible assumption | with_reducible exact Blk.new _ _ _ (by first | rfl | (simp; done) | (simp; omega)) | with_reducible refine Blk.alloc ?_ _ | with_reducible refine Blk.far ?_ (by first | (simp; done) | (simp; omega) | omega) _))) hb2
    have L2_2 : Blk w2 (w.heap.size + 1 + 1) [.int .i64 x'', .int .i64 y'', .int .i64 z''] 23 := Blk.kept (by ((try simp only [Blk.drew_iff]); (try simp only [Blk.drewN_iff]); (try simp only [Blk.drew_iff]); repeat (first | with_reducible assumption | with_reducible exact Blk.new _ _ _ (by first | rfl | (simp; done) | (simp; omega)) | with_reducible refine Blk.alloc ?_ _ | with_reducible refine Blk.far ?_ (by first | (simp; done) | (simp; omega) | omega) _))) hb2
    clear hb2
    clear L0_1 l0_1 f0_1_0 f0_1_1 f0_1_2 f0_1_3 f0_1_4 f0_1_5 L1_1 l1_1 f1_1_0 f1_1_1 f1_1_2 f1_1_3 f1_1_4 f1_1_5 L2_1 l2_1 f2_1_0 f2_1_1 f2_1_2 f2_1_3 f2_1_4 f2_1_5
    have l0_2 := L0_2.lt
    obtain ⟨f0_2_0, f0_2_1, f0_2_2, f0_2_3, f0_2_4, f0_2_5⟩ := L0_2.three
    have l1_2 := L1_2.lt
    obtain ⟨f1_2_0, f1_2_1, f1_2_2, f1_2_3, f1_2_4, f1_2_5⟩ := L1_2.three
    have l2_2 := L2_2.lt
    obtain ⟨f2_2_0, f2_2_1, f2_2_2, f2_2_3, f2_2_4, f2_2_5⟩ := L2_2.three
    go_wp2_with fail
    refine (sub_e s1 s2 s3 x' y' z' x y z 0 _ H2.out).mono ?_
    rintro e w3 ⟨rfl, hb3⟩
    have acc3 : Below w.heap.size w w3 := below_step (by (repeat (first | with_reducible assumption | with_reducible exact Below.refl _ _ | simp only [Below.drew_iff] | simp only [Below.drewN_iff] | with_reducible refine Below.setCell ?_ (by first | omega | (simp; done) | (simp; omega)) _ | with_reducible refine Below.alloc ?_ (by first | omega | (simp; done) | (simp; omega)) _))) hb3
    have zz3 := acc3.size
    have L0_3 : Blk w3 (w.heap.size) [.int .i64 x, .int .i64 y, .int .i64 z] 23 := Blk.kept (by ((try simp only [Blk.drew_iff]); (try simp only [Blk.drewN_iff]); (try simp only [Blk.drew_iff]); repeat (first | with_reducible assumption | with_reducible exact Blk.new _ _ _ (by first | rfl | (simp; done) | (simp; omega)) | with_reducible refine Blk.alloc ?_ _ | with_reducible refine Blk.far ?_ (by first | (simp; done) | (simp; omega) | omega) _))) hb3
    have L1_3 : Blk w3 (w.heap.size + 1) [.int .i64 x', .int .i64 y', .int .i64 z'] 23 := Blk.kept (by ((try simp only [Blk.drew_iff]); (try simp only [Blk.drewN_iff]); (try simp only [Blk.drew_iff]); repeat (first | with_reducible assumption | with_reducible exact Blk.new _ _ _ (by first | rfl | (simp; done) | (simp; omega)) | with_reducible refine Blk.alloc ?_ _ | with_reducible refine Blk.far ?_ (by first | (simp; done) | (simp; omega) | omega) _))) hb3
    have L2_3 : Blk w3 (w.heap.size + 1 + 1) [.int .i64 x'', .int .i64 y'', .int .i64 z''] 23 := Blk.kept (by ((try simp only [Blk.drew_iff]); (try simp only [Blk.drewN_iff]); (try simp only [Blk.drew_iff]); repeat (first | with_reducible assumption | with_reducible exact Blk.new _ _ _ (by first | rfl | (simp; done) | (simp; omega)) | with_reducible refine Blk.alloc ?_ _ | with_reducible refine Blk.far ?_ (by first | (simp; done) | (simp; omega) | omega) _))) hb3
    have L3_3 : Blk w3 (w2.heap.size) [.int .i64 s1, .int .i64 s2, .int .i64 s3] 23 := Blk.kept (by ((try simp only [Blk.drew_iff]); (try simp only [Blk.drewN_iff]); (try simp only [Blk.drew_iff]); repeat (first | with_reducible assumption | with_reducible exact Blk.new _ _ _ (by first | rfl | (simp; done) | (simp; omega)) | with_reducible refine Blk.alloc ?_ _ | with_reducible refine Blk.far ?_ (by first | (simp; done) | (simp; omega) | omega) _))) hb3
    clear hb3
    clear L0_2 l0_2 f0_2_0 f0_2_1 f0_2_2 f0_2_3 f0_2_4 f0_2_5 L1_2 l1_2 f1_2_0 f1_2_1 f1_2_2 f1_2_3 f1_2_4 f1_2_5 L2_2 l2_2 f2_2_0 f2_2_1 f2_2_2 f2_2_3 f2_2_4 f2_2_5
    have l0_3 := L0_3.lt
    obtain ⟨f0_3_0, f0_3_1, f0_3_2, f0_3_3, f0_3_4, f0_3_5⟩ := L0_3.three
    have l1_3 := L1_3.lt
    obtain ⟨f1_3_0, f1_3_1, f1_3_2, f1_3_3, f1_3_4, f1_3_5⟩ := L1_3.three
    have l2_3 := L2_3.lt
    obtain ⟨f2_3_0, f2_3_1, f2_3_2, f2_3_3, f2_3_4, f2_3_5⟩ := L2_3.three
    have l3_3 := L3_3.lt
    obtain ⟨f3_3_0, f3_3_1, f3_3_2, f3_3_3, f3_3_4, f3_3_5⟩ := L3_3.three
    go_wp2_with fail
    refine (dot_e x y z x' y' z' n 0 _ H3.out).mono ?_
    rintro e w4 ⟨rfl, hb4⟩
    have acc4 : Below w.heap.size w w4 := below_step (by (repeat (first | with_reducible assumption | with_reducible exact Below.refl _ _ | simp only [Below.drew_iff] | simp only [Below.drewN_iff] | with_reducible refine Below.setCell ?_ (by first | omega | (simp; done) | (simp; omega)) _ | with_reducible refine Below.alloc ?_ (by first | omega | (simp; done) | (simp; omega)) _))) hb4
    have zz4 := acc4.size
    have L0_4 : Blk w4 (w.heap.size) [.int .i64 x, .int .i64 y, .int .i64 z] 23 := Blk.kept (by ((try simp only [Blk.drew_iff]); (try simp only [Blk.drewN_iff]); (try simp only [Blk.drew_iff]); repeat (first | with_reducible assumption | with_reducible exact Blk.new _ _ _ (by first | rfl | (simp; done) | (simp; omega)) | with_reducible refine Blk.alloc ?_ _ | with_reducible refine Blk.far ?_ (by first | (simp; done) | (simp; omega) | omega) _))) hb4
    have L1_4 : Blk w4 (w.heap.size + 1) [.int .i64 x', .int .i64 y', .int .i64 z'] 23 := Blk.kept (by ((try simp only [Blk.drew_iff]); (try simp only [Blk.drewN_iff]); (try simp only [Blk.drew_iff]); repeat (first | with_reducible assumption | with_reducible exact Blk.new _ _ _ (by first | rfl | (simp; done) | (simp; omega)) | with_reducible refine Blk.alloc ?_ _ | with_reducible refine Blk.far ?_ (by first | (simp; done) | (simp; omega) | omega) _))) hb4
    have L2_4 : Blk w4 (w.heap.size + 1 + 1) [.int .i64 x'', .int .i64 y'', .int .i64 z''] 23 := Blk.kept (by ((try simp only [Blk.drew_iff]); (try simp only [Blk.drewN_iff]); (try simp only [Blk.drew_iff]); repeat (first | with_reducible assumption | with_reducible exact Blk.new _ _ _ (by first | rfl | (simp; done) | (simp; omega)) | with_reducible refine Blk.alloc ?_ _ | with_reducible refine Blk.far ?_ (by first | (simp; done) | (simp; omega) | omega) _))) hb4
    have L3_4 : Blk w4 (w2.heap.size) [.int .i64 s1, .int .i64 s2, .int .i64 s3] 23 := Blk.kept (by ((try simp only [Blk.drew_iff]); (try simp only [Blk.drewN_iff]); (try simp only [Blk.drew_iff]); repeat (first | with_reducible assumption | with_reducible exact Blk.new _ _ _ (by first | rfl | (simp; done) | (simp; omega)) | with_reducible refine Blk.alloc ?_ _ | with_reducible refine Blk.far ?_ (by first | (simp; done) | (simp; omega) | omega) _))) hb4
    have L4_4 : Blk w4 (w3.heap.size) [.int .i64 x, .int .i64 y, .int .i64 z] 23 := Blk.kept (by ((try simp only [Blk.drew_iff]); (try simp only [Blk.drewN_iff]); (try simp only [Blk.drew_iff]); repeat (first | with_reducible assumption | with_reducible exact Blk.new _ _ _ (by first | rfl | (simp; done) | (simp; omega)) | with_reducible refine Blk.alloc ?_ _ | with_reducible refine Blk.far ?_ (by first | (simp; done) | (simp; omega) | omega) _))) hb4
    clear hb4
    clear L0_3 l0_3 f0_3_0 f0_3_1 f0_3_2 f0_3_3 f0_3_4 f0_3_5 L1_3 l1_3 f1_3_0 f1_3_1 f1_3_2 f1_3_3 f1_3_4 f1_3_5 L2_3 l2_3 f2_3_0 f2_3_1 f2_3_2 f2_3_3 f2_3_4 f2_3_5 L3_3 l3_3 f3_3_0 f3_3_1 f3_3_2 f3_3_3 f3_3_4 f3_3_5
    have l0_4 := L0_4.lt
    obtain ⟨f0_4_0, f0_4_1, f0_4_2, f0_4_3, f0_4_4, f0_4_5⟩ := L0_4.three
    have l1_4 := L1_4.lt
    obtain ⟨f1_4_0, f1_4_1, f1_4_2, f1_4_3, f1_4_4, f1_4_5⟩ := L1_4.three
    have l2_4 := L2_4.lt
    obtain ⟨f2_4_0, f2_4_1, f2_4_2, f2_4_3, f2_4_4, f2_4_5⟩ := L2_4.three
    have l3_4 := L3_4.lt
    obtain ⟨f3_4_0, f3_4_1, f3_4_2, f3_4_3, f3_4_4, f3_4_5⟩ := L3_4.three
    have l4_4 := L4_4.lt
    obtain ⟨f4_4_0, f4_4_1, f4_4_2, f4_4_3, f4_4_4, f4_4_5⟩ := L4_4.three
    go_wp2_with fail
    refine (dot_e x' y' z' x y z n 0 _ H4.out).mono ?_
    rintro e w5 ⟨rfl, hb5⟩
    have acc5 : Below w.heap.size w w5 := below_step (by (repeat (first | with_reducible assumption | with_reducible exact Below.refl _ _ | simp only [Below.drew_iff] | simp only [Below.drewN_iff] | with_reducible refine Below.setCell ?_ (by first | omega | (simp; done) | (simp; omega)) _ | with_reducible refine Below.alloc ?_ (by first | omega | (simp; done) | (simp; omega)) _))) hb5
    have zz5 := acc5.size
    have L0_5 : Blk w5 (w.heap.size) [.int .i64 x, .int .i64 y, .int .i64 z] 23 := Blk.kept (by ((try simp only [Blk.drew_iff]); (try simp only [Blk.drewN_iff]); (try simp only [Blk.drew_iff]); repeat (first | with_reducible assumption | with_reducible exact Blk.new _ _ _ (by first | rfl | (simp; done) | (simp; omega)) | with_reducible refine Blk.alloc ?_ _ | with_reducible refine Blk.far ?_ (by first | (simp; done) | (simp; omega) | omega) _))) hb5
    have L1_5 : Blk w5 (w.heap.size + 1) [.int .i64 x', .int .i64 y', .int .i64 z'] 23 := Blk.kept (by ((try simp only [Blk.drew_iff]); (try simp only [Blk.drewN_iff]); (try simp only [Blk.drew_iff]); repeat (first | with_reducible assumption | with_reducible exact Blk.new _ _ _ (by first | rfl | (simp; done) | (simp; omega)) | with_reducible refine Blk.alloc ?_ _ | with_reducible refine Blk.far ?_ (by first | (simp; done) | (simp; omega) | omega) _))) hb5
    have L2_5 : Blk w5 (w.heap.size + 1 + 1) [.int .i64 x'', .int .i64 y'', .int .i64 z''] 23 := Blk.kept (by ((try simp only [Blk.drew_iff]); (try simp only [Blk.drewN_iff]); (try simp only [Blk.drew_iff]); repeat (first | with_reducible assumption | with_reducible exact Blk.new _ _ _ (by first | rfl | (simp; done) | (simp; omega)) | with_reducible refine Blk.alloc ?_ _ | with_reducible refine Blk.far ?_ (by first | (simp; done) | (simp; omega) | omega) _))) hb5
    have L3_5 : Blk w5 (w2.heap.size) [.int .i64 s1, .int .i64 s2, .int .i64 s3] 23 := Blk.kept (by ((try simp only [Blk.drew_iff]); (try simp only [Blk.drewN_iff]); (try simp only [Blk.drew_iff]); repeat (first | with_reducible assumption | with_reducible exact Blk.new _ _ _ (by first | rfl | (simp; done) | (simp; omega)) | with_reducible refine Blk.alloc ?_ _ | with_reducible refine Blk.far ?_ (by first | (simp; done) | (simp; omega) | omega) _))) hb5
    have L4_5 : Blk w5 (w3.heap.size) [.int .i64 x, .int .i64 y, .int .i64 z] 23 := Blk.kept (by ((try simp only [Blk.drew_iff]); (try simp only [Blk.drewN_iff]); (try simp only [Blk.drew_iff]); repeat (first | with_reducible assumption | with_reducible exact Blk.new _ _ _ (by first | rfl | (simp; done) | (simp; omega)) | with_reducible refine Blk.alloc ?_ _ | with_reducible refine Blk.far ?_ (by first | (simp; done) | (simp; omega) | omega) _))) hb5
    clear hb5
    clear L0_4 l0_4 f0_4_0 f0_4_1 f0_4_2 f0_4_3 f0_4_4 f0_4_5 L1_4 l1_4 f1_4_0 f1_4_1 f1_4_2 f1_4_3 f1_4_4 f1_4_5 L2_4 l2_4 f2_4_0 f2_4_1 f2_4_2 f2_4_3 f2_4_4 f2_4_5 L3_4 l3_4 f3_4_0 f3_4_1 f3_4_2 f3_4_3 f3_4_4 f3_4_5 L4_4 l4_4 f4_4_0 f4_4_1 f4_4_2 f4_4_3 f4_4_4 f4_4_5
    have l0_5 := L0_5.lt
    obtain ⟨f0_5_0, f0_5_1, f0_5_2, f0_5_3, f0_5_4, f0_5_5⟩ := L0_5.three
    have l1_5 := L1_5.lt
    obtain ⟨f1_5_0, f1_5_1, f1_5_2, f1_5_3, f1_5_4, f1_5_5⟩ := L1_5.three
    have l2_5 := L2_5.lt
    obtain ⟨f2_5_0, f2_5_1, f2_5_2, f2_5_3, f2_5_4, f2_5_5⟩ := L2_5.three
    have l3_5 := L3_5.lt
    obtain ⟨f3_5_0, f3_5_1, f3_5_2, f3_5_3, f3_5_4, f3_5_5⟩ := L3_5.three
    have l4_5 := L4_5.lt
    obtain ⟨f4_5_0, f4_5_1, f4_5_2, f4_5_3, f4_5_4, f4_5_5⟩ := L4_5.three
    go_wp2_with fail
    refine (cross_e x y z x' y' z' c1 c2 c3 0 _ H5.out).mono ?_
    rintro e w6 ⟨rfl, hb6⟩
    have acc6 : Below w.heap.size w w6 := below_step (by (repeat (first | with_reducible assumption | with_reducible exact Below.refl _ _ | simp only [Below.drew_iff] | simp only [Below.drewN_iff] | with_reducible refine Below.setCell ?_ (by first | omega | (simp; done) | (simp; omega)) _ | with_reducible refine Below.alloc ?_ (by first | omega | (simp; done) | (simp; omega)) _))) hb6
    have zz6 := acc6.size
    have L0_6 : Blk w6 (w.heap.size) [.int .i64 x, .int .i64 y, .int .i64 z] 23 := Blk.kept (by ((try simp only [Blk.drew_iff]); (try simp only [Blk.drewN_iff]); (try simp only [Blk.drew_iff]); repeat (first | with_reducible assumption | with_reducible exact Blk.new _ _ _ (by first | rfl | (simp; done) | (simp; omega)) | with_reducible refine Blk.alloc ?_ _ | with_reducible refine Blk.far ?_ (by first | (simp; done) | (simp; omega) | omega) _))) hb6
    have L1_6 : Blk w6 (w.heap.size + 1) [.int .i64 x', .int .i64 y', .int .i64 z'] 23 := Blk.kept (by ((try simp only [Blk.drew_iff]); (try simp only [Blk.drewN_iff]); (try simp only [Blk.drew_iff]); repeat (first | with_reducible assumption | with_reducible exact Blk.new _ _ _ (by first | rfl | (simp; done) | (simp; omega)) | with_reducible refine Blk.alloc ?_ _ | with_reducible refine Blk.far ?_ (by first | (simp; done) | (simp; omega) | omega) _))) hb6
    have L2_6 : Blk w6 (w.heap.size + 1 + 1) [.int .i64 x'', .int .i64 y'', .int .i64 z''] 23 := Blk.kept (by ((try simp only [Blk.drew_iff]); (try simp only [Blk.drewN_iff]); (try simp only [Blk.drew_iff]); repeat (first | with_reducible assumption | with_reducible exact Blk.new _ _ _ (by first | rfl | (simp; done) | (simp; omega)) | with_reducible refine Blk.alloc ?_ _ | with_reducible refine Blk.far ?_ (by first | (simp; done) | (simp; omega) | omega) _))) hb6
    have L3_6 : Blk w6 (w2.heap.size) [.int .i64 s1, .int .i64 s2, .int .i64 s3] 23 := Blk.kept (by ((try simp only [Blk.drew_iff]); (try simp only [Blk.drewN_iff]); (try simp only [Blk.drew_iff]); repeat (first | with_reducible assumption | with_reducible exact Blk.new _ _ _ (by first | rfl | (simp; done) | (simp; omega)) | with_reducible refine Blk.alloc ?_ _ | with_reducible refine Blk.far ?_ (by first | (simp; done) | (simp; omega) | omega) _))) hb6
    have L4_6 : Blk w6 (w3.heap.size) [.int .i64 x, .int .i64 y, .int .i64 z] 23 := Blk.kept (by ((try simp only [Blk.drew_iff]); (try simp only [Blk.drewN_iff]); (try simp only [Blk.drew_iff]); repeat (first | with_reducible assumption | with_reducible exact Blk.new _ _ _ (by first | rfl | (simp; done) | (simp; omega)) | with_reducible refine Blk.alloc ?_ _ | with_reducible refine Blk.far ?_ (by first | (simp; done) | (simp; omega) | omega) _))) hb6
    clear hb6
    clear L0_5 l0_5 f0_5_0 f0_5_1 f0_5_2 f0_5_3 f0_5_4 f0_5_5 L1_5 l1_5 f1_5_0 f1_5_1 f1_5_2 f1_5_3 f1_5_4 f1_5_5 L2_5 l2_5 f2_5_0 f2_5_1 f2_5_2 f2_5_3 f2_5_4 f2_5_5 L3_5 l3_5 f3_5_0 f3_5_1 f3_5_2 f3_5_3 f3_5_4 f3_5_5 L4_5 l4_5 f4_5_0 f4_5_1 f4_5_2 f4_5_3 f4_5_4 f4_5_5
    have l0_6 := L0_6.lt
    obtain ⟨f0_6_0, f0_6_1, f0_6_2, f0_6_3, f0_6_4, f0_6_5⟩ := L0_6.three
    have l1_6 := L1_6.lt
    obtain ⟨f1_6_0, f1_6_1, f1_6_2, f1_6_3, f1_6_4, f1_6_5⟩ := L1_6.three
    have l2_6 := L2_6.lt
    obtain ⟨f2_6_0, f2_6_1, f2_6_2, f2_6_3, f2_6_4, f2_6_5⟩ := L2_6.three
    have l3_6 := L3_6.lt
    obtain ⟨f3_6_0, f3_6_1, f3_6_2, f3_6_3, f3_6_4, f3_6_5⟩ := L3_6.three
    have l4_6 := L4_6.lt
    obtain ⟨f4_6_0, f4_6_1, f4_6_2, f4_6_3, f4_6_4, f4_6_5⟩ := L4_6.three
    go_wp2_with fail
    refine (cross_e x' y' z' x y z (-c1) (-c2) (-c3) 0 _ H6.out).mono ?_
    rintro e w7 ⟨rfl, hb7⟩
    have acc7 : Below w.heap.size w w7 := below_step (by (repeat (first | with_reducible assumption | with_reducible exact Below.refl _ _ | simp only [Below.drew_iff] | simp only [Below.drewN_iff] | with_reducible refine Below.setCell ?_ (by first | omega | (simp; done) | (simp; omega)) _ | with_reducible refine Below.alloc ?_ (by first | omega | (simp; done) | (simp; omega)) _))) hb7
    have zz7 := acc7.size
    have L0_7 : Blk w7 (w.heap.size) [.int .i64 x, .int .i64 y, .int .i64 z] 23 := Blk.kept (by ((try simp only [Blk.drew_iff]); (try simp only [Blk.drewN_iff]); (try simp only [Blk.drew_iff]); repeat (first | with_reducible assumption | with_reducible exact Blk.new _ _ _ (by first | rfl | (simp; done) | (simp; omega)) | with_reducible refine Blk.alloc ?_ _ | with_reducible refine Blk.far ?_ (by first | (simp; done) | (simp; omega) | omega) _))) hb7
    have L1_7 : Blk w7 (w.heap.size + 1) [.int .i64 x', .int .i64 y', .int .i64 z'] 23 := Blk.kept (by ((try simp only [Blk.drew_iff]); (try simp only [Blk.drewN_iff]); (try simp only [Blk.drew_iff]); repeat (first | with_reducible assumption | with_reducible exact Blk.new _ _ _ (by first | rfl | (simp; done) | (simp; omega)) | with_reducible refine Blk.alloc ?_ _ | with_reducible refine Blk.far ?_ (by first | (simp; done) | (simp; omega) | omega) _))) hb7
    have L2_7 : Blk w7 (w.heap.size + 1 + 1) [.int .i64 x'', .int .i64 y'', .int .i64 z''] 23 := Blk.kept (by ((try simp only [Blk.drew_iff]); (try simp only [Blk.drewN_iff]); (try simp only [Blk.drew_iff]); repeat (first | with_reducible assumption | with_reducible exact Blk.new _ _ _ (by first | rfl | (simp; done) | (simp; omega)) | with_reducible refine Blk.alloc ?_ _ | with_reducible refine Blk.far ?_ (by first | (simp; done) | (simp; omega) | omega) _))) hb7
    have L3_7 : Blk w7 (w2.heap.size) [.int .i64 s1, .int .i64 s2, .int .i64 s3] 23 := Blk.kept (by ((try simp only [Blk.drew_iff]); (try simp only [Blk.drewN_iff]); (try simp only [Blk.drew_iff]); repeat (first | with_reducible assumption | with_reducible exact Blk.new _ _ _ (by first | rfl | (simp; done) | (simp; omega)) | with_reducible refine Blk.alloc ?_ _ | with_reducible refine Blk.far ?_ (by first | (simp; done) | (simp; omega) | omega) _))) hb7
    have L4_7 : Blk w7 (w3.heap.size) [.int .i64 x, .int .i64 y, .int .i64 z] 23 := Blk.kept (by ((try simp only [Blk.drew_iff]); (try simp only [Blk.drewN_iff]); (try simp only [Blk.drew_iff]); repeat (first | with_reducible assumption | with_reducible exact Blk.new _ _ _ (by first | rfl | (simp; done) | (simp; omega)) | with_reducible refine Blk.alloc ?_ _ | with_reducible refine Blk.far ?_ (by first | (simp; done) | (simp; omega) | omega) _))) hb7
    have L5_7 : Blk w7 (w6.heap.size) [.int .i64 c1, .int .i64 c2, .int .i64 c3] 36 := Blk.kept (by ((try simp only [Blk.drew_iff]); (try simp only [Blk.drewN_iff]); (try simp only [Blk.drew_iff]); repeat (first | with_reducible assumption | with_reducible exact Blk.new _ _ _ (by first | rfl | (simp; done) | (simp; omega)) | with_reducible refine Blk.alloc ?_ _ | with_reducible refine Blk.far ?_ (by first | (simp; done) | (simp; omega) | omega) _))) hb7
    clear hb7
    clear L0_6 l0_6 f0_6_0 f0_6_1 f0_6_2 f0_6_3 f0_6_4 f0_6_5 L1_6 l1_6 f1_6_0 f1_6_1 f1_6_2 f1_6_3 f1_6_4 f1_6_5 L2_6 l2_6 f2_6_0 f2_6_1 f2_6_2 f2_6_3 f2_6_4 f2_6_5 L3_6 l3_6 f3_6_0 f3_6_1 f3_6_2 f3_6_3 f3_6_4 f3_6_5 L4_6 l4_6 f4_6_0 f4_6_1 f4_6_2 f4_6_3 f4_6_4 f4_6_5
    have l0_7 := L0_7.lt
    obtain ⟨f0_7_0, f0_7_1, f0_7_2, f0_7_3, f0_7_4, f0_7_5⟩ := L0_7.three
    have l1_7 := L1_7.lt
    obtain ⟨f1_7_0, f1_7_1, f1_7_2, f1_7_3, f1_7_4, f1_7_5⟩ := L1_7.three
    have l2_7 := L2_7.lt
    obtain ⟨f2_7_0, f2_7_1, f2_7_2, f2_7_3, f2_7_4, f2_7_5⟩ := L2_7.three
    have l3_7 := L3_7.lt
    obtain ⟨f3_7_0, f3_7_1, f3_7_2, f3_7_3, f3_7_4, f3_7_5⟩ := L3_7.three
    have l4_7 := L4_7.lt
    obtain ⟨f4_7_0, f4_7_1, f4_7_2, f4_7_3, f4_7_4, f4_7_5⟩ := L4_7.three
    have l5_7 := L5_7.lt
    obtain ⟨f5_7_0, f5_7_1, f5_7_2, f5_7_3, f5_7_4, f5_7_5⟩ := L5_7.three
    go_wp2_with fail
    refine (add_e x y z x'' y'' z'' p1 p2 p3 j _ H7.out).mono ?_
    rintro e w8 ⟨rfl, hb8⟩
    have acc8 : Below w.heap.size w w8 := below_step (by (repeat (first | with_reducible assumption | with_reducible exact Below.refl _ _ | simp only [Below.drew_iff] | simp only [Below.drewN_iff] | with_reducible refine Below.setCell ?_ (by first | omega | (simp; done) | (simp; omega)) _ | with_reducible refine Below.alloc ?_ (by first | omega | (simp; done) | (simp; omega)) _))) hb8
    have zz8 := acc8.size
    have L0_8 : Blk w8 (w.heap.size) [.int .i64 x, .int .i64 y, .int .i64 z] 23 := Blk.kept (by ((try simp only [Blk.drew_iff]); (try simp only [Blk.drewN_iff]); (try simp only [Blk.drew_iff]); repeat (first | with_reducible assumption | with_reducible exact Blk.new _ _ _ (by first | rfl | (simp; done) | (simp; omega)) | with_reducible refine Blk.alloc ?_ _ | with_reducible refine Blk.far ?_ (by first | (simp; done) | (simp; omega) | omega) _))) hb8
    have L1_8 : Blk w8 (w.heap.size + 1) [.int .i64 x', .int .i64 y', .int .i64 z'] 23 := Blk.kept (by ((try simp only [Blk.drew_iff]); (try simp only [Blk.drewN_iff]); (try simp only [Blk.drew_iff]); repeat (first | with_reducible assumption | with_reducible exact Blk.new _ _ _ (by first | rfl | (simp; done) | (simp; omega)) | with_reducible refine Blk.alloc ?_ _ | with_reducible refine Blk.far ?_ (by first | (simp; done) | (simp; omega) | omega) _))) hb8
    have L2_8 : Blk w8 (w.heap.size + 1 + 1) [.int .i64 x'', .int .i64 y'', .int .i64 z''] 23 := Blk.kept (by ((try simp only [Blk.drew_iff]); (try simp only [Blk.drewN_iff]); (try simp only [Blk.drew_iff]); repeat (first | with_reducible assumption | with_reducible exact Blk.new _ _ _ (by first | rfl | (simp; done) | (simp; omega)) | with_reducible refine Blk.alloc ?_ _ | with_reducible refine Blk.far ?_ (by first | (simp; done) | (simp; omega) | omega) _))) hb8
    have L3_8 : Blk w8 (w2.heap.size) [.int .i64 s1, .int .i64 s2, .int .i64 s3] 23 := Blk.kept (by ((try simp only [Blk.drew_iff]); (try simp only [Blk.drewN_iff]); (try simp only [Blk.drew_iff]); repeat (first | with_reducible assumption | with_reducible exact Blk.new _ _ _ (by first | rfl | (simp; done) | (simp; omega)) | with_reducible refine Blk.alloc ?_ _ | with_reducible refine Blk.far ?_ (by first | (simp; done) | (simp; omega) | omega) _))) hb8
    have L4_8 : Blk w8 (w3.heap.size) [.int .i64 x, .int .i64 y, .int .i64 z] 23 := Blk.kept (by ((try simp only [Blk.drew_iff]); (try simp only [Blk.drewN_iff]); (try simp only [Blk.drew_iff]); repeat (first | with_reducible assumption | with_reducible exact Blk.new _ _ _ (by first | rfl | (simp; done) | (simp; omega)) | with_reducible refine Blk.alloc ?_ _ | with_reducible refine Blk.far ?_ (by first | (simp; done) | (simp; omega) | omega) _))) hb8
    have L5_8 : Blk w8 (w6.heap.size) [.int .i64 c1, .int .i64 c2, .int .i64 c3] 36 := Blk.kept (by ((try simp only [Blk.drew_iff]); (try simp only [Blk.drewN_iff]); (try simp only [Blk.drew_iff]); repeat (first | with_reducible assumption | with_reducible exact Blk.new _ _ _ (by first | rfl | (simp; done) | (simp; omega)) | with_reducible refine Blk.alloc ?_ _ | with_reducible refine Blk.far ?_ (by first | (simp; done) | (simp; omega) | omega) _))) hb8
    have L6_8 : Blk w8 (w7.heap.size) [.int .i64 (-c1), .int .i64 (-c2), .int .i64 (-c3)] 36 := Blk.kept (by ((try simp only [Blk.drew_iff]); (try simp only [Blk.drewN_iff]); (try simp only [Blk.drew_iff]); repeat (first | with_reducible assumption | with_reducible exact Blk.new _ _ _ (by first | rfl | (simp; done) | (simp; omega)) | with_reducible refine Blk.alloc ?_ _ | with_reducible refine Blk.far ?_ (by first | (simp; done) | (simp; omega) | omega) _))) hb8
    clear hb8
    clear L0_7 l0_7 f0_7_0 f0_7_1 f0_7_2 f0_7_3 f0_7_4 f0_7_5 L1_7 l1_7 f1_7_0 f1_7_1 f1_7_2 f1_7_3 f1_7_4 f1_7_5 L2_7 l2_7 f2_7_0 f2_7_1 f2_7_2 f2_7_3 f2_7_4 f2_7_5 L3_7 l3_7 f3_7_0 f3_7_1 f3_7_2 f3_7_3 f3_7_4 f3_7_5 L4_7 l4_7 f4_7_0 f4_7_1 f4_7_2 f4_7_3 f4_7_4 f4_7_5 L5_7 l5_7 f5_7_0 f5_7_1 f5_7_2 f5_7_3 f5_7_4 f5_7_5
    have l0_8 := L0_8.lt
    obtain ⟨f0_8_0, f0_8_1, f0_8_2, f0_8_3, f0_8_4, f0_8_5⟩ := L0_8.three
    have l1_8 := L1_8.lt
    obtain ⟨f1_8_0, f1_8_1, f1_8_2, f1_8_3, f1_8_4, f1_8_5⟩ := L1_8.three
    have l2_8 := L2_8.lt
    obtain ⟨f2_8_0, f2_8_1, f2_8_2, f2_8_3, f2_8_4, f2_8_5⟩ := L2_8.three
    have l3_8 := L3_8.lt
    obtain ⟨f3_8_0, f3_8_1, f3_8_2, f3_8_3, f3_8_4, f3_8_5⟩ := L3_8.three
    have l4_8 := L4_8.lt
    obtain ⟨f4_8_0, f4_8_1, f4_8_2, f4_8_3, f4_8_4, f4_8_5⟩ := L4_8.three
    have l5_8 := L5_8.lt
    obtain ⟨f5_8_0, f5_8_1, f5_8_2, f5_8_3, f5_8_4, f5_8_5⟩ := L5_8.three
    have l6_8 := L6_8.lt
    obtain ⟨f6_8_0, f6_8_1, f6_8_2, f6_8_3, f6_8_4, f6_8_5⟩ := L6_8.three
    go_wp2_with fail
    refine (add_e x' y' z' x'' y'' z'' q1 q2 q3 k _ H8.out).mono ?_
    rintro e w9 ⟨rfl, hb9⟩
    have acc9 : Below w.heap.size w w9 := below_step (by (repeat (first | with_reducible assumption | with_reducible exact Below.refl _ _ | simp only [Below.drew_iff] | simp only [Below.drewN_iff] | with_reducible refine Below.setCell ?_ (by first | omega | (simp; done) | (simp; omega)) _ | with_reducible refine Below.alloc ?_ (by first | omega | (simp; done) | (simp; omega)) _))) hb9
    have zz9 := acc9.size
    have L0_9 : Blk w9 (w.heap.size) [.int .i64 x, .int .i64 y, .int .i64 z] 23 := Blk.kept (by ((try simp only [Blk.drew_iff]); (try simp only [Blk.drewN_iff]); (try simp only [Blk.drew_iff]); repeat (first | with_reducible assumption | with_reducible exact Blk.new _ _ _ (by first | rfl | (simp; done) | (simp; omega)) | with_reducible refine Blk.alloc ?_ _ | with_reducible refine Blk.far ?_ (by first | (simp; done) | (simp; omega) | omega) _))) hb9
    have L1_9 : Blk w9 (w.heap.size + 1) [.int .i64 x', .int .i64 y', .int .i64 z'] 23 := Blk.kept (by ((try simp only [Blk.drew_iff]); (try simp only [Blk.drewN_iff]); (try simp only [Blk.drew_iff]); repeat (first | with_reducible assumption | with_reducible exact Blk.new _ _ _ (by first | rfl | (simp; done) | (simp; omega)) | with_reducible refine Blk.alloc ?_ _ | with_reducible refine Blk.far ?_ (by first | (simp; done) | (simp; omega) | omega) _))) hb9
    have L2_9 : Blk w9 (w.heap.size + 1 + 1) [.int .i64 x'', .int .i64 y'', .int .i64 z''] 23 := Blk.kept (by ((try simp only [Blk.drew_iff]); (try simp only [Blk.drewN_iff]); (try simp only [Blk.drew_iff]); repeat (first | with_reducible assumption | with_reducible exact Blk.new _ _ _ (by first | rfl | (simp; done) | (simp; omega)) | with_reducible refine Blk.alloc ?_ _ | with_reducible refine Blk.far ?_ (by first | (simp; done) | (simp; omega) | omega) _))) hb9
    have L3_9 : Blk w9 (w2.heap.size) [.int .i64 s1, .int .i64 s2, .int .i64 s3] 23 := Blk.kept (by ((try simp only [Blk.drew_iff]); (try simp only [Blk.drewN_iff]); (try simp only [Blk.drew_iff]); repeat (first | with_reducible assumption | with_reducible exact Blk.new _ _ _ (by first | rfl | (simp; done) | (simp; omega)) | with_reducible refine Blk.alloc ?_ _ | with_reducible refine Blk.far ?_ (by first | (simp; done) | (simp; omega) | omega) _))) hb9
    have L4_9 : Blk w9 (w3.heap.size) [.int .i64 x, .int .i64 y, .int .i64 z] 23 := Blk.kept (by ((try simp only [Blk.drew_iff]); (try simp only [Blk.drewN_iff]); (try simp only [Blk.drew_iff]); repeat (first | with_reducible assumption | with_reducible exact Blk.new _ _ _ (by first | rfl | (simp; done) | (simp; omega)) | with_reducible refine Blk.alloc ?_ _ | with_reducible refine Blk.far ?_ (by first | (simp; done) | (simp; omega) | omega) _))) hb9
    have L5_9 : Blk w9 (w6.heap.size) [.int .i64 c1, .int .i64 c2, .int .i64 c3] 36 := Blk.kept (by ((try simp only [Blk.drew_iff]); (try simp only [Blk.drewN_iff]); (try simp only [Blk.drew_iff]); repeat (first | with_reducible assumption | with_reducible exact Blk.new _ _ _ (by first | rfl | (simp; done) | (simp; omega)) | with_reducible refine Blk.alloc ?_ _ | with_reducible refine Blk.far ?_ (by first | (simp; done) | (simp; omega) | omega) _))) hb9
    have L6_9 : Blk w9 (w7.heap.size) [.int .i64 (-c1), .int .i64 (-c2), .int .i64 (-c3)] 36 := Blk.kept (by ((try simp only [Blk.drew_iff]); (try simp only [Blk.drewN_iff]); (try simp only [Blk.drew_iff]); repeat (first | with_reducible assumption | with_reducible exact Blk.new _ _ _ (by first | rfl | (simp; done) | (simp; omega)) | with_reducible refine Blk.alloc ?_ _ | with_reducible refine Blk.far ?_ (by first | (simp; done) | (simp; omega) | omega) _))) hb9
    have L7_9 : Blk w9 (w8.heap.size) [.int .i64 p1, .int .i64 p2, .int .i64 p3] 23 := Blk.kept (by ((try simp only [Blk.drew_iff]); (try simp only [Blk.drewN_iff]); (try simp only [Blk.drew_iff]); repeat (first | with_reducible assumption | with_reducible exact Blk.new _ _ _ (by first | rfl | (simp; done) | (simp; omega)) | with_reducible refine Blk.alloc ?_ _ | with_reducible refine Blk.far ?_ (by first | (simp; done) | (simp; omega) | omega) _))) hb9
    clear hb9
    clear L0_8 l0_8 f0_8_0 f0_8_1 f0_8_2 f0_8_3 f0_8_4 f0_8_5 L1_8 l1_8 f1_8_0 f1_8_1 f1_8_2 f1_8_3 f1_8_4 f1_8_5 L2_8 l2_8 f2_8_0 f2_8_1 f2_8_2 f2_8_3 f2_8_4 f2_8_5 L3_8 l3_8 f3_8_0 f3_8_1 f3_8_2 f3_8_3 f3_8_4 f3_8_5 L4_8 l4_8 f4_8_0 f4_8_1 f4_8_2 f4_8_3 f4_8_4 f4_8_5 L5_8 l5_8 f5_8_0 f5_8_1 f5_8_2 f5_8_3 f5_8_4 f5_8_5 L6_8 l6_8 f6_8_0 f6_8_1 f6_8_2 f6_8_3 f6_8_4 f6_8_5
    have l0_9 := L0_9.lt
    obtain ⟨f0_9_0, f0_9_1, f0_9_2, f0_9_3, f0_9_4, f0_9_5⟩ := L0_9.three
    have l1_9 := L1_9.lt
    obtain ⟨f1_9_0, f1_9_1, f1_9_2, f1_9_3, f1_9_4, f1_9_5⟩ := L1_9.three
    have l2_9 := L2_9.lt
    obtain ⟨f2_9_0, f2_9_1, f2_9_2, f2_9_3, f2_9_4, f2_9_5⟩ := L2_9.three
    have l3_9 := L3_9.lt
    obtain ⟨f3_9_0, f3_9_1, f3_9_2, f3_9_3, f3_9_4, f3_9_5⟩ := L3_9.three
    have l4_9 := L4_9.lt
    obtain ⟨f4_9_0, f4_9_1, f4_9_2, f4_9_3, f4_9_4, f4_9_5⟩ := L4_9.three
    have l5_9 := L5_9.lt
    obtain ⟨f5_9_0, f5_9_1, f5_9_2, f5_9_3, f5_9_4, f5_9_5⟩ := L5_9.three
    have l6_9 := L6_9.lt
    obtain ⟨f6_9_0, f6_9_1, f6_9_2, f6_9_3, f6_9_4, f6_9_5⟩ := L6_9.three
    have l7_9 := L7_9.lt
    obtain ⟨f7_9_0, f7_9_1, f7_9_2, f7_9_3, f7_9_4, f7_9_5⟩ := L7_9.three
    go_wp2
    go_ret
    exact ⟨rfl, acc9.alloc zz9 _⟩

end Go.Proofs.Ytnhoabehemnpnaa
