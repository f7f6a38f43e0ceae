/- The walk of the statement VectorReduced. -/
import Derived.Test.YtnhoabehemnpnaaWA
import Derived.Test.YtnhoabehemnpnaaW1
namespace Go.Proofs.Ytnhoabehemnpnaa
open Go.RowKit
attribute [local go_sem ↓] Go.wp_at_zero Go.wp_at_succ

theorem prim_bad {x y z : Int} (h : ¬ (inV x y z = true ∧ ¬ (x = 0 ∧ y = 0 ∧ z = 0))) : ∃ e0 : Int, e0 ≠ 0 ∧ primV x y z = .tuple #[v3 0 0 0, .int .i64 0, .int .i64 e0] := by
  cases hi : inV x y z
  · exact ⟨6, by decide, prim_out hi⟩
  · have hz : x = 0 ∧ y = 0 ∧ z = 0 := Classical.byContradiction fun hz => h ⟨hi, hz⟩
    obtain ⟨rfl, rfl, rfl⟩ := hz
    exact ⟨1, by decide, prim_zero⟩
/-- What the statement says, in numbers. -/
theorem reduced {x y z : Int} (h : inV x y z = true) (hz : ¬ (x = 0 ∧ y = 0 ∧ z = 0)) : ∃ a b c k : Int, 1 ≤ k ∧ k ≤ 1000000 ∧ k * a = x ∧ k * b = y ∧ k * c = z ∧ (-1000000 ≤ a ∧ a ≤ 1000000) ∧ (-1000000 ≤ b ∧ b ≤ 1000000) ∧ (-1000000 ≤ c ∧ c ≤ 1000000) ∧
    primV x y z = .tuple #[v3 a b c, .int .i64 k, .int .i64 0] ∧ primV a b c = .tuple #[v3 a b c, .int .i64 1, .int .i64 0] ∧ primV (-x) (-y) (-z) = .tuple #[v3 (-a) (-b) (-c), .int .i64 k, .int .i64 0] := by
  obtain ⟨b1, b2, b3⟩ := inV_true h
  obtain ⟨d1, d2, d3⟩ := gcd3_dvd x y z
  have q1 := tdiv_bd (k := gcd3 x y z) b1
  have q2 := tdiv_bd (k := gcd3 x y z) b2
  have q3 := tdiv_bd (k := gcd3 x y z) b3
  have hz2 := tdiv_zero_of hz
  have ho := gcd3_own hz
  have hn : inV (-x) (-y) (-z) = true := inV_mk (by omega) (by omega) (by omega)
  have hn2 : ¬ (-x = 0 ∧ -y = 0 ∧ -z = 0) := by omega
  refine ⟨_, _, _, gcd3 x y z, gcd3_pos hz, gcd3_le b1 b2 b3, tdiv_back d1, tdiv_back d2, tdiv_back d3, q1, q2, q3, prim_ok h hz, ?_, ?_⟩
  · rw [prim_ok (inV_mk q1 q2 q3) hz2, ho, tdiv_one', tdiv_one', tdiv_one']
  · rw [prim_ok hn hn2, gcd3_neg, neg_tdiv', neg_tdiv', neg_tdiv']

set_option maxRecDepth 100000 in
set_option maxHeartbeats 16000000 in
theorem vectorReduced_any (x y z : Int) (w : World) :
    Calls Try.prog 10 #[v3 x y z] w fun e w' => e = .returned (.bool true) ∧ Below w.heap.size w w' := by
  by_cases h : inV x y z = true ∧ ¬ (x = 0 ∧ y = 0 ∧ z = 0)
  · obtain ⟨a, b, c, k, k1, k2, e1, e2, e3, ⟨a1, a2⟩, ⟨b1, b2⟩, ⟨c1, c2⟩, h1, h2, h3⟩ := reduced h.1 h.2
    obtain ⟨⟨x1, x2⟩, ⟨y1, y2⟩, z1, z2⟩ := inV_true h.1
    have H1 := Lib.hid h1
    have H2 := Lib.hid h2
    have H3 := Lib.hid h3
    have p1 : -1000000 ≤ k * a ∧ k * a ≤ 1000000 := by omega
    have p2 : -1000000 ≤ k * b ∧ k * b ≤ 1000000 := by omega
    have p3 : -1000000 ≤ k * c ∧ k * c ≤ 1000000 := by omega
    have t1 : (k * a == x) = true := by rw [e1]; exact beq_self_eq_true _
    have t2 : (k * b == y) = true := by rw [e2]; exact beq_self_eq_true _
    have t3 : (k * c == z) = true := by rw [e3]; exact beq_self_eq_true _
    obtain ⟨p4, p5⟩ := p1
    obtain ⟨p6, p7⟩ := p2
    obtain ⟨p8, p9⟩ := p3
    clear h h1 h2 h3 e1 e2 e3
    go_enter Try.func10, Try.ntmps10
    go_wp2_with fail
    refine (awake_any _).mono ?_
    rintro e w1 ⟨rfl, hb1⟩
    have acc1 : Below w.heap.size w w1 := below_step (by (repeat (first | with_reducible assumption | with_reducible exact Below.refl _ _ | simp only [Below.drew_iff] | simp only [Below.drewN_iff] | with_reducible refine Below.setCell ?_ (by first | omega | (simp; done) | (simp; omega)) _ | with_reducible refine Below.alloc ?_ (by first | omega | (simp; done) | (simp; omega)) _))) hb1
    have zz1 := acc1.size
    have L0_1 : Blk w1 (w.heap.size) [.int .i64 x, .int .i64 y, .int .i64 z] 23 := Blk.kept (by ((try simp only [Blk.drew_iff]); (try simp only [Blk.drewN_iff]); (try simp only [Blk.drew_iff]); repeat (first | with_reducible assumption | with_reducible exact Blk.new _ _ _ (by first | rfl | (simp; done) | (simp; omega)) | with_reducible refine Blk.alloc ?_ _ | with_reducible refine Blk.far ?_ (by first | (simp; done) | (simp; omega) | omega) _))) hb1
    clear hb1
    have l0_1 := L0_1.lt
    obtain ⟨f0_1_0, f0_1_1, f0_1_2, f0_1_3, f0_1_4, f0_1_5⟩ := L0_1.three
    go_wp2_with fail
    refine (prim_e x y z a b c k 0 _ H1.out).mono ?_
    rintro e w2 ⟨rfl, hb2⟩
    have acc2 : Below w.heap.size w w2 := below_step (by (repeat (first | with_reducible assumption | with_reducible exact Below.refl _ _ | simp only [Below.drew_iff] | simp only [Below.drewN_iff] | with_reducible refine Below.setCell ?_ (by first | omega | (simp; done) | (simp; omega)) _ | with_reducible refine Below.alloc ?_ (by first | omega | (simp; done) | (simp; omega)) _))) hb2
    have zz2 := acc2.size
    have L0_2 : Blk w2 (w.heap.size) [.int .i64 x, .int .i64 y, .int .i64 z] 23 := Blk.kept (by ((try simp only [Blk.drew_iff]); (try simp only [Blk.drewN_iff]); (try simp only [Blk.drew_iff]); repeat (first | with_reducible assumption | with_reducible exact Blk.new _ _ _ (by first | rfl | (simp; done) | (simp; omega)) | with_reducible refine Blk.alloc ?_ _ | with_reducible refine Blk.far ?_ (by first | (simp; done) | (simp; omega) | omega) _))) hb2
    clear hb2
    clear L0_1 l0_1 f0_1_0 f0_1_1 f0_1_2 f0_1_3 f0_1_4 f0_1_5
    have l0_2 := L0_2.lt
    obtain ⟨f0_2_0, f0_2_1, f0_2_2, f0_2_3, f0_2_4, f0_2_5⟩ := L0_2.three
    go_wp2_with fail
    refine (prim_e a b c a b c 1 0 _ H2.out).mono ?_
    rintro e w3 ⟨rfl, hb3⟩
    have acc3 : Below w.heap.size w w3 := below_step (by (repeat (first | with_reducible assumption | with_reducible exact Below.refl _ _ | simp only [Below.drew_iff] | simp only [Below.drewN_iff] | with_reducible refine Below.setCell ?_ (by first | omega | (simp; done) | (simp; omega)) _ | with_reducible refine Below.alloc ?_ (by first | omega | (simp; done) | (simp; omega)) _))) hb3
    have zz3 := acc3.size
    have L0_3 : Blk w3 (w.heap.size) [.int .i64 x, .int .i64 y, .int .i64 z] 23 := Blk.kept (by ((try simp only [Blk.drew_iff]); (try simp only [Blk.drewN_iff]); (try simp only [Blk.drew_iff]); repeat (first | with_reducible assumption | with_reducible exact Blk.new _ _ _ (by first | rfl | (simp; done) | (simp; omega)) | with_reducible refine Blk.alloc ?_ _ | with_reducible refine Blk.far ?_ (by first | (simp; done) | (simp; omega) | omega) _))) hb3
    have L1_3 : Blk w3 (w2.heap.size) [.int .i64 a, .int .i64 b, .int .i64 c] 23 := Blk.kept (by ((try simp only [Blk.drew_iff]); (try simp only [Blk.drewN_iff]); (try simp only [Blk.drew_iff]); repeat (first | with_reducible assumption | with_reducible exact Blk.new _ _ _ (by first | rfl | (simp; done) | (simp; omega)) | with_reducible refine Blk.alloc ?_ _ | with_reducible refine Blk.far ?_ (by first | (simp; done) | (simp; omega) | omega) _))) hb3
    clear hb3
    clear L0_2 l0_2 f0_2_0 f0_2_1 f0_2_2 f0_2_3 f0_2_4 f0_2_5
    have l0_3 := L0_3.lt
    obtain ⟨f0_3_0, f0_3_1, f0_3_2, f0_3_3, f0_3_4, f0_3_5⟩ := L0_3.three
    have l1_3 := L1_3.lt
    obtain ⟨f1_3_0, f1_3_1, f1_3_2, f1_3_3, f1_3_4, f1_3_5⟩ := L1_3.three
    go_wp2_with fail
    refine (prim_e (-x) (-y) (-z) (-a) (-b) (-c) k 0 _ H3.out).mono ?_
    rintro e w4 ⟨rfl, hb4⟩
    have acc4 : Below w.heap.size w w4 := below_step (by (repeat (first | with_reducible assumption | with_reducible exact Below.refl _ _ | simp only [Below.drew_iff] | simp only [Below.drewN_iff] | with_reducible refine Below.setCell ?_ (by first | omega | (simp; done) | (simp; omega)) _ | with_reducible refine Below.alloc ?_ (by first | omega | (simp; done) | (simp; omega)) _))) hb4
    have zz4 := acc4.size
    have L0_4 : Blk w4 (w.heap.size) [.int .i64 x, .int .i64 y, .int .i64 z] 23 := Blk.kept (by ((try simp only [Blk.drew_iff]); (try simp only [Blk.drewN_iff]); (try simp only [Blk.drew_iff]); repeat (first | with_reducible assumption | with_reducible exact Blk.new _ _ _ (by first | rfl | (simp; done) | (simp; omega)) | with_reducible refine Blk.alloc ?_ _ | with_reducible refine Blk.far ?_ (by first | (simp; done) | (simp; omega) | omega) _))) hb4
    have L1_4 : Blk w4 (w2.heap.size) [.int .i64 a, .int .i64 b, .int .i64 c] 23 := Blk.kept (by ((try simp only [Blk.drew_iff]); (try simp only [Blk.drewN_iff]); (try simp only [Blk.drew_iff]); repeat (first | with_reducible assumption | with_reducible exact Blk.new _ _ _ (by first | rfl | (simp; done) | (simp; omega)) | with_reducible refine Blk.alloc ?_ _ | with_reducible refine Blk.far ?_ (by first | (simp; done) | (simp; omega) | omega) _))) hb4
    have L2_4 : Blk w4 (w3.heap.size) [.int .i64 a, .int .i64 b, .int .i64 c] 23 := Blk.kept (by ((try simp only [Blk.drew_iff]); (try simp only [Blk.drewN_iff]); (try simp only [Blk.drew_iff]); repeat (first | with_reducible assumption | with_reducible exact Blk.new _ _ _ (by first | rfl | (simp; done) | (simp; omega)) | with_reducible refine Blk.alloc ?_ _ | with_reducible refine Blk.far ?_ (by first | (simp; done) | (simp; omega) | omega) _))) hb4
    clear hb4
    clear L0_3 l0_3 f0_3_0 f0_3_1 f0_3_2 f0_3_3 f0_3_4 f0_3_5 L1_3 l1_3 f1_3_0 f1_3_1 f1_3_2 f1_3_3 f1_3_4 f1_3_5
    have l0_4 := L0_4.lt
    obtain ⟨f0_4_0, f0_4_1, f0_4_2, f0_4_3, f0_4_4, f0_4_5⟩ := L0_4.three
    have l1_4 := L1_4.lt
    obtain ⟨f1_4_0, f1_4_1, f1_4_2, f1_4_3, f1_4_4, f1_4_5⟩ := L1_4.three
    have l2_4 := L2_4.lt
    obtain ⟨f2_4_0, f2_4_1, f2_4_2, f2_4_3, f2_4_4, f2_4_5⟩ := L2_4.three
    go_wp2
    go_ret
    exact ⟨rfl, acc4.alloc zz4 _⟩
  · obtain ⟨e0, hne, h1⟩ := prim_bad h
    have H1 := Lib.hid h1
    have hd : (e0 != 0) = true := by rw [bne_iff_ne]; exact hne
    clear h h1 hne
    go_enter Try.func10, Try.ntmps10
    go_wp2_with fail
    refine (awake_any _).mono ?_
    rintro e w1 ⟨rfl, hb1⟩
    have acc1 : Below w.heap.size w w1 := below_step (by (repeat (first | with_reducible assumption | with_reducible exact Below.refl _ _ | simp only [Below.drew_iff] | simp only [Below.drewN_iff] | with_reducible refine Below.setCell ?_ (by first | omega | (simp; done) | (simp; omega)) _ | with_reducible refine Below.alloc ?_ (by first | omega | (simp; done) | (simp; omega)) _))) hb1
    have zz1 := acc1.size
    have L0_1 : Blk w1 (w.heap.size) [.int .i64 x, .int .i64 y, .int .i64 z] 23 := Blk.kept (by ((try simp only [Blk.drew_iff]); (try simp only [Blk.drewN_iff]); (try simp only [Blk.drew_iff]); repeat (first | with_reducible assumption | with_reducible exact Blk.new _ _ _ (by first | rfl | (simp; done) | (simp; omega)) | with_reducible refine Blk.alloc ?_ _ | with_reducible refine Blk.far ?_ (by first | (simp; done) | (simp; omega) | omega) _))) hb1
    clear hb1
    have l0_1 := L0_1.lt
    obtain ⟨f0_1_0, f0_1_1, f0_1_2, f0_1_3, f0_1_4, f0_1_5⟩ := L0_1.three
    go_wp2_with fail
    refine (prim_e x y z 0 0 0 0 e0 _ H1.out).mono ?_
    rintro e w2 ⟨rfl, hb2⟩
    have acc2 : Below w.heap.size w w2 := below_step (by (repeat (first | with_reducible assumption | with_reducible exact Below.refl _ _ | simp only [Below.drew_iff] | simp only [Below.drewN_iff] | with_reducible refine Below.setCell ?_ (by first | omega | (simp; done) | (simp; omega)) _ | with_reducible refine Below.alloc ?_ (by first | omega | (simp; done) | (simp; omega)) _))) hb2
    have zz2 := acc2.size
    have L0_2 : Blk w2 (w.heap.size) [.int .i64 x, .int .i64 y, .int .i64 z] 23 := Blk.kept (by ((try simp only [Blk.drew_iff]); (try simp only [Blk.drewN_iff]); (try simp only [Blk.drew_iff]); repeat (first | with_reducible assumption | with_reducible exact Blk.new _ _ _ (by first | rfl | (simp; done) | (simp; omega)) | with_reducible refine Blk.alloc ?_ _ | with_reducible refine Blk.far ?_ (by first | (simp; done) | (simp; omega) | omega) _))) hb2
    clear hb2
    clear L0_1 l0_1 f0_1_0 f0_1_1 f0_1_2 f0_1_3 f0_1_4 f0_1_5
    have l0_2 := L0_2.lt
    obtain ⟨f0_2_0, f0_2_1, f0_2_2, f0_2_3, f0_2_4, f0_2_5⟩ := L0_2.three
    go_wp2
    go_ret
    exact ⟨rfl, acc2.alloc zz2 _⟩
end Go.Proofs.Ytnhoabehemnpnaa
