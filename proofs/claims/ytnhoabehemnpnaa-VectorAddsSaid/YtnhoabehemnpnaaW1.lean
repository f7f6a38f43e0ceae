/- The walk of the statement VectorPrimitives. -/
import Derived.Test.YtnhoabehemnpnaaWA
namespace Go.Proofs.Ytnhoabehemnpnaa
open Go.RowKit
attribute [local go_sem ↓] Go.wp_at_zero Go.wp_at_succ

theorem prim_e (x y z a b c k e0 : Int) (w : World) (h : primV x y z = .tuple #[v3 a b c, .int .i64 k, .int .i64 e0]) :
    Calls Try.prog 27 #[v3 x y z] w fun e w' => e = .returned (.tuple #[v3 a b c, .int .i64 k, .int .i64 e0]) ∧ Below w.heap.size w w' := h ▸ primitive_any x y z w
theorem in_e (x y z : Int) (v : Bool) (w : World) (h : inV x y z = v) :
    Calls Try.prog 16 #[v3 x y z] w fun e w' => e = .returned (.bool v) ∧ Below w.heap.size w w' := h ▸ refIn_any x y z w
theorem prim_ok {x y z : Int} (h : inV x y z = true) (hz : ¬ (x = 0 ∧ y = 0 ∧ z = 0)) : primV x y z = .tuple #[v3 (x.tdiv (gcd3 x y z)) (y.tdiv (gcd3 x y z)) (z.tdiv (gcd3 x y z)), .int .i64 (gcd3 x y z), .int .i64 0] := by
  unfold primV; rw [if_pos h, if_neg hz]
theorem prim_out {x y z : Int} (h : inV x y z = false) : primV x y z = .tuple #[v3 0 0 0, .int .i64 0, .int .i64 6] := by
  unfold primV; rw [if_neg (by simp [h])]
theorem prim_zero : primV 0 0 0 = .tuple #[v3 0 0 0, .int .i64 0, .int .i64 1] := by
  unfold primV; rw [if_pos (by decide), if_pos (by simp)]

set_option maxRecDepth 100000 in
set_option maxHeartbeats 16000000 in
theorem vectorPrimitives_any (x y z : Int) (w : World) :
    Calls Try.prog 5 #[v3 x y z] w fun e w' => e = .returned (.bool true) ∧ Below w.heap.size w w' := by
  cases h : inV x y z
  · have H1 := Lib.hid (prim_out h)
    have H2 := Lib.hid h
    clear h
    go_enter Try.func5, Try.ntmps5
    go_wp2_with fail
    refine (awake_any _).mono ?_
    rintro e w1 ⟨rfl, hb1⟩
    have acc1 : Below w.heap.size w w1 := below_step (by (repeat (first | with_reducible assumption | with_reducible exact Below.refl _ _ | simp only [Below.drew_iff] | simp only [Below.drewN_iff] | with_reducible refine Below.setCell ?_ (by first | omega | (simp; done) | (simp; omega)) _ | with_reducible refine Below.alloc ?_ (by first | omega | (simp; done) | (simp; omega)) _))) hb1
    have zz1 := acc1.size
    have L0_1 : Blk w1 (w.heap.size) [.int .i64 x, .int .i64 y, .int .i64 z] 23 := Blk.kept (by ((try simp only [Blk.drew_iff]); (try simp only [Blk.drewN_iff]); (try simp only [Blk.drew_iff]); repeat (first | with_reducible assumption | with_reducible exact Blk.new _ _ _ (by first | rfl | (simp; done) | (simp; omega)) | with_reducible refine Blk.alloc ?_ _ | with_reducible refine Blk.far ?_ (by first | (simp; done) | (simp; omega) | omega) _))) hb1
    clear hb1
    have l0_1 := L0_1.lt
    obtain ⟨f0_1_0, f0_1_1, f0_1_2, f0_1_3, f0_1_4, f0_1_5⟩ := L0_1.three
    go_wp2_with fail
    refine (prim_e x y z 0 0 0 0 6 _ H1.out).mono ?_
    rintro e w2 ⟨rfl, hb2⟩
    have acc2 : Below w.heap.size w w2 := below_step (by (repeat (first | with_reducible assumption | with_reducible exact Below.refl _ _ | simp only [Below.drew_iff] | simp only [Below.drewN_iff] | with_reducible refine Below.setCell ?_ (by first | omega | (simp; done) | (simp; omega)) _ | with_reducible refine Below.alloc ?_ (by first | omega | (simp; done) | (simp; omega)) _))) hb2
    have zz2 := acc2.size
    have L0_2 : Blk w2 (w.heap.size) [.int .i64 x, .int .i64 y, .int .i64 z] 23 := Blk.kept (by ((try simp only [Blk.drew_iff]); (try simp only [Blk.drewN_iff]); (try simp only [Blk.drew_iff]); repeat (first | with_reducible assumption | with_reducible exact Blk.new _ _ _ (by first | rfl | (simp; done) | (simp; omega)) | with_reducible refine Blk.alloc ?_ _ | with_reducible refine Blk.far ?_ (by first | (simp; done) | (simp; omega) | omega) _))) hb2
    clear hb2
    clear L0_1 l0_1 f0_1_0 f0_1_1 f0_1_2 f0_1_3 f0_1_4 f0_1_5
    have l0_2 := L0_2.lt
    obtain ⟨f0_2_0, f0_2_1, f0_2_2, f0_2_3, f0_2_4, f0_2_5⟩ := L0_2.three
    go_wp2_with fail
    refine (in_e x y z false _ H2.out).mono ?_
    rintro e w3 ⟨rfl, hb3⟩
    have acc3 : Below w.heap.size w w3 := below_step (by (repeat (first | with_reducible assumption | with_reducible exact Below.refl _ _ | simp only [Below.drew_iff] | simp only [Below.drewN_iff] | with_reducible refine Below.setCell ?_ (by first | omega | (simp; done) | (simp; omega)) _ | with_reducible refine Below.alloc ?_ (by first | omega | (simp; done) | (simp; omega)) _))) hb3
    have zz3 := acc3.size
    have L0_3 : Blk w3 (w.heap.size) [.int .i64 x, .int .i64 y, .int .i64 z] 23 := Blk.kept (by ((try simp only [Blk.drew_iff]); (try simp only [Blk.drewN_iff]); (try simp only [Blk.drew_iff]); repeat (first | with_reducible assumption | with_reducible exact Blk.new _ _ _ (by first | rfl | (simp; done) | (simp; omega)) | with_reducible refine Blk.alloc ?_ _ | with_reducible refine Blk.far ?_ (by first | (simp; done) | (simp; omega) | omega) _))) hb3
    have L1_3 : Blk w3 (w2.heap.size) [.int .i64 0, .int .i64 0, .int .i64 0] 23 := Blk.kept (by ((try simp only [Blk.drew_iff]); (try simp only [Blk.drewN_iff]); (try simp only [Blk.drew_iff]); repeat (first | with_reducible assumption | with_reducible exact Blk.new _ _ _ (by first | rfl | (simp; done) | (simp; omega)) | with_reducible refine Blk.alloc ?_ _ | with_reducible refine Blk.far ?_ (by first | (simp; done) | (simp; omega) | omega) _))) hb3
    clear hb3
    clear L0_2 l0_2 f0_2_0 f0_2_1 f0_2_2 f0_2_3 f0_2_4 f0_2_5
    have l0_3 := L0_3.lt
    obtain ⟨f0_3_0, f0_3_1, f0_3_2, f0_3_3, f0_3_4, f0_3_5⟩ := L0_3.three
    have l1_3 := L1_3.lt
    obtain ⟨f1_3_0, f1_3_1, f1_3_2, f1_3_3, f1_3_4, f1_3_5⟩ := L1_3.three
    go_wp2
    go_ret
    exact ⟨rfl, acc3⟩
  by_cases hz : x = 0 ∧ y = 0 ∧ z = 0
  · obtain ⟨rfl, rfl, rfl⟩ := hz
    have H2 := Lib.hid h
    clear h
    go_enter Try.func5, Try.ntmps5
    go_wp2_with fail
    refine (awake_any _).mono ?_
    rintro e w1 ⟨rfl, hb1⟩
    have acc1 : Below w.heap.size w w1 := below_step (by (repeat (first | with_reducible assumption | with_reducible exact Below.refl _ _ | simp only [Below.drew_iff] | simp only [Below.drewN_iff] | with_reducible refine Below.setCell ?_ (by first | omega | (simp; done) | (simp; omega)) _ | with_reducible refine Below.alloc ?_ (by first | omega | (simp; done) | (simp; omega)) _))) hb1
    have zz1 := acc1.size
    have L0_1 : Blk w1 (w.heap.size) [.int .i64 0, .int .i64 0, .int .i64 0] 23 := Blk.kept (by ((try simp only [Blk.drew_iff]); (try simp only [Blk.drewN_iff]); (try simp only [Blk.drew_iff]); repeat (first | with_reducible assumption | with_reducible exact Blk.new _ _ _ (by first | rfl | (simp; done) | (simp; omega)) | with_reducible refine Blk.alloc ?_ _ | with_reducible refine Blk.far ?_ (by first | (simp; done) | (simp; omega) | omega) _))) hb1
    clear hb1
    have l0_1 := L0_1.lt
    obtain ⟨f0_1_0, f0_1_1, f0_1_2, f0_1_3, f0_1_4, f0_1_5⟩ := L0_1.three
    go_wp2_with fail
    refine (prim_e 0 0 0 0 0 0 0 1 _ prim_zero).mono ?_
    rintro e w2 ⟨rfl, hb2⟩
    have acc2 : Below w.heap.size w w2 := below_step (by (repeat (first | with_reducible assumption | with_reducible exact Below.refl _ _ | simp only [Below.drew_iff] | simp only [Below.drewN_iff] | with_reducible refine Below.setCell ?_ (by first | omega | (simp; done) | (simp; omega)) _ | with_reducible refine Below.alloc ?_ (by first | omega | (simp; done) | (simp; omega)) _))) hb2
    have zz2 := acc2.size
    have L0_2 : Blk w2 (w.heap.size) [.int .i64 0, .int .i64 0, .int .i64 0] 23 := Blk.kept (by ((try simp only [Blk.drew_iff]); (try simp only [Blk.drewN_iff]); (try simp only [Blk.drew_iff]); repeat (first | with_reducible assumption | with_reducible exact Blk.new _ _ _ (by first | rfl | (simp; done) | (simp; omega)) | with_reducible refine Blk.alloc ?_ _ | with_reducible refine Blk.far ?_ (by first | (simp; done) | (simp; omega) | omega) _))) hb2
    clear hb2
    clear L0_1 l0_1 f0_1_0 f0_1_1 f0_1_2 f0_1_3 f0_1_4 f0_1_5
    have l0_2 := L0_2.lt
    obtain ⟨f0_2_0, f0_2_1, f0_2_2, f0_2_3, f0_2_4, f0_2_5⟩ := L0_2.three
    go_wp2_with fail
    refine (in_e 0 0 0 true _ H2.out).mono ?_
    rintro e w3 ⟨rfl, hb3⟩
    have acc3 : Below w.heap.size w w3 := below_step (by (repeat (first | with_reducible assumption | with_reducible exact Below.refl _ _ | simp only [Below.drew_iff] | simp only [Below.drewN_iff] | with_reducible refine Below.setCell ?_ (by first | omega | (simp; done) | (simp; omega)) _ | with_reducible refine Below.alloc ?_ (by first | omega | (simp; done) | (simp; omega)) _))) hb3
    have zz3 := acc3.size
    have L0_3 : Blk w3 (w.heap.size) [.int .i64 0, .int .i64 0, .int .i64 0] 23 := Blk.kept (by ((try simp only [Blk.drew_iff]); (try simp only [Blk.drewN_iff]); (try simp only [Blk.drew_iff]); repeat (first | with_reducible assumption | with_reducible exact Blk.new _ _ _ (by first | rfl | (simp; done) | (simp; omega)) | with_reducible refine Blk.alloc ?_ _ | with_reducible refine Blk.far ?_ (by first | (simp; done) | (simp; omega) | omega) _))) hb3
    have L1_3 : Blk w3 (w2.heap.size) [.int .i64 0, .int .i64 0, .int .i64 0] 23 := Blk.kept (by ((try simp only [Blk.drew_iff]); (try simp only [Blk.drewN_iff]); (try simp only [Blk.drew_iff]); repeat (first | with_reducible assumption | with_reducible exact Blk.new _ _ _ (by first | rfl | (simp; done) | (simp; omega)) | with_reducible refine Blk.alloc ?_ _ | with_reducible refine Blk.far ?_ (by first | (simp; done) | (simp; omega) | omega) _))) hb3
    clear hb3
    clear L0_2 l0_2 f0_2_0 f0_2_1 f0_2_2 f0_2_3 f0_2_4 f0_2_5
    have l0_3 := L0_3.lt
    obtain ⟨f0_3_0, f0_3_1, f0_3_2, f0_3_3, f0_3_4, f0_3_5⟩ := L0_3.three
    have l1_3 := L1_3.lt
    obtain ⟨f1_3_0, f1_3_1, f1_3_2, f1_3_3, f1_3_4, f1_3_5⟩ := L1_3.three
    go_wp2
    go_ret
    exact ⟨rfl, acc3⟩
  · have h1 := prim_ok h hz
    have h3 : ∀ W, Calls Try.prog 28 #[v3 x y z] W fun e w' => e = .returned (.tuple #[v3 (x.tdiv (gcd3 x y z)) (y.tdiv (gcd3 x y z)) (z.tdiv (gcd3 x y z)), .int .i64 (gcd3 x y z)]) ∧ Below W.heap.size W w' := fun W => refPrimitive_any x y z W h hz
    generalize x.tdiv (gcd3 x y z) = a at h1 h3
    generalize y.tdiv (gcd3 x y z) = b at h1 h3
    generalize z.tdiv (gcd3 x y z) = c at h1 h3
    generalize gcd3 x y z = k at h1 h3
    have H1 := Lib.hid h1
    have H2 := Lib.hid h
    have H3 := Lib.hid h3
    have hcs : ¬ x = 0 ∨ ((x = 0) = True ∧ ¬ y = 0) ∨ ((x = 0) = True ∧ (y = 0) = True ∧ ¬ z = 0) := by simp only [eq_iff_iff, iff_true]; omega
    clear h1 h h3 hz
    rcases hcs with hn | ⟨hx, hn⟩ | ⟨hx, hy, hn⟩
    all_goals
      go_enter Try.func5, Try.ntmps5
      go_wp2_with fail
      refine (awake_any _).mono ?_
      rintro e w1 ⟨rfl, hb1⟩
      have acc1 : Below w.heap.size w w1 := below_step (by (repeat (first | with_reducible assumption | with_reducible exact Below.refl _ _ | simp only [Below.drew_iff] | simp only [Below.drewN_iff] | with_reducible refine Below.setCell ?_ (by first | omega | (simp; done) | (simp; omega)) _ | with_reducible refine Below.alloc ?_ (by first | omega | (simp; done) | (simp; omega)) _))) hb1
      have zz1 := acc1.size
      have L0_1 : Blk w1 (w.heap.size) [.int .i64 x, .int .i64 y, .int .i64 z] 23 := Blk.kept (by ((try simp only [Blk.drew_iff]); (try simp only [Blk.drewN_iff]); (try simp only [Blk.drew_iff]); repeat (first | with_reducible assumption | with_reducible exact Blk.new _ _ _ (by first | rfl | (simp; done) | (simp; omega)) | with_reducible refine Blk.alloc ?_ _ | with_reducible refine Blk.far ?_ (by first | (simp; done) | (simp; omega) | omega) _))) hb1
      clear hb1
      have l0_1 := L0_1.lt
      obtain ⟨f0_1_0, f0_1_1, f0_1_2, f0_1_3, f0_1_4, f0_1_5⟩ := L0_1.three
      go_wp2_with fail
      refine (prim_e x y z a b c k 0 _ H1.out).mono ?_
      rintro e w2 ⟨rfl, hb2⟩
      have acc2 : Below w.heap.size w w2 := below_step (by (repeat (first | with_reducible assumption | with_reducible exact Below.refl _ _ | simp only [Below.drew_iff] | simp only [Below.drewN_iff] | with_reducible refine Below.setCell ?_ (by first | omega | (simp; done) | (simp; omega)) _ | with_reducible refine Below.alloc ?_ (by first | omega | (simp; done) | (simp; omega)) _))) hb2
      have zz2 := acc2.size
      have L0_2 : Blk w2 (w.heap.size) [.int .i64 x, .int .i64 y, .int .i64 z] 23 := Blk.kept (by ((try simp only [Blk.drew_iff]); (try simp only [Blk.drewN_iff]); (try simp only [Blk.drew_iff]); repeat (first | with_reducible assumption | with_reducible exact Blk.new _ _ _ (by first | rfl | (simp; done) | (simp; omega)) | with_reducible refine Blk.alloc ?_ _ | with_reducible refine Blk.far ?_ (by first | (simp; done) | (simp; omega) | omega) _))) hb2
      clear hb2
      clear L0_1 l0_1 f0_1_0 f0_1_1 f0_1_2 f0_1_3 f0_1_4 f0_1_5
      have l0_2 := L0_2.lt
      obtain ⟨f0_2_0, f0_2_1, f0_2_2, f0_2_3, f0_2_4, f0_2_5⟩ := L0_2.three
      go_wp2_with fail
      refine (in_e x y z true _ H2.out).mono ?_
      rintro e w3 ⟨rfl, hb3⟩
      have acc3 : Below w.heap.size w w3 := below_step (by (repeat (first | with_reducible assumption | with_reducible exact Below.refl _ _ | simp only [Below.drew_iff] | simp only [Below.drewN_iff] | with_reducible refine Below.setCell ?_ (by first | omega | (simp; done) | (simp; omega)) _ | with_reducible refine Below.alloc ?_ (by first | omega | (simp; done) | (simp; omega)) _))) hb3
      have zz3 := acc3.size
      have L0_3 : Blk w3 (w.heap.size) [.int .i64 x, .int .i64 y, .int .i64 z] 23 := Blk.kept (by ((try simp only [Blk.drew_iff]); (try simp only [Blk.drewN_iff]); (try simp only [Blk.drew_iff]); repeat (first | with_reducible assumption | with_reducible exact Blk.new _ _ _ (by first | rfl | (simp; done) | (simp; omega)) | with_reducible refine Blk.alloc ?_ _ | with_reducible refine Blk.far ?_ (by first | (simp; done) | (simp; omega) | omega) _))) hb3
      have L1_3 : Blk w3 (w2.heap.size) [.int .i64 a, .int .i64 b, .int .i64 c] 23 := Blk.kept (by ((try simp only [Blk.drew_iff]); (try simp only [Blk.drewN_iff]); (try simp only [Blk.drew_iff]); repeat (first | with_reducible assumption | with_reducible exact Blk.new _ _ _ (by first | rfl | (simp; done) | (simp; omega)) | with_reducible refine Blk.alloc ?_ _ | with_reducible refine Blk.far ?_ (by first | (simp; done) | (simp; omega) | omega) _))) hb3
      clear hb3
      clear L0_2 l0_2 f0_2_0 f0_2_1 f0_2_2 f0_2_3 f0_2_4 f0_2_5
      have l0_3 := L0_3.lt
      obtain ⟨f0_3_0, f0_3_1, f0_3_2, f0_3_3, f0_3_4, f0_3_5⟩ := L0_3.three
      have l1_3 := L1_3.lt
      obtain ⟨f1_3_0, f1_3_1, f1_3_2, f1_3_3, f1_3_4, f1_3_5⟩ := L1_3.three
      go_wp2_with fail
      refine (H3.out _).mono ?_
      rintro e w4 ⟨rfl, hb4⟩
      have acc4 : Below w.heap.size w w4 := below_step (by (repeat (first | with_reducible assumption | with_reducible exact Below.refl _ _ | simp only [Below.drew_iff] | simp only [Below.drewN_iff] | with_reducible refine Below.setCell ?_ (by first | omega | (simp; done) | (simp; omega)) _ | with_reducible refine Below.alloc ?_ (by first | omega | (simp; done) | (simp; omega)) _))) hb4
      have zz4 := acc4.size
      have L0_4 : Blk w4 (w.heap.size) [.int .i64 x, .int .i64 y, .int .i64 z] 23 := Blk.kept (by ((try simp only [Blk.drew_iff]); (try simp only [Blk.drewN_iff]); (try simp only [Blk.drew_iff]); repeat (first | with_reducible assumption | with_reducible exact Blk.new _ _ _ (by first | rfl | (simp; done) | (simp; omega)) | with_reducible refine Blk.alloc ?_ _ | with_reducible refine Blk.far ?_ (by first | (simp; done) | (simp; omega) | omega) _))) hb4
      have L1_4 : Blk w4 (w2.heap.size) [.int .i64 a, .int .i64 b, .int .i64 c] 23 := Blk.kept (by ((try simp only [Blk.drew_iff]); (try simp only [Blk.drewN_iff]); (try simp only [Blk.drew_iff]); repeat (first | with_reducible assumption | with_reducible exact Blk.new _ _ _ (by first | rfl | (simp; done) | (simp; omega)) | with_reducible refine Blk.alloc ?_ _ | with_reducible refine Blk.far ?_ (by first | (simp; done) | (simp; omega) | omega) _))) hb4
      clear hb4
      clear L0_3 l0_3 f0_3_0 f0_3_1 f0_3_2 f0_3_3 f0_3_4 f0_3_5 L1_3 l1_3 f1_3_0 f1_3_1 f1_3_2 f1_3_3 f1_3_4 f1_3_5
      have l0_4 := L0_4.lt
      obtain ⟨f0_4_0, f0_4_1, f0_4_2, f0_4_3, f0_4_4, f0_4_5⟩ := L0_4.three
      have l1_4 := L1_4.lt
      obtain ⟨f1_4_0, f1_4_1, f1_4_2, f1_4_3, f1_4_4, f1_4_5⟩ := L1_4.three
      go_wp2
      go_ret
      exact ⟨rfl, acc4.alloc zz4 _⟩
end Go.Proofs.Ytnhoabehemnpnaa
