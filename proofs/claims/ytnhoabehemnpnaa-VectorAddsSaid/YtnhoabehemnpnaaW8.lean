/- The walk of the statement VectorAdds. -/
import Derived.Test.YtnhoabehemnpnaaWA
import Derived.Test.YtnhoabehemnpnaaW6
import Derived.Test.YtnhoabehemnpnaaW1
import Derived.Test.YtnhoabehemnpnaaW4
import Derived.Deep.DeepCutAuto
namespace Go.Proofs.Ytnhoabehemnpnaa
open Go.RowKit
attribute [local go_sem ↓] Go.wp_at_zero Go.wp_at_succ

/-- What the statement's own test of a sum says. -/
theorem sum_ok (a b c : Int) (w : World) (h : inV a b c = true) :
    Calls Try.prog 19 #[v3 a b c, v3 a b c, .int .i64 0] w fun e w' => e = .returned (.bool true) ∧ Below w.heap.size w w' := by
    have H1 := Lib.hid h
    clear h
    go_enter Try.func19, Try.ntmps19
    go_wp2_with fail
    refine (in_e a b c true _ H1.out).mono ?_
    rintro e w1 ⟨rfl, hb1⟩
    have acc1 : Below w.heap.size w w1 := below_step (by (repeat (first | with_reducible assumption | with_reducible exact Below.refl _ _ | simp only [Below.drew_iff] | simp only [Below.drewN_iff] | with_reducible refine Below.setCell ?_ (by first | omega | (simp; done) | (simp; omega)) _ | with_reducible refine Below.alloc ?_ (by first | omega | (simp; done) | (simp; omega)) _))) hb1
    have zz1 := acc1.size
    have L0_1 : Blk w1 (w.heap.size) [.int .i64 a, .int .i64 b, .int .i64 c] 23 := Blk.kept (by ((try simp only [Blk.drew_iff]); (try simp only [Blk.drewN_iff]); (try simp only [Blk.drew_iff]); repeat (first | with_reducible assumption | with_reducible exact Blk.new _ _ _ (by first | rfl | (simp; done) | (simp; omega)) | with_reducible refine Blk.alloc ?_ _ | with_reducible refine Blk.far ?_ (by first | (simp; done) | (simp; omega) | omega) _))) hb1
    have L1_1 : Blk w1 (w.heap.size + 1) [.int .i64 a, .int .i64 b, .int .i64 c] 23 := Blk.kept (by ((try simp only [Blk.drew_iff]); (try simp only [Blk.drewN_iff]); (try simp only [Blk.drew_iff]); repeat (first | with_reducible assumption | with_reducible exact Blk.new _ _ _ (by first | rfl | (simp; done) | (simp; omega)) | with_reducible refine Blk.alloc ?_ _ | with_reducible refine Blk.far ?_ (by first | (simp; done) | (simp; omega) | omega) _))) hb1
    clear hb1
    have l0_1 := L0_1.lt
    obtain ⟨f0_1_0, f0_1_1, f0_1_2, f0_1_3, f0_1_4, f0_1_5⟩ := L0_1.three
    have l1_1 := L1_1.lt
    obtain ⟨f1_1_0, f1_1_1, f1_1_2, f1_1_3, f1_1_4, f1_1_5⟩ := L1_1.three
    go_wp2
    go_ret
    exact ⟨rfl, acc1⟩
theorem sum_no (a b c : Int) (w : World) (h : inV a b c = false) :
    Calls Try.prog 19 #[v3 a b c, v3 0 0 0, .int .i64 6] w fun e w' => e = .returned (.bool true) ∧ Below w.heap.size w w' := by
    have H1 := Lib.hid h
    clear h
    go_enter Try.func19, Try.ntmps19
    go_wp2_with fail
    refine (in_e a b c false _ H1.out).mono ?_
    rintro e w1 ⟨rfl, hb1⟩
    have acc1 : Below w.heap.size w w1 := below_step (by (repeat (first | with_reducible assumption | with_reducible exact Below.refl _ _ | simp only [Below.drew_iff] | simp only [Below.drewN_iff] | with_reducible refine Below.setCell ?_ (by first | omega | (simp; done) | (simp; omega)) _ | with_reducible refine Below.alloc ?_ (by first | omega | (simp; done) | (simp; omega)) _))) hb1
    have zz1 := acc1.size
    have L0_1 : Blk w1 (w.heap.size) [.int .i64 a, .int .i64 b, .int .i64 c] 23 := Blk.kept (by ((try simp only [Blk.drew_iff]); (try simp only [Blk.drewN_iff]); (try simp only [Blk.drew_iff]); repeat (first | with_reducible assumption | with_reducible exact Blk.new _ _ _ (by first | rfl | (simp; done) | (simp; omega)) | with_reducible refine Blk.alloc ?_ _ | with_reducible refine Blk.far ?_ (by first | (simp; done) | (simp; omega) | omega) _))) hb1
    have L1_1 : Blk w1 (w.heap.size + 1) [.int .i64 0, .int .i64 0, .int .i64 0] 23 := Blk.kept (by ((try simp only [Blk.drew_iff]); (try simp only [Blk.drewN_iff]); (try simp only [Blk.drew_iff]); repeat (first | with_reducible assumption | with_reducible exact Blk.new _ _ _ (by first | rfl | (simp; done) | (simp; omega)) | with_reducible refine Blk.alloc ?_ _ | with_reducible refine Blk.far ?_ (by first | (simp; done) | (simp; omega) | omega) _))) hb1
    clear hb1
    have l0_1 := L0_1.lt
    obtain ⟨f0_1_0, f0_1_1, f0_1_2, f0_1_3, f0_1_4, f0_1_5⟩ := L0_1.three
    have l1_1 := L1_1.lt
    obtain ⟨f1_1_0, f1_1_1, f1_1_2, f1_1_3, f1_1_4, f1_1_5⟩ := L1_1.three
    go_wp2
    go_ret
    exact ⟨rfl, acc1⟩
theorem comb_sum {x y z x' y' z' t a b c : Int} (h1 : inV x y z = true) (h2 : inV x' y' z' = true) (ea : x + t * x' = a) (eb : y + t * y' = b) (ec : z + t * z' = c) : ∃ p1 p2 p3 e0 : Int, combV x y z x' y' z' t = .tuple #[v3 p1 p2 p3, .int .i64 e0] ∧ ∀ W, Calls Try.prog 19 #[v3 a b c, v3 p1 p2 p3, .int .i64 e0] W fun e w' => e = .returned (.bool true) ∧ Below W.heap.size W w' := by
  cases h : inV a b c
  · refine ⟨0, 0, 0, 6, ?_, fun W => sum_no a b c W h⟩
    unfold combV; rw [ea, eb, ec, if_neg (by simp [h])]
  · exact ⟨a, b, c, 0, comb_ok h1 h2 h ea eb ec, fun W => sum_ok a b c W h⟩
theorem vcheck_ee (x y z e0 : Int) (w : World) (h : errB (inV x y z) = e0) :
    Calls Try.prog 15 #[v3 x y z] w fun e w' => e = .returned (.int .i64 e0) ∧ Below w.heap.size w w' := h ▸ vcheck_any x y z w
theorem refCompare_e (x y z x' y' z' v : Int) (w : World) (h : cmpV x y z x' y' z' = v) :
    Calls Try.prog 18 #[v3 x y z, v3 x' y' z'] w fun e w' => e = .returned (.int .i64 v) ∧ Below w.heap.size w w' := h ▸ refCompare_any x y z x' y' z' w

end Go.Proofs.Ytnhoabehemnpnaa
