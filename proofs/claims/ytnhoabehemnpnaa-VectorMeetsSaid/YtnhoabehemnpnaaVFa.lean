/- Dot of package vector. -/
import Derived.Test.YtnhoabehemnpnaaVF
namespace Go.Proofs.Ytnhoabehemnpnaa
open Go.RowKit
attribute [local go_sem ↓] Go.wp_at_zero Go.wp_at_succ

set_option maxHeartbeats 8000000 in
theorem vdot_any (x y z x' y' z' : Int) (w : World) :
    Calls Try.prog 22 #[v3 x y z, v3 x' y' z'] w fun e w' => e = .returned (dotV x y z x' y' z') ∧ Below w.heap.size w w' := by
  unfold dotV
  rcases two_cases (inV x y z) (inV x' y' z') with ⟨h, h1, h2⟩ | h
  · rw [if_pos h]
    have he : errB (inV x y z && inV x' y' z') = 0 := by rw [h]; rfl
    obtain ⟨⟨a1, a2⟩, ⟨a3, a4⟩, a5, a6⟩ := inV_true h1
    obtain ⟨⟨e1, e2⟩, ⟨e3, e4⟩, e5, e6⟩ := inV_true h2
    obtain ⟨k1, k2⟩ := mul_in a1 a2 e1 e2
    obtain ⟨k3, k4⟩ := mul_in a3 a4 e3 e4
    obtain ⟨k5, k6⟩ := mul_in a5 a6 e5 e6
    have hdot : ∀ W, Calls Try.prog 42 #[v3 x y z, v3 x' y' z'] W fun e w' => e = .returned (.int .i64 (x * x' + y * y' + z * z')) ∧ Below W.heap.size W w' := fun W =>
      dot_any x y z x' y' z' W (by omega) (by omega) (by omega) (by omega) (by omega) (by omega)
    have Hdot := Lib.hid hdot
    have He := Lib.hid he
    clear he hdot h h1 h2 a1 a2 a3 a4 a5 a6 e1 e2 e3 e4 e5 e6
    go_enter Try.func22, Try.ntmps22
    go_wp2_with fail
    refine (check_two x y z x' y' z' _ _ _ (by simp)).mono ?_
    rw [He.out]
    rintro e w0 ⟨rfl, hb⟩
    have b0 : Blk w0 w.heap.size [.int .i64 x, .int .i64 y, .int .i64 z] 23 := Blk.kept (((Blk.new _ _ _ rfl).alloc _).alloc _) hb
    have b1 : Blk w0 (w.heap.size + 1) [.int .i64 x', .int .i64 y', .int .i64 z'] 23 := Blk.kept ((Blk.new _ _ _ (by simp)).alloc _) hb
    have acc0 : Below w.heap.size w w0 := by (repeat (first | exact Below.refl _ _ | (refine Below.setCell ?_ (by first | omega | (simp; done) | (simp; omega)) _) | (refine Below.alloc ?_ (by first | omega | (simp; done) | (simp; omega)) _) | (refine Below.trans ?_ (Below.mono hb (by first | omega | (simp; done) | (simp; omega))))))
    have zz0 := acc0.size
    have l0 := b0.lt
    have l1 := b1.lt
    clear hb
    go_wp2_with fail
    go_region_held3 (fun w' => w'.cell? ⟨w.heap.size, 0, none⟩ = some (.int .i64 x) ∧ w'.cell? ⟨w.heap.size, 1, none⟩ = some (.int .i64 y) ∧ w'.cell? ⟨w.heap.size, 2, none⟩ = some (.int .i64 z) ∧ w'.cell? ⟨w.heap.size + 1, 0, none⟩ = some (.int .i64 x') ∧ w'.cell? ⟨w.heap.size + 1, 1, none⟩ = some (.int .i64 y') ∧ w'.cell? ⟨w.heap.size + 1, 2, none⟩ = some (.int .i64 z'))
      (first | (refine ⟨?_, ?_, ?_, ?_, ?_, ?_⟩ <;> with_reducible assumption) | (refine ⟨Blk.cell (cs := [.int .i64 x, .int .i64 y, .int .i64 z]) (t := 23) ?_ 0 rfl, Blk.cell (cs := [.int .i64 x, .int .i64 y, .int .i64 z]) (t := 23) ?_ 1 rfl, Blk.cell (cs := [.int .i64 x, .int .i64 y, .int .i64 z]) (t := 23) ?_ 2 rfl, Blk.cell (cs := [.int .i64 x', .int .i64 y', .int .i64 z']) (t := 23) ?_ 0 rfl, Blk.cell (cs := [.int .i64 x', .int .i64 y', .int .i64 z']) (t := 23) ?_ 1 rfl, Blk.cell (cs := [.int .i64 x', .int .i64 y', .int .i64 z']) (t := 23) ?_ 2 rfl⟩ <;> ((try simp only [Blk.drew_iff]); (try simp only [Blk.drewN_iff]); (try simp only [Blk.drew_iff]); repeat (first | with_reducible assumption | with_reducible exact Blk.new _ _ _ (by first | rfl | (simp; done) | (simp; omega)) | with_reducible refine Blk.alloc ?_ _ | with_reducible refine Blk.far ?_ (by first | (simp; done) | (simp; omega) | omega) _))) | go_keep | (refine ⟨?_, ?_, ?_, ?_, ?_, ?_⟩ <;> go_keep))
      (first
        | (go_at_call 42; (have tok := hb2; clear tok); (fail_if_success (have tok := hb3)); refine (Hdot.out _).mono ?_; rintro e w3 ⟨rfl, hb3⟩; have acc3 : Below w.heap.size w w3 := below_step (by ((try simp only [Below.drew_iff]); (try simp only [Below.drewN_iff]); (try simp only [Below.drew_iff]); first | with_reducible assumption | with_reducible exact Below.refl _ _ | (with_reducible refine Below.alloc ?_ (by first | omega | (simp; done) | (simp; omega)) _; first | with_reducible assumption | with_reducible exact Below.refl _ _ | (with_reducible refine Below.alloc ?_ (by first | omega | (simp; done) | (simp; omega)) _; first | with_reducible assumption | with_reducible exact Below.refl _ _ | (with_reducible refine Below.alloc ?_ (by first | omega | (simp; done) | (simp; omega)) _; first | with_reducible exact Below.refl _ _ | (with_reducible refine Below.alloc ?_ (by first | omega | (simp; done) | (simp; omega)) _; with_reducible exact Below.refl _ _)))))) hb3; have zz3 := acc3.size; have A0_3 : Blk w3 (w.heap.size) [.int .i64 x, .int .i64 y, .int .i64 z] 23 := Blk.kept (by ((try simp only [Blk.drew_iff]); (try simp only [Blk.drewN_iff]); (try simp only [Blk.drew_iff]); first | with_reducible assumption | with_reducible exact Blk.new _ _ _ (by first | rfl | (simp; done) | (simp; omega)) | (with_reducible refine Blk.alloc ?_ _; first | with_reducible assumption | with_reducible exact Blk.new _ _ _ (by first | rfl | (simp; done) | (simp; omega)) | (with_reducible refine Blk.alloc ?_ _; with_reducible assumption)))) hb3; obtain ⟨a0_3_0, a0_3_1, a0_3_2, a0_3_3, a0_3_4, a0_3_5⟩ := A0_3.three; have lA0_3 := A0_3.lt; have A1_3 : Blk w3 (w.heap.size + 1) [.int .i64 x', .int .i64 y', .int .i64 z'] 23 := Blk.kept (by ((try simp only [Blk.drew_iff]); (try simp only [Blk.drewN_iff]); (try simp only [Blk.drew_iff]); first | with_reducible assumption | with_reducible exact Blk.new _ _ _ (by first | rfl | (simp; done) | (simp; omega)) | (with_reducible refine Blk.alloc ?_ _; first | with_reducible assumption | with_reducible exact Blk.new _ _ _ (by first | rfl | (simp; done) | (simp; omega)) | (with_reducible refine Blk.alloc ?_ _; with_reducible assumption)))) hb3; obtain ⟨a1_3_0, a1_3_1, a1_3_2, a1_3_3, a1_3_4, a1_3_5⟩ := A1_3.three; have lA1_3 := A1_3.lt)
        | (go_at_call 39; (have tok := hb1; clear tok); (fail_if_success (have tok := hb2)); refine (coordinates_any _ _ _ _).mono ?_; rintro e w2 ⟨rfl, hb2⟩; have acc2 : Below w.heap.size w w2 := below_step (by ((try simp only [Below.drew_iff]); (try simp only [Below.drewN_iff]); (try simp only [Below.drew_iff]); first | with_reducible assumption | with_reducible exact Below.refl _ _ | (with_reducible refine Below.alloc ?_ (by first | omega | (simp; done) | (simp; omega)) _; first | with_reducible assumption | with_reducible exact Below.refl _ _ | (with_reducible refine Below.alloc ?_ (by first | omega | (simp; done) | (simp; omega)) _; first | with_reducible assumption | with_reducible exact Below.refl _ _ | (with_reducible refine Below.alloc ?_ (by first | omega | (simp; done) | (simp; omega)) _; first | with_reducible exact Below.refl _ _ | (with_reducible refine Below.alloc ?_ (by first | omega | (simp; done) | (simp; omega)) _; with_reducible exact Below.refl _ _)))))) hb2; have zz2 := acc2.size; have A0_2 : Blk w2 (w.heap.size) [.int .i64 x, .int .i64 y, .int .i64 z] 23 := Blk.kept (by ((try simp only [Blk.drew_iff]); (try simp only [Blk.drewN_iff]); (try simp only [Blk.drew_iff]); first | with_reducible assumption | with_reducible exact Blk.new _ _ _ (by first | rfl | (simp; done) | (simp; omega)) | (with_reducible refine Blk.alloc ?_ _; first | with_reducible assumption | with_reducible exact Blk.new _ _ _ (by first | rfl | (simp; done) | (simp; omega)) | (with_reducible refine Blk.alloc ?_ _; with_reducible assumption)))) hb2; obtain ⟨a0_2_0, a0_2_1, a0_2_2, a0_2_3, a0_2_4, a0_2_5⟩ := A0_2.three; have lA0_2 := A0_2.lt; have A1_2 : Blk w2 (w.heap.size + 1) [.int .i64 x', .int .i64 y', .int .i64 z'] 23 := Blk.kept (by ((try simp only [Blk.drew_iff]); (try simp only [Blk.drewN_iff]); (try simp only [Blk.drew_iff]); first | with_reducible assumption | with_reducible exact Blk.new _ _ _ (by first | rfl | (simp; done) | (simp; omega)) | (with_reducible refine Blk.alloc ?_ _; first | with_reducible assumption | with_reducible exact Blk.new _ _ _ (by first | rfl | (simp; done) | (simp; omega)) | (with_reducible refine Blk.alloc ?_ _; with_reducible assumption)))) hb2; obtain ⟨a1_2_0, a1_2_1, a1_2_2, a1_2_3, a1_2_4, a1_2_5⟩ := A1_2.three; have lA1_2 := A1_2.lt)
        | (go_at_call 39; (fail_if_success (have tok := hb1)); refine (coordinates_any _ _ _ _).mono ?_; rintro e w1 ⟨rfl, hb1⟩; have acc1 : Below w.heap.size w w1 := below_step (by ((try simp only [Below.drew_iff]); (try simp only [Below.drewN_iff]); (try simp only [Below.drew_iff]); first | with_reducible assumption | with_reducible exact Below.refl _ _ | (with_reducible refine Below.alloc ?_ (by first | omega | (simp; done) | (simp; omega)) _; first | with_reducible assumption | with_reducible exact Below.refl _ _ | (with_reducible refine Below.alloc ?_ (by first | omega | (simp; done) | (simp; omega)) _; first | with_reducible assumption | with_reducible exact Below.refl _ _ | (with_reducible refine Below.alloc ?_ (by first | omega | (simp; done) | (simp; omega)) _; first | with_reducible exact Below.refl _ _ | (with_reducible refine Below.alloc ?_ (by first | omega | (simp; done) | (simp; omega)) _; with_reducible exact Below.refl _ _)))))) hb1; have zz1 := acc1.size; have A0_1 : Blk w1 (w.heap.size) [.int .i64 x, .int .i64 y, .int .i64 z] 23 := Blk.kept (by ((try simp only [Blk.drew_iff]); (try simp only [Blk.drewN_iff]); (try simp only [Blk.drew_iff]); first | with_reducible assumption | with_reducible exact Blk.new _ _ _ (by first | rfl | (simp; done) | (simp; omega)) | (with_reducible refine Blk.alloc ?_ _; first | with_reducible assumption | with_reducible exact Blk.new _ _ _ (by first | rfl | (simp; done) | (simp; omega)) | (with_reducible refine Blk.alloc ?_ _; with_reducible assumption)))) hb1; obtain ⟨a0_1_0, a0_1_1, a0_1_2, a0_1_3, a0_1_4, a0_1_5⟩ := A0_1.three; have lA0_1 := A0_1.lt; have A1_1 : Blk w1 (w.heap.size + 1) [.int .i64 x', .int .i64 y', .int .i64 z'] 23 := Blk.kept (by ((try simp only [Blk.drew_iff]); (try simp only [Blk.drewN_iff]); (try simp only [Blk.drew_iff]); first | with_reducible assumption | with_reducible exact Blk.new _ _ _ (by first | rfl | (simp; done) | (simp; omega)) | (with_reducible refine Blk.alloc ?_ _; first | with_reducible assumption | with_reducible exact Blk.new _ _ _ (by first | rfl | (simp; done) | (simp; omega)) | (with_reducible refine Blk.alloc ?_ _; with_reducible assumption)))) hb1; obtain ⟨a1_1_0, a1_1_1, a1_1_2, a1_1_3, a1_1_4, a1_1_5⟩ := A1_1.three; have lA1_1 := A1_1.lt))
    go_wp2
    go_ret2
    exact ⟨rfl, by assumption⟩
  · rw [if_neg (by simp [h])]
    have he : errB (inV x y z && inV x' y' z') = 6 := by rw [h]; rfl
    have He := Lib.hid he
    clear he h
    go_enter Try.func22, Try.ntmps22
    go_wp2_with fail
    refine (check_two x y z x' y' z' _ _ _ (by simp)).mono ?_
    rw [He.out]
    rintro e w1 ⟨rfl, hb⟩
    go_wp2
    go_ret2
    exact ⟨rfl, by (repeat (first | exact Below.refl _ _ | (refine Below.setCell ?_ (by first | omega | (simp; done) | (simp; omega)) _) | (refine Below.alloc ?_ (by first | omega | (simp; done) | (simp; omega)) _) | (refine Below.trans ?_ (Below.mono hb (by first | omega | (simp; done) | (simp; omega))))))⟩

end Go.Proofs.Ytnhoabehemnpnaa
