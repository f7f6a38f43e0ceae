/- The walk of the statement VectorAdds, in one of its cases. -/
import Derived.Test.YtnhoabehemnpnaaWA
import Derived.Test.YtnhoabehemnpnaaW8
namespace Go.Proofs.Ytnhoabehemnpnaa
open Go.RowKit
attribute [local go_sem ↓] Go.wp_at_zero Go.wp_at_succ

set_option maxRecDepth 100000 in
set_option maxHeartbeats 16000000 in
theorem adds_half (x y z x' y' z' m : Int) (w : World) (H1 : Hid (combV x y z x' y' z' 1 = .tuple #[v3 0 0 0, .int .i64 6])) (H2 : Hid (combV x y z x' y' z' (-1) = .tuple #[v3 0 0 0, .int .i64 6])) (H5 : Hid (cmpV x y z x' y' z' = m)) (H3 : Hid (errB (inV x y z) = 0)) (H4 : Hid (inV x y z = true)) (H6 : Hid (inV x' y' z' = false)) :
    Calls Try.prog 3 #[v3 x y z, v3 x' y' z'] w fun e w' => e = .returned (.bool true) ∧ Below w.heap.size w w' := by
  go_enter Try.func3, Try.ntmps3
  go_wp2_with fail
  refine (awake_any _).mono ?_
  rintro e w1 ⟨rfl, hb1⟩
  have acc1 : Below w.heap.size w w1 := below_step (by (repeat (first | with_reducible assumption | with_reducible exact Below.refl _ _ | simp only [Below.drew_iff] | simp only [Below.drewN_iff] | with_reducible refine Below.setCell ?_ (by first | omega | (simp; done) | (simp; omega)) _ | with_reducible refine Below.alloc ?_ (by first | omega | (simp; done) | (simp; omega)) _))) hb1
  have zz1 := acc1.size
  have L0_1 : Blk w1 (w.heap.size) [.int .i64 x, .int .i64 y, .int .i64 z] 23 := Blk.kept (by ((try simp only [Blk.drew_iff]); (try simp only [Blk.drewN_iff]); (try simp only [Blk.drew_iff]); repeat (first | with_reducible assumption | with_reducible exact Blk.new _ _ _ (by first | rfl | (simp; done) | (simp; omega)) | with_reducible refine Blk.alloc ?_ _ | with_reducible refine Blk.far ?_ (by first | (simp; done) | (simp; omega) | omega) _))) hb1
  have L1_1 : Blk w1 (w.heap.size + 1) [.int .i64 x', .int .i64 y', .int .i64 z'] 23 := Blk.kept (by ((try simp only [Blk.drew_iff]); (try simp only [Blk.drewN_iff]); (try simp only [Blk.drew_iff]); repeat (first | with_reducible assumption | with_reducible exact Blk.new _ _ _ (by first | rfl | (simp; done) | (simp; omega)) | with_reducible refine Blk.alloc ?_ _ | with_reducible refine Blk.far ?_ (by first | (simp; done) | (simp; omega) | omega) _))) hb1
  clear hb1
  have l0_1 := L0_1.lt
  obtain ⟨f0_1_0, f0_1_1, f0_1_2, f0_1_3, f0_1_4, f0_1_5⟩ := L0_1.three
  have l1_1 := L1_1.lt
  obtain ⟨f1_1_0, f1_1_1, f1_1_2, f1_1_3, f1_1_4, f1_1_5⟩ := L1_1.three
  go_wp2_with fail
  refine (add_e x y z x' y' z' 0 0 0 6 _ H1.out).mono ?_
  rintro e w2 ⟨rfl, hb2⟩
  have acc2 : Below w.heap.size w w2 := below_step (by (repeat (first | with_reducible assumption | with_reducible exact Below.refl _ _ | simp only [Below.drew_iff] | simp only [Below.drewN_iff] | with_reducible refine Below.setCell ?_ (by first | omega | (simp; done) | (simp; omega)) _ | with_reducible refine Below.alloc ?_ (by first | omega | (simp; done) | (simp; omega)) _))) hb2
  have zz2 := acc2.size
  have L0_2 : Blk w2 (w.heap.size) [.int .i64 x, .int .i64 y, .int .i64 z] 23 := Blk.kept (by ((try simp only [Blk.drew_iff]); (try simp only [Blk.drewN_iff]); (try simp only [Blk.drew_iff]); repeat (first | with_reducible assumption | with_reducible exact Blk.new _ _ _ (by first | rfl | (simp; done) | (simp; omega)) | with_reducible refine Blk.alloc ?_ _ | with_reducible refine Blk.far ?_ (by first | (simp; done) | (simp; omega) | omega) _))) hb2
  have L1_2 : Blk w2 (w.heap.size + 1) [.int .i64 x', .int .i64 y', .int .i64 z'] 23 := Blk.kept (by ((try simp only [Blk.drew_iff]); (try simp only [Blk.drewN_iff]); (try simp only [Blk.drew_iff]); repeat (first | with_reducible assumption | with_reducible exact Blk.new _ _ _ (by first | rfl | (simp; done) | (simp; omega)) | with_reducible refine Blk.alloc ?_ _ | with_reducible refine Blk.far ?_ (by first | (simp; done) | (simp; omega) | omega) _))) hb2
  clear hb2
  clear L0_1 l0_1 f0_1_0 f0_1_1 f0_1_2 f0_1_3 f0_1_4 f0_1_5 L1_1 l1_1 f1_1_0 f1_1_1 f1_1_2 f1_1_3 f1_1_4 f1_1_5
  have l0_2 := L0_2.lt
  obtain ⟨f0_2_0, f0_2_1, f0_2_2, f0_2_3, f0_2_4, f0_2_5⟩ := L0_2.three
  have l1_2 := L1_2.lt
  obtain ⟨f1_2_0, f1_2_1, f1_2_2, f1_2_3, f1_2_4, f1_2_5⟩ := L1_2.three
  go_wp2_with fail
  refine (sub_e x y z x' y' z' 0 0 0 6 _ H2.out).mono ?_
  rintro e w3 ⟨rfl, hb3⟩
  have acc3 : Below w.heap.size w w3 := below_step (by (repeat (first | with_reducible assumption | with_reducible exact Below.refl _ _ | simp only [Below.drew_iff] | simp only [Below.drewN_iff] | with_reducible refine Below.setCell ?_ (by first | omega | (simp; done) | (simp; omega)) _ | with_reducible refine Below.alloc ?_ (by first | omega | (simp; done) | (simp; omega)) _))) hb3
  have zz3 := acc3.size
  have L0_3 : Blk w3 (w.heap.size) [.int .i64 x, .int .i64 y, .int .i64 z] 23 := Blk.kept (by ((try simp only [Blk.drew_iff]); (try simp only [Blk.drewN_iff]); (try simp only [Blk.drew_iff]); repeat (first | with_reducible assumption | with_reducible exact Blk.new _ _ _ (by first | rfl | (simp; done) | (simp; omega)) | with_reducible refine Blk.alloc ?_ _ | with_reducible refine Blk.far ?_ (by first | (simp; done) | (simp; omega) | omega) _))) hb3
  have L1_3 : Blk w3 (w.heap.size + 1) [.int .i64 x', .int .i64 y', .int .i64 z'] 23 := Blk.kept (by ((try simp only [Blk.drew_iff]); (try simp only [Blk.drewN_iff]); (try simp only [Blk.drew_iff]); repeat (first | with_reducible assumption | with_reducible exact Blk.new _ _ _ (by first | rfl | (simp; done) | (simp; omega)) | with_reducible refine Blk.alloc ?_ _ | with_reducible refine Blk.far ?_ (by first | (simp; done) | (simp; omega) | omega) _))) hb3
  have L2_3 : Blk w3 (w2.heap.size) [.int .i64 0, .int .i64 0, .int .i64 0] 23 := Blk.kept (by ((try simp only [Blk.drew_iff]); (try simp only [Blk.drewN_iff]); (try simp only [Blk.drew_iff]); repeat (first | with_reducible assumption | with_reducible exact Blk.new _ _ _ (by first | rfl | (simp; done) | (simp; omega)) | with_reducible refine Blk.alloc ?_ _ | with_reducible refine Blk.far ?_ (by first | (simp; done) | (simp; omega) | omega) _))) hb3
  clear hb3
  clear L0_2 l0_2 f0_2_0 f0_2_1 f0_2_2 f0_2_3 f0_2_4 f0_2_5 L1_2 l1_2 f1_2_0 f1_2_1 f1_2_2 f1_2_3 f1_2_4 f1_2_5
  have l0_3 := L0_3.lt
  obtain ⟨f0_3_0, f0_3_1, f0_3_2, f0_3_3, f0_3_4, f0_3_5⟩ := L0_3.three
  have l1_3 := L1_3.lt
  obtain ⟨f1_3_0, f1_3_1, f1_3_2, f1_3_3, f1_3_4, f1_3_5⟩ := L1_3.three
  have l2_3 := L2_3.lt
  obtain ⟨f2_3_0, f2_3_1, f2_3_2, f2_3_3, f2_3_4, f2_3_5⟩ := L2_3.three
  have zl := acc3.alloc zz3 (.cells #[.int .i64 0, .int .i64 0, .int .i64 0] 23)
  go_wp2_with fail
  refine wp_region_noPanic ?_
  refine wp_region_held_drew (S := fun w' => w'.cell? ⟨w.heap.size, 0, none⟩ = some (.int .i64 x) ∧ w'.cell? ⟨w.heap.size, 1, none⟩ = some (.int .i64 y) ∧ w'.cell? ⟨w.heap.size, 2, none⟩ = some (.int .i64 z) ∧ w'.cell? ⟨w.heap.size + 1, 0, none⟩ = some (.int .i64 x') ∧ w'.cell? ⟨w.heap.size + 1, 1, none⟩ = some (.int .i64 y') ∧ w'.cell? ⟨w.heap.size + 1, 2, none⟩ = some (.int .i64 z') ∧ w'.cell? ⟨w2.heap.size, 0, none⟩ = some (.int .i64 0) ∧ w'.cell? ⟨w2.heap.size, 1, none⟩ = some (.int .i64 0) ∧ w'.cell? ⟨w2.heap.size, 2, none⟩ = some (.int .i64 0) ∧ w'.cell? ⟨w3.heap.size, 0, none⟩ = some (.int .i64 0) ∧ w'.cell? ⟨w3.heap.size, 1, none⟩ = some (.int .i64 0) ∧ w'.cell? ⟨w3.heap.size, 2, none⟩ = some (.int .i64 0)) (by kernel_rfl) ?_ (fun hHeld => ?_)
  focus (refine ⟨Blk.cell (cs := [.int .i64 x, .int .i64 y, .int .i64 z]) (t := 23) ?_ 0 rfl, Blk.cell (cs := [.int .i64 x, .int .i64 y, .int .i64 z]) (t := 23) ?_ 1 rfl, Blk.cell (cs := [.int .i64 x, .int .i64 y, .int .i64 z]) (t := 23) ?_ 2 rfl, Blk.cell (cs := [.int .i64 x', .int .i64 y', .int .i64 z']) (t := 23) ?_ 0 rfl, Blk.cell (cs := [.int .i64 x', .int .i64 y', .int .i64 z']) (t := 23) ?_ 1 rfl, Blk.cell (cs := [.int .i64 x', .int .i64 y', .int .i64 z']) (t := 23) ?_ 2 rfl, Blk.cell (cs := [.int .i64 0, .int .i64 0, .int .i64 0]) (t := 23) ?_ 0 rfl, Blk.cell (cs := [.int .i64 0, .int .i64 0, .int .i64 0]) (t := 23) ?_ 1 rfl, Blk.cell (cs := [.int .i64 0, .int .i64 0, .int .i64 0]) (t := 23) ?_ 2 rfl, Blk.cell (cs := [.int .i64 0, .int .i64 0, .int .i64 0]) (t := 23) ?_ 0 rfl, Blk.cell (cs := [.int .i64 0, .int .i64 0, .int .i64 0]) (t := 23) ?_ 1 rfl, Blk.cell (cs := [.int .i64 0, .int .i64 0, .int .i64 0]) (t := 23) ?_ 2 rfl⟩ <;> ((try simp only [Blk.drew_iff]); (try simp only [Blk.drewN_iff]); (try simp only [Blk.drew_iff]); repeat (first | with_reducible assumption | with_reducible exact Blk.new _ _ _ (by first | rfl | (simp; done) | (simp; omega)) | with_reducible refine Blk.alloc ?_ _ | with_reducible refine Blk.far ?_ (by first | (simp; done) | (simp; omega) | omega) _)))
  refine wpAnyH_take (i := 0) (v := ?_) rfl (by kernel_rfl) (by kernel_rfl) (by kernel_rfl) (fun _ _ _ h => h) (Or.inl ⟨by rfl, ?_⟩) (by assumption) ?_
  rotate_left
  focus (intro wq hSw; (try dsimp only at hSw); go_simp; try with_reducible rfl)
  try simp only [List.getElem_toArray, List.getElem_cons_zero, Act.put, List.setIfInBounds_toArray, List.set_cons_zero, List.set_cons_succ]
  refine wpAnyH_take (i := 3) (v := ?_) rfl (by kernel_rfl) (by kernel_rfl) (by kernel_rfl) (fun _ _ _ h => h) (Or.inl ⟨by rfl, ?_⟩) (by assumption) ?_
  rotate_left
  focus (intro wq hSw; (try dsimp only at hSw); go_simp; try with_reducible rfl)
  try simp only [List.getElem_toArray, List.getElem_cons_succ, List.getElem_cons_zero, Act.put, List.setIfInBounds_toArray, List.set_cons_zero, List.set_cons_succ]
  refine wpAnyH_ready (rs := [1]) (by kernel_rfl) (by simp) ?_
  refine AllReadyH.cons rfl (fun K hK => ?_) AllReadyH.nil
  go_simp
  refine (vcheck_ee x y z 0 _ H3.out).mono ?_
  rintro e wm1 ⟨rfl, hbm1⟩
  have accm1 : Below w.heap.size w wm1 := below_step (by (repeat (first | with_reducible assumption | with_reducible exact Below.refl _ _ | simp only [Below.drew_iff] | simp only [Below.drewN_iff] | with_reducible refine Below.setCell ?_ (by first | omega | (simp; done) | (simp; omega)) _ | with_reducible refine Below.alloc ?_ (by first | omega | (simp; done) | (simp; omega)) _))) hbm1
  have Mm0_1 : Blk wm1 (w.heap.size) [.int .i64 x, .int .i64 y, .int .i64 z] 23 := Blk.kept (by ((try simp only [Blk.drew_iff]); (try simp only [Blk.drewN_iff]); (try simp only [Blk.drew_iff]); repeat (first | with_reducible assumption | with_reducible exact Blk.new _ _ _ (by first | rfl | (simp; done) | (simp; omega)) | with_reducible refine Blk.alloc ?_ _ | with_reducible refine Blk.far ?_ (by first | (simp; done) | (simp; omega) | omega) _))) hbm1
  have Mm1_1 : Blk wm1 (w.heap.size + 1) [.int .i64 x', .int .i64 y', .int .i64 z'] 23 := Blk.kept (by ((try simp only [Blk.drew_iff]); (try simp only [Blk.drewN_iff]); (try simp only [Blk.drew_iff]); repeat (first | with_reducible assumption | with_reducible exact Blk.new _ _ _ (by first | rfl | (simp; done) | (simp; omega)) | with_reducible refine Blk.alloc ?_ _ | with_reducible refine Blk.far ?_ (by first | (simp; done) | (simp; omega) | omega) _))) hbm1
  have Mm2_1 : Blk wm1 (w2.heap.size) [.int .i64 0, .int .i64 0, .int .i64 0] 23 := Blk.kept (by ((try simp only [Blk.drew_iff]); (try simp only [Blk.drewN_iff]); (try simp only [Blk.drew_iff]); repeat (first | with_reducible assumption | with_reducible exact Blk.new _ _ _ (by first | rfl | (simp; done) | (simp; omega)) | with_reducible refine Blk.alloc ?_ _ | with_reducible refine Blk.far ?_ (by first | (simp; done) | (simp; omega) | omega) _))) hbm1
  have Mm3_1 : Blk wm1 (w3.heap.size) [.int .i64 0, .int .i64 0, .int .i64 0] 23 := Blk.kept (by ((try simp only [Blk.drew_iff]); (try simp only [Blk.drewN_iff]); (try simp only [Blk.drew_iff]); repeat (first | with_reducible assumption | with_reducible exact Blk.new _ _ _ (by first | rfl | (simp; done) | (simp; omega)) | with_reducible refine Blk.alloc ?_ _ | with_reducible refine Blk.far ?_ (by first | (simp; done) | (simp; omega) | omega) _))) hbm1
  clear hbm1
  refine hK.out _ _ ?_ (fun hHeld => ?_)
  focus (refine ⟨Blk.cell (cs := [.int .i64 x, .int .i64 y, .int .i64 z]) (t := 23) ?_ 0 rfl, Blk.cell (cs := [.int .i64 x, .int .i64 y, .int .i64 z]) (t := 23) ?_ 1 rfl, Blk.cell (cs := [.int .i64 x, .int .i64 y, .int .i64 z]) (t := 23) ?_ 2 rfl, Blk.cell (cs := [.int .i64 x', .int .i64 y', .int .i64 z']) (t := 23) ?_ 0 rfl, Blk.cell (cs := [.int .i64 x', .int .i64 y', .int .i64 z']) (t := 23) ?_ 1 rfl, Blk.cell (cs := [.int .i64 x', .int .i64 y', .int .i64 z']) (t := 23) ?_ 2 rfl, Blk.cell (cs := [.int .i64 0, .int .i64 0, .int .i64 0]) (t := 23) ?_ 0 rfl, Blk.cell (cs := [.int .i64 0, .int .i64 0, .int .i64 0]) (t := 23) ?_ 1 rfl, Blk.cell (cs := [.int .i64 0, .int .i64 0, .int .i64 0]) (t := 23) ?_ 2 rfl, Blk.cell (cs := [.int .i64 0, .int .i64 0, .int .i64 0]) (t := 23) ?_ 0 rfl, Blk.cell (cs := [.int .i64 0, .int .i64 0, .int .i64 0]) (t := 23) ?_ 1 rfl, Blk.cell (cs := [.int .i64 0, .int .i64 0, .int .i64 0]) (t := 23) ?_ 2 rfl⟩ <;> ((try simp only [Blk.drew_iff]); (try simp only [Blk.drewN_iff]); (try simp only [Blk.drew_iff]); repeat (first | with_reducible assumption | with_reducible exact Blk.new _ _ _ (by first | rfl | (simp; done) | (simp; omega)) | with_reducible refine Blk.alloc ?_ _ | with_reducible refine Blk.far ?_ (by first | (simp; done) | (simp; omega) | omega) _)))
  clear hK K
  try simp only [List.getElem_toArray, List.getElem_cons_succ, List.getElem_cons_zero, Act.put, List.setIfInBounds_toArray, List.set_cons_zero, List.set_cons_succ]
  refine wpAnyH_take (i := 2) (v := ?_) rfl (by kernel_rfl) (by kernel_rfl) (by kernel_rfl) (fun _ _ _ h => h) (Or.inl ⟨by rfl, ?_⟩) (by assumption) ?_
  rotate_left
  focus (intro wq hSw; (try dsimp only at hSw); go_simp; try with_reducible rfl)
  try simp only [List.getElem_toArray, List.getElem_cons_succ, List.getElem_cons_zero, Act.put, List.setIfInBounds_toArray, List.set_cons_zero, List.set_cons_succ]
  refine wpAnyH_ready (rs := [4]) (by kernel_rfl) (by simp) ?_
  refine AllReadyH.cons rfl (fun K hK => ?_) AllReadyH.nil
  go_simp
  refine (in_e x y z true _ H4.out).mono ?_
  rintro e wm2 ⟨rfl, hbm2⟩
  have accm2 : Below w.heap.size w wm2 := below_step (by (repeat (first | with_reducible assumption | with_reducible exact Below.refl _ _ | simp only [Below.drew_iff] | simp only [Below.drewN_iff] | with_reducible refine Below.setCell ?_ (by first | omega | (simp; done) | (simp; omega)) _ | with_reducible refine Below.alloc ?_ (by first | omega | (simp; done) | (simp; omega)) _))) hbm2
  have Mm0_2 : Blk wm2 (w.heap.size) [.int .i64 x, .int .i64 y, .int .i64 z] 23 := Blk.kept (by ((try simp only [Blk.drew_iff]); (try simp only [Blk.drewN_iff]); (try simp only [Blk.drew_iff]); repeat (first | with_reducible assumption | with_reducible exact Blk.new _ _ _ (by first | rfl | (simp; done) | (simp; omega)) | with_reducible refine Blk.alloc ?_ _ | with_reducible refine Blk.far ?_ (by first | (simp; done) | (simp; omega) | omega) _))) hbm2
  have Mm1_2 : Blk wm2 (w.heap.size + 1) [.int .i64 x', .int .i64 y', .int .i64 z'] 23 := Blk.kept (by ((try simp only [Blk.drew_iff]); (try simp only [Blk.drewN_iff]); (try simp only [Blk.drew_iff]); repeat (first | with_reducible assumption | with_reducible exact Blk.new _ _ _ (by first | rfl | (simp; done) | (simp; omega)) | with_reducible refine Blk.alloc ?_ _ | with_reducible refine Blk.far ?_ (by first | (simp; done) | (simp; omega) | omega) _))) hbm2
  have Mm2_2 : Blk wm2 (w2.heap.size) [.int .i64 0, .int .i64 0, .int .i64 0] 23 := Blk.kept (by ((try simp only [Blk.drew_iff]); (try simp only [Blk.drewN_iff]); (try simp only [Blk.drew_iff]); repeat (first | with_reducible assumption | with_reducible exact Blk.new _ _ _ (by first | rfl | (simp; done) | (simp; omega)) | with_reducible refine Blk.alloc ?_ _ | with_reducible refine Blk.far ?_ (by first | (simp; done) | (simp; omega) | omega) _))) hbm2
  have Mm3_2 : Blk wm2 (w3.heap.size) [.int .i64 0, .int .i64 0, .int .i64 0] 23 := Blk.kept (by ((try simp only [Blk.drew_iff]); (try simp only [Blk.drewN_iff]); (try simp only [Blk.drew_iff]); repeat (first | with_reducible assumption | with_reducible exact Blk.new _ _ _ (by first | rfl | (simp; done) | (simp; omega)) | with_reducible refine Blk.alloc ?_ _ | with_reducible refine Blk.far ?_ (by first | (simp; done) | (simp; omega) | omega) _))) hbm2
  clear hbm2
  refine hK.out _ _ ?_ (fun hHeld => ?_)
  focus (refine ⟨Blk.cell (cs := [.int .i64 x, .int .i64 y, .int .i64 z]) (t := 23) ?_ 0 rfl, Blk.cell (cs := [.int .i64 x, .int .i64 y, .int .i64 z]) (t := 23) ?_ 1 rfl, Blk.cell (cs := [.int .i64 x, .int .i64 y, .int .i64 z]) (t := 23) ?_ 2 rfl, Blk.cell (cs := [.int .i64 x', .int .i64 y', .int .i64 z']) (t := 23) ?_ 0 rfl, Blk.cell (cs := [.int .i64 x', .int .i64 y', .int .i64 z']) (t := 23) ?_ 1 rfl, Blk.cell (cs := [.int .i64 x', .int .i64 y', .int .i64 z']) (t := 23) ?_ 2 rfl, Blk.cell (cs := [.int .i64 0, .int .i64 0, .int .i64 0]) (t := 23) ?_ 0 rfl, Blk.cell (cs := [.int .i64 0, .int .i64 0, .int .i64 0]) (t := 23) ?_ 1 rfl, Blk.cell (cs := [.int .i64 0, .int .i64 0, .int .i64 0]) (t := 23) ?_ 2 rfl, Blk.cell (cs := [.int .i64 0, .int .i64 0, .int .i64 0]) (t := 23) ?_ 0 rfl, Blk.cell (cs := [.int .i64 0, .int .i64 0, .int .i64 0]) (t := 23) ?_ 1 rfl, Blk.cell (cs := [.int .i64 0, .int .i64 0, .int .i64 0]) (t := 23) ?_ 2 rfl⟩ <;> ((try simp only [Blk.drew_iff]); (try simp only [Blk.drewN_iff]); (try simp only [Blk.drew_iff]); repeat (first | with_reducible assumption | with_reducible exact Blk.new _ _ _ (by first | rfl | (simp; done) | (simp; omega)) | with_reducible refine Blk.alloc ?_ _ | with_reducible refine Blk.far ?_ (by first | (simp; done) | (simp; omega) | omega) _)))
  clear hK K
  try simp only [List.getElem_toArray, List.getElem_cons_succ, List.getElem_cons_zero, Act.put, List.setIfInBounds_toArray, List.set_cons_zero, List.set_cons_succ]
  refine wpAnyH_take (i := 5) (v := ?_) rfl (by kernel_rfl) (by kernel_rfl) (by kernel_rfl) (fun _ _ _ h => h) (Or.inl ⟨by rfl, ?_⟩) (by assumption) ?_
  rotate_left
  focus (intro wq hSw; (try dsimp only at hSw); go_simp; try with_reducible rfl)
  try simp only [List.getElem_toArray, List.getElem_cons_succ, List.getElem_cons_zero, Act.put, List.setIfInBounds_toArray, List.set_cons_zero, List.set_cons_succ]
  refine wpAnyH_take (i := 6) (v := ?_) rfl (by kernel_rfl) (by kernel_rfl) (by kernel_rfl) (fun _ _ _ h => h) (Or.inl ⟨by rfl, ?_⟩) (by assumption) ?_
  rotate_left
  focus (intro wq hSw; (try dsimp only at hSw); go_simp; try with_reducible rfl)
  try simp only [List.getElem_toArray, List.getElem_cons_succ, List.getElem_cons_zero, Act.put, List.setIfInBounds_toArray, List.set_cons_zero, List.set_cons_succ]
  refine wpAnyH_take (i := 7) (v := ?_) rfl (by kernel_rfl) (by kernel_rfl) (by kernel_rfl) (fun _ _ _ h => h) (Or.inl ⟨by rfl, ?_⟩) (by assumption) ?_
  rotate_left
  focus (intro wq hSw; (try dsimp only at hSw); go_simp; try with_reducible rfl)
  try simp only [List.getElem_toArray, List.getElem_cons_succ, List.getElem_cons_zero, Act.put, List.setIfInBounds_toArray, List.set_cons_zero, List.set_cons_succ]
  refine wpAnyH_ready (rs := [8]) (by kernel_rfl) (by simp) ?_
  refine AllReadyH.cons rfl (fun K hK => ?_) AllReadyH.nil
  go_simp
  refine (vcheck_ee x y z 0 _ H3.out).mono ?_
  rintro e wm3 ⟨rfl, hbm3⟩
  have accm3 : Below w.heap.size w wm3 := below_step (by (repeat (first | with_reducible assumption | with_reducible exact Below.refl _ _ | simp only [Below.drew_iff] | simp only [Below.drewN_iff] | with_reducible refine Below.setCell ?_ (by first | omega | (simp; done) | (simp; omega)) _ | with_reducible refine Below.alloc ?_ (by first | omega | (simp; done) | (simp; omega)) _))) hbm3
  have Mm0_3 : Blk wm3 (w.heap.size) [.int .i64 x, .int .i64 y, .int .i64 z] 23 := Blk.kept (by ((try simp only [Blk.drew_iff]); (try simp only [Blk.drewN_iff]); (try simp only [Blk.drew_iff]); repeat (first | with_reducible assumption | with_reducible exact Blk.new _ _ _ (by first | rfl | (simp; done) | (simp; omega)) | with_reducible refine Blk.alloc ?_ _ | with_reducible refine Blk.far ?_ (by first | (simp; done) | (simp; omega) | omega) _))) hbm3
  have Mm1_3 : Blk wm3 (w.heap.size + 1) [.int .i64 x', .int .i64 y', .int .i64 z'] 23 := Blk.kept (by ((try simp only [Blk.drew_iff]); (try simp only [Blk.drewN_iff]); (try simp only [Blk.drew_iff]); repeat (first | with_reducible assumption | with_reducible exact Blk.new _ _ _ (by first | rfl | (simp; done) | (simp; omega)) | with_reducible refine Blk.alloc ?_ _ | with_reducible refine Blk.far ?_ (by first | (simp; done) | (simp; omega) | omega) _))) hbm3
  have Mm2_3 : Blk wm3 (w2.heap.size) [.int .i64 0, .int .i64 0, .int .i64 0] 23 := Blk.kept (by ((try simp only [Blk.drew_iff]); (try simp only [Blk.drewN_iff]); (try simp only [Blk.drew_iff]); repeat (first | with_reducible assumption | with_reducible exact Blk.new _ _ _ (by first | rfl | (simp; done) | (simp; omega)) | with_reducible refine Blk.alloc ?_ _ | with_reducible refine Blk.far ?_ (by first | (simp; done) | (simp; omega) | omega) _))) hbm3
  have Mm3_3 : Blk wm3 (w3.heap.size) [.int .i64 0, .int .i64 0, .int .i64 0] 23 := Blk.kept (by ((try simp only [Blk.drew_iff]); (try simp only [Blk.drewN_iff]); (try simp only [Blk.drew_iff]); repeat (first | with_reducible assumption | with_reducible exact Blk.new _ _ _ (by first | rfl | (simp; done) | (simp; omega)) | with_reducible refine Blk.alloc ?_ _ | with_reducible refine Blk.far ?_ (by first | (simp; done) | (simp; omega) | omega) _))) hbm3
  clear hbm3
  refine hK.out _ _ ?_ (fun hHeld => ?_)
  focus (refine ⟨Blk.cell (cs := [.int .i64 x, .int .i64 y, .int .i64 z]) (t := 23) ?_ 0 rfl, Blk.cell (cs := [.int .i64 x, .int .i64 y, .int .i64 z]) (t := 23) ?_ 1 rfl, Blk.cell (cs := [.int .i64 x, .int .i64 y, .int .i64 z]) (t := 23) ?_ 2 rfl, Blk.cell (cs := [.int .i64 x', .int .i64 y', .int .i64 z']) (t := 23) ?_ 0 rfl, Blk.cell (cs := [.int .i64 x', .int .i64 y', .int .i64 z']) (t := 23) ?_ 1 rfl, Blk.cell (cs := [.int .i64 x', .int .i64 y', .int .i64 z']) (t := 23) ?_ 2 rfl, Blk.cell (cs := [.int .i64 0, .int .i64 0, .int .i64 0]) (t := 23) ?_ 0 rfl, Blk.cell (cs := [.int .i64 0, .int .i64 0, .int .i64 0]) (t := 23) ?_ 1 rfl, Blk.cell (cs := [.int .i64 0, .int .i64 0, .int .i64 0]) (t := 23) ?_ 2 rfl, Blk.cell (cs := [.int .i64 0, .int .i64 0, .int .i64 0]) (t := 23) ?_ 0 rfl, Blk.cell (cs := [.int .i64 0, .int .i64 0, .int .i64 0]) (t := 23) ?_ 1 rfl, Blk.cell (cs := [.int .i64 0, .int .i64 0, .int .i64 0]) (t := 23) ?_ 2 rfl⟩ <;> ((try simp only [Blk.drew_iff]); (try simp only [Blk.drewN_iff]); (try simp only [Blk.drew_iff]); repeat (first | with_reducible assumption | with_reducible exact Blk.new _ _ _ (by first | rfl | (simp; done) | (simp; omega)) | with_reducible refine Blk.alloc ?_ _ | with_reducible refine Blk.far ?_ (by first | (simp; done) | (simp; omega) | omega) _)))
  clear hK K
  try simp only [List.getElem_toArray, List.getElem_cons_succ, List.getElem_cons_zero, Act.put, List.setIfInBounds_toArray, List.set_cons_zero, List.set_cons_succ]
  refine wpAnyH_take (i := 9) (v := ?_) rfl (by kernel_rfl) (by kernel_rfl) (by kernel_rfl) (fun _ _ _ h => h) (Or.inl ⟨by rfl, ?_⟩) (by assumption) ?_
  rotate_left
  focus (intro wq hSw; (try dsimp only at hSw); go_simp; try with_reducible rfl)
  try simp only [List.getElem_toArray, List.getElem_cons_succ, List.getElem_cons_zero, Act.put, List.setIfInBounds_toArray, List.set_cons_zero, List.set_cons_succ]
  refine wpAnyH_take (i := 10) (v := ?_) rfl (by kernel_rfl) (by kernel_rfl) (by kernel_rfl) (fun _ _ _ h => h) (Or.inl ⟨by rfl, ?_⟩) (by assumption) ?_
  rotate_left
  focus (intro wq hSw; (try dsimp only at hSw); go_simp; try with_reducible rfl)
  try simp only [List.getElem_toArray, List.getElem_cons_succ, List.getElem_cons_zero, Act.put, List.setIfInBounds_toArray, List.set_cons_zero, List.set_cons_succ]
  refine wpAnyH_take (i := 11) (v := undef) rfl (by kernel_rfl) (by kernel_rfl) (by kernel_rfl) (fun _ _ _ h => h) (Or.inr ⟨by rfl, rfl⟩) (by assumption) ?_
  try simp only [List.getElem_toArray, List.getElem_cons_succ, List.getElem_cons_zero, Act.put, List.setIfInBounds_toArray, List.set_cons_zero, List.set_cons_succ]
  refine wpAnyH_take (i := 12) (v := undef) rfl (by kernel_rfl) (by kernel_rfl) (by kernel_rfl) (fun _ _ _ h => h) (Or.inr ⟨by rfl, rfl⟩) (by assumption) ?_
  try simp only [List.getElem_toArray, List.getElem_cons_succ, List.getElem_cons_zero, Act.put, List.setIfInBounds_toArray, List.set_cons_zero, List.set_cons_succ]
  refine wpAnyH_take (i := 13) (v := undef) rfl (by kernel_rfl) (by kernel_rfl) (by kernel_rfl) (fun _ _ _ h => h) (Or.inr ⟨by rfl, rfl⟩) (by assumption) ?_
  try simp only [List.getElem_toArray, List.getElem_cons_succ, List.getElem_cons_zero, Act.put, List.setIfInBounds_toArray, List.set_cons_zero, List.set_cons_succ]
  refine wpAnyH_take (i := 14) (v := ?_) rfl (by kernel_rfl) (by kernel_rfl) (by kernel_rfl) (fun _ _ _ h => h) (Or.inl ⟨by rfl, ?_⟩) (by assumption) ?_
  rotate_left
  focus (intro wq hSw; (try dsimp only at hSw); go_simp; try with_reducible rfl)
  try simp only [List.getElem_toArray, List.getElem_cons_succ, List.getElem_cons_zero, Act.put, List.setIfInBounds_toArray, List.set_cons_zero, List.set_cons_succ]
  refine wpAnyH_take (i := 15) (v := ?_) rfl (by kernel_rfl) (by kernel_rfl) (by kernel_rfl) (fun _ _ _ h => h) (Or.inl ⟨by rfl, ?_⟩) (by assumption) ?_
  rotate_left
  focus (intro wq hSw; (try dsimp only at hSw); go_simp; try with_reducible rfl)
  try simp only [List.getElem_toArray, List.getElem_cons_succ, List.getElem_cons_zero, Act.put, List.setIfInBounds_toArray, List.set_cons_zero, List.set_cons_succ]
  refine wpAnyH_take (i := 16) (v := ?_) rfl (by kernel_rfl) (by kernel_rfl) (by kernel_rfl) (fun _ _ _ h => h) (Or.inl ⟨by rfl, ?_⟩) (by assumption) ?_
  rotate_left
  focus (intro wq hSw; (try dsimp only at hSw); go_simp; try with_reducible rfl)
  try simp only [List.getElem_toArray, List.getElem_cons_succ, List.getElem_cons_zero, Act.put, List.setIfInBounds_toArray, List.set_cons_zero, List.set_cons_succ]
  refine wpAnyH_take (i := 17) (v := ?_) rfl (by kernel_rfl) (by kernel_rfl) (by kernel_rfl) (fun _ _ _ h => h) (Or.inl ⟨by rfl, ?_⟩) (by assumption) ?_
  rotate_left
  focus (intro wq hSw; (try dsimp only at hSw); go_simp; try with_reducible rfl)
  try simp only [List.getElem_toArray, List.getElem_cons_succ, List.getElem_cons_zero, Act.put, List.setIfInBounds_toArray, List.set_cons_zero, List.set_cons_succ]
  refine wpAnyH_take (i := 18) (v := ?_) rfl (by kernel_rfl) (by kernel_rfl) (by kernel_rfl) (fun _ _ _ h => h) (Or.inl ⟨by rfl, ?_⟩) (by assumption) ?_
  rotate_left
  focus (intro wq hSw; (try dsimp only at hSw); go_simp; try with_reducible rfl)
  try simp only [List.getElem_toArray, List.getElem_cons_succ, List.getElem_cons_zero, Act.put, List.setIfInBounds_toArray, List.set_cons_zero, List.set_cons_succ]
  refine wpAnyH_take (i := 20) (v := ?_) rfl (by kernel_rfl) (by kernel_rfl) (by kernel_rfl) (fun _ _ _ h => h) (Or.inl ⟨by rfl, ?_⟩) (by assumption) ?_
  rotate_left
  focus (intro wq hSw; (try dsimp only at hSw); go_simp; try with_reducible rfl)
  try simp only [List.getElem_toArray, List.getElem_cons_succ, List.getElem_cons_zero, Act.put, List.setIfInBounds_toArray, List.set_cons_zero, List.set_cons_succ]
  refine wpAnyH_take (i := 21) (v := ?_) rfl (by kernel_rfl) (by kernel_rfl) (by kernel_rfl) (fun _ _ _ h => h) (Or.inl ⟨by rfl, ?_⟩) (by assumption) ?_
  rotate_left
  focus (intro wq hSw; (try dsimp only at hSw); go_simp; try with_reducible rfl)
  try simp only [List.getElem_toArray, List.getElem_cons_succ, List.getElem_cons_zero, Act.put, List.setIfInBounds_toArray, List.set_cons_zero, List.set_cons_succ]
  refine wpAnyH_ready (rs := [19]) (by kernel_rfl) (by simp) ?_
  refine AllReadyH.cons rfl (fun K hK => ?_) AllReadyH.nil
  go_simp
  refine (vcompare_e x y z x' y' z' m _ H5.out).mono ?_
  rintro e wm4 ⟨rfl, hbm4⟩
  have accm4 : Below w.heap.size w wm4 := below_step (by (repeat (first | with_reducible assumption | with_reducible exact Below.refl _ _ | simp only [Below.drew_iff] | simp only [Below.drewN_iff] | with_reducible refine Below.setCell ?_ (by first | omega | (simp; done) | (simp; omega)) _ | with_reducible refine Below.alloc ?_ (by first | omega | (simp; done) | (simp; omega)) _))) hbm4
  have Mm0_4 : Blk wm4 (w.heap.size) [.int .i64 x, .int .i64 y, .int .i64 z] 23 := Blk.kept (by ((try simp only [Blk.drew_iff]); (try simp only [Blk.drewN_iff]); (try simp only [Blk.drew_iff]); repeat (first | with_reducible assumption | with_reducible exact Blk.new _ _ _ (by first | rfl | (simp; done) | (simp; omega)) | with_reducible refine Blk.alloc ?_ _ | with_reducible refine Blk.far ?_ (by first | (simp; done) | (simp; omega) | omega) _))) hbm4
  have Mm1_4 : Blk wm4 (w.heap.size + 1) [.int .i64 x', .int .i64 y', .int .i64 z'] 23 := Blk.kept (by ((try simp only [Blk.drew_iff]); (try simp only [Blk.drewN_iff]); (try simp only [Blk.drew_iff]); repeat (first | with_reducible assumption | with_reducible exact Blk.new _ _ _ (by first | rfl | (simp; done) | (simp; omega)) | with_reducible refine Blk.alloc ?_ _ | with_reducible refine Blk.far ?_ (by first | (simp; done) | (simp; omega) | omega) _))) hbm4
  have Mm2_4 : Blk wm4 (w2.heap.size) [.int .i64 0, .int .i64 0, .int .i64 0] 23 := Blk.kept (by ((try simp only [Blk.drew_iff]); (try simp only [Blk.drewN_iff]); (try simp only [Blk.drew_iff]); repeat (first | with_reducible assumption | with_reducible exact Blk.new _ _ _ (by first | rfl | (simp; done) | (simp; omega)) | with_reducible refine Blk.alloc ?_ _ | with_reducible refine Blk.far ?_ (by first | (simp; done) | (simp; omega) | omega) _))) hbm4
  have Mm3_4 : Blk wm4 (w3.heap.size) [.int .i64 0, .int .i64 0, .int .i64 0] 23 := Blk.kept (by ((try simp only [Blk.drew_iff]); (try simp only [Blk.drewN_iff]); (try simp only [Blk.drew_iff]); repeat (first | with_reducible assumption | with_reducible exact Blk.new _ _ _ (by first | rfl | (simp; done) | (simp; omega)) | with_reducible refine Blk.alloc ?_ _ | with_reducible refine Blk.far ?_ (by first | (simp; done) | (simp; omega) | omega) _))) hbm4
  clear hbm4
  refine hK.out _ _ ?_ (fun hHeld => ?_)
  focus (refine ⟨Blk.cell (cs := [.int .i64 x, .int .i64 y, .int .i64 z]) (t := 23) ?_ 0 rfl, Blk.cell (cs := [.int .i64 x, .int .i64 y, .int .i64 z]) (t := 23) ?_ 1 rfl, Blk.cell (cs := [.int .i64 x, .int .i64 y, .int .i64 z]) (t := 23) ?_ 2 rfl, Blk.cell (cs := [.int .i64 x', .int .i64 y', .int .i64 z']) (t := 23) ?_ 0 rfl, Blk.cell (cs := [.int .i64 x', .int .i64 y', .int .i64 z']) (t := 23) ?_ 1 rfl, Blk.cell (cs := [.int .i64 x', .int .i64 y', .int .i64 z']) (t := 23) ?_ 2 rfl, Blk.cell (cs := [.int .i64 0, .int .i64 0, .int .i64 0]) (t := 23) ?_ 0 rfl, Blk.cell (cs := [.int .i64 0, .int .i64 0, .int .i64 0]) (t := 23) ?_ 1 rfl, Blk.cell (cs := [.int .i64 0, .int .i64 0, .int .i64 0]) (t := 23) ?_ 2 rfl, Blk.cell (cs := [.int .i64 0, .int .i64 0, .int .i64 0]) (t := 23) ?_ 0 rfl, Blk.cell (cs := [.int .i64 0, .int .i64 0, .int .i64 0]) (t := 23) ?_ 1 rfl, Blk.cell (cs := [.int .i64 0, .int .i64 0, .int .i64 0]) (t := 23) ?_ 2 rfl⟩ <;> ((try simp only [Blk.drew_iff]); (try simp only [Blk.drewN_iff]); (try simp only [Blk.drew_iff]); repeat (first | with_reducible assumption | with_reducible exact Blk.new _ _ _ (by first | rfl | (simp; done) | (simp; omega)) | with_reducible refine Blk.alloc ?_ _ | with_reducible refine Blk.far ?_ (by first | (simp; done) | (simp; omega) | omega) _)))
  clear hK K
  try simp only [List.getElem_toArray, List.getElem_cons_succ, List.getElem_cons_zero, Act.put, List.setIfInBounds_toArray, List.set_cons_zero, List.set_cons_succ]
  refine wpAnyH_ready (rs := [22]) (by kernel_rfl) (by simp) ?_
  refine AllReadyH.cons rfl (fun K hK => ?_) AllReadyH.nil
  go_simp
  refine (refCompare_e x y z x' y' z' m _ H5.out).mono ?_
  rintro e wm5 ⟨rfl, hbm5⟩
  have accm5 : Below w.heap.size w wm5 := below_step (by (repeat (first | with_reducible assumption | with_reducible exact Below.refl _ _ | simp only [Below.drew_iff] | simp only [Below.drewN_iff] | with_reducible refine Below.setCell ?_ (by first | omega | (simp; done) | (simp; omega)) _ | with_reducible refine Below.alloc ?_ (by first | omega | (simp; done) | (simp; omega)) _))) hbm5
  have Mm0_5 : Blk wm5 (w.heap.size) [.int .i64 x, .int .i64 y, .int .i64 z] 23 := Blk.kept (by ((try simp only [Blk.drew_iff]); (try simp only [Blk.drewN_iff]); (try simp only [Blk.drew_iff]); repeat (first | with_reducible assumption | with_reducible exact Blk.new _ _ _ (by first | rfl | (simp; done) | (simp; omega)) | with_reducible refine Blk.alloc ?_ _ | with_reducible refine Blk.far ?_ (by first | (simp; done) | (simp; omega) | omega) _))) hbm5
  have Mm1_5 : Blk wm5 (w.heap.size + 1) [.int .i64 x', .int .i64 y', .int .i64 z'] 23 := Blk.kept (by ((try simp only [Blk.drew_iff]); (try simp only [Blk.drewN_iff]); (try simp only [Blk.drew_iff]); repeat (first | with_reducible assumption | with_reducible exact Blk.new _ _ _ (by first | rfl | (simp; done) | (simp; omega)) | with_reducible refine Blk.alloc ?_ _ | with_reducible refine Blk.far ?_ (by first | (simp; done) | (simp; omega) | omega) _))) hbm5
  have Mm2_5 : Blk wm5 (w2.heap.size) [.int .i64 0, .int .i64 0, .int .i64 0] 23 := Blk.kept (by ((try simp only [Blk.drew_iff]); (try simp only [Blk.drewN_iff]); (try simp only [Blk.drew_iff]); repeat (first | with_reducible assumption | with_reducible exact Blk.new _ _ _ (by first | rfl | (simp; done) | (simp; omega)) | with_reducible refine Blk.alloc ?_ _ | with_reducible refine Blk.far ?_ (by first | (simp; done) | (simp; omega) | omega) _))) hbm5
  have Mm3_5 : Blk wm5 (w3.heap.size) [.int .i64 0, .int .i64 0, .int .i64 0] 23 := Blk.kept (by ((try simp only [Blk.drew_iff]); (try simp only [Blk.drewN_iff]); (try simp only [Blk.drew_iff]); repeat (first | with_reducible assumption | with_reducible exact Blk.new _ _ _ (by first | rfl | (simp; done) | (simp; omega)) | with_reducible refine Blk.alloc ?_ _ | with_reducible refine Blk.far ?_ (by first | (simp; done) | (simp; omega) | omega) _))) hbm5
  clear hbm5
  refine hK.out _ _ ?_ (fun hHeld => ?_)
  focus (refine ⟨Blk.cell (cs := [.int .i64 x, .int .i64 y, .int .i64 z]) (t := 23) ?_ 0 rfl, Blk.cell (cs := [.int .i64 x, .int .i64 y, .int .i64 z]) (t := 23) ?_ 1 rfl, Blk.cell (cs := [.int .i64 x, .int .i64 y, .int .i64 z]) (t := 23) ?_ 2 rfl, Blk.cell (cs := [.int .i64 x', .int .i64 y', .int .i64 z']) (t := 23) ?_ 0 rfl, Blk.cell (cs := [.int .i64 x', .int .i64 y', .int .i64 z']) (t := 23) ?_ 1 rfl, Blk.cell (cs := [.int .i64 x', .int .i64 y', .int .i64 z']) (t := 23) ?_ 2 rfl, Blk.cell (cs := [.int .i64 0, .int .i64 0, .int .i64 0]) (t := 23) ?_ 0 rfl, Blk.cell (cs := [.int .i64 0, .int .i64 0, .int .i64 0]) (t := 23) ?_ 1 rfl, Blk.cell (cs := [.int .i64 0, .int .i64 0, .int .i64 0]) (t := 23) ?_ 2 rfl, Blk.cell (cs := [.int .i64 0, .int .i64 0, .int .i64 0]) (t := 23) ?_ 0 rfl, Blk.cell (cs := [.int .i64 0, .int .i64 0, .int .i64 0]) (t := 23) ?_ 1 rfl, Blk.cell (cs := [.int .i64 0, .int .i64 0, .int .i64 0]) (t := 23) ?_ 2 rfl⟩ <;> ((try simp only [Blk.drew_iff]); (try simp only [Blk.drewN_iff]); (try simp only [Blk.drew_iff]); repeat (first | with_reducible assumption | with_reducible exact Blk.new _ _ _ (by first | rfl | (simp; done) | (simp; omega)) | with_reducible refine Blk.alloc ?_ _ | with_reducible refine Blk.far ?_ (by first | (simp; done) | (simp; omega) | omega) _)))
  clear hK K
  try simp only [List.getElem_toArray, List.getElem_cons_succ, List.getElem_cons_zero, Act.put, List.setIfInBounds_toArray, List.set_cons_zero, List.set_cons_succ]
  refine wpAnyH_take (i := 23) (v := ?_) rfl (by kernel_rfl) (by kernel_rfl) (by kernel_rfl) (fun _ _ _ h => h) (Or.inl ⟨by rfl, ?_⟩) (by assumption) ?_
  rotate_left
  focus (intro wq hSw; (try dsimp only at hSw); go_simp; try with_reducible rfl)
  try simp only [List.getElem_toArray, List.getElem_cons_succ, List.getElem_cons_zero, Act.put, List.setIfInBounds_toArray, List.set_cons_zero, List.set_cons_succ]
  refine wpAnyH_take (i := 24) (v := ?_) rfl (by kernel_rfl) (by kernel_rfl) (by kernel_rfl) (fun _ _ _ h => h) (Or.inl ⟨by rfl, ?_⟩) (by assumption) ?_
  rotate_left
  focus (intro wq hSw; (try dsimp only at hSw); go_simp; try with_reducible rfl)
  try simp only [List.getElem_toArray, List.getElem_cons_succ, List.getElem_cons_zero, Act.put, List.setIfInBounds_toArray, List.set_cons_zero, List.set_cons_succ]
  refine wpAnyH_done (by kernel_rfl) ?_ _
  refine NoPanic.normal ?_
  have lm0 := Mm0_5.lt
  have lm1 := Mm1_5.lt
  have lm2 := Mm2_5.lt
  have lm3 := Mm3_5.lt
  have zzm5 := accm5.size
  obtain ⟨g0_0, g0_1, g0_2, g0_3, g0_4, g0_5⟩ := Mm0_5.three
  obtain ⟨g1_0, g1_1, g1_2, g1_3, g1_4, g1_5⟩ := Mm1_5.three
  obtain ⟨g2_0, g2_1, g2_2, g2_3, g2_4, g2_5⟩ := Mm2_5.three
  obtain ⟨g3_0, g3_1, g3_2, g3_3, g3_4, g3_5⟩ := Mm3_5.three
  go_wp2_with fail
  refine (in_e x y z true _ H4.out).mono ?_
  rintro e wn1 ⟨rfl, hbn1⟩
  have accn1 : Below w.heap.size w wn1 := below_step (by (repeat (first | with_reducible assumption | with_reducible exact Below.refl _ _ | simp only [Below.drew_iff] | simp only [Below.drewN_iff] | with_reducible refine Below.setCell ?_ (by first | omega | (simp; done) | (simp; omega)) _ | with_reducible refine Below.alloc ?_ (by first | omega | (simp; done) | (simp; omega)) _))) hbn1
  have zzn1 := accn1.size
  have Ln0_1 : Blk wn1 (w.heap.size) [.int .i64 x, .int .i64 y, .int .i64 z] 23 := Blk.kept (by ((try simp only [Blk.drew_iff]); (try simp only [Blk.drewN_iff]); (try simp only [Blk.drew_iff]); repeat (first | with_reducible assumption | with_reducible exact Blk.new _ _ _ (by first | rfl | (simp; done) | (simp; omega)) | with_reducible refine Blk.alloc ?_ _ | with_reducible refine Blk.far ?_ (by first | (simp; done) | (simp; omega) | omega) _))) hbn1
  have Ln1_1 : Blk wn1 (w.heap.size + 1) [.int .i64 x', .int .i64 y', .int .i64 z'] 23 := Blk.kept (by ((try simp only [Blk.drew_iff]); (try simp only [Blk.drewN_iff]); (try simp only [Blk.drew_iff]); repeat (first | with_reducible assumption | with_reducible exact Blk.new _ _ _ (by first | rfl | (simp; done) | (simp; omega)) | with_reducible refine Blk.alloc ?_ _ | with_reducible refine Blk.far ?_ (by first | (simp; done) | (simp; omega) | omega) _))) hbn1
  have Ln2_1 : Blk wn1 (w2.heap.size) [.int .i64 0, .int .i64 0, .int .i64 0] 23 := Blk.kept (by ((try simp only [Blk.drew_iff]); (try simp only [Blk.drewN_iff]); (try simp only [Blk.drew_iff]); repeat (first | with_reducible assumption | with_reducible exact Blk.new _ _ _ (by first | rfl | (simp; done) | (simp; omega)) | with_reducible refine Blk.alloc ?_ _ | with_reducible refine Blk.far ?_ (by first | (simp; done) | (simp; omega) | omega) _))) hbn1
  have Ln3_1 : Blk wn1 (w3.heap.size) [.int .i64 0, .int .i64 0, .int .i64 0] 23 := Blk.kept (by ((try simp only [Blk.drew_iff]); (try simp only [Blk.drewN_iff]); (try simp only [Blk.drew_iff]); repeat (first | with_reducible assumption | with_reducible exact Blk.new _ _ _ (by first | rfl | (simp; done) | (simp; omega)) | with_reducible refine Blk.alloc ?_ _ | with_reducible refine Blk.far ?_ (by first | (simp; done) | (simp; omega) | omega) _))) hbn1
  clear hbn1
  have ln0_1 := Ln0_1.lt
  obtain ⟨fn0_1_0, fn0_1_1, fn0_1_2, fn0_1_3, fn0_1_4, fn0_1_5⟩ := Ln0_1.three
  have ln1_1 := Ln1_1.lt
  obtain ⟨fn1_1_0, fn1_1_1, fn1_1_2, fn1_1_3, fn1_1_4, fn1_1_5⟩ := Ln1_1.three
  have ln2_1 := Ln2_1.lt
  obtain ⟨fn2_1_0, fn2_1_1, fn2_1_2, fn2_1_3, fn2_1_4, fn2_1_5⟩ := Ln2_1.three
  have ln3_1 := Ln3_1.lt
  obtain ⟨fn3_1_0, fn3_1_1, fn3_1_2, fn3_1_3, fn3_1_4, fn3_1_5⟩ := Ln3_1.three
  go_wp2_with fail
  refine (in_e x' y' z' false _ H6.out).mono ?_
  rintro e wn2 ⟨rfl, hbn2⟩
  have accn2 : Below w.heap.size w wn2 := below_step (by (repeat (first | with_reducible assumption | with_reducible exact Below.refl _ _ | simp only [Below.drew_iff] | simp only [Below.drewN_iff] | with_reducible refine Below.setCell ?_ (by first | omega | (simp; done) | (simp; omega)) _ | with_reducible refine Below.alloc ?_ (by first | omega | (simp; done) | (simp; omega)) _))) hbn2
  have zzn2 := accn2.size
  have Ln0_2 : Blk wn2 (w.heap.size) [.int .i64 x, .int .i64 y, .int .i64 z] 23 := Blk.kept (by ((try simp only [Blk.drew_iff]); (try simp only [Blk.drewN_iff]); (try simp only [Blk.drew_iff]); repeat (first | with_reducible assumption | with_reducible exact Blk.new _ _ _ (by first | rfl | (simp; done) | (simp; omega)) | with_reducible refine Blk.alloc ?_ _ | with_reducible refine Blk.far ?_ (by first | (simp; done) | (simp; omega) | omega) _))) hbn2
  have Ln1_2 : Blk wn2 (w.heap.size + 1) [.int .i64 x', .int .i64 y', .int .i64 z'] 23 := Blk.kept (by ((try simp only [Blk.drew_iff]); (try simp only [Blk.drewN_iff]); (try simp only [Blk.drew_iff]); repeat (first | with_reducible assumption | with_reducible exact Blk.new _ _ _ (by first | rfl | (simp; done) | (simp; omega)) | with_reducible refine Blk.alloc ?_ _ | with_reducible refine Blk.far ?_ (by first | (simp; done) | (simp; omega) | omega) _))) hbn2
  have Ln2_2 : Blk wn2 (w2.heap.size) [.int .i64 0, .int .i64 0, .int .i64 0] 23 := Blk.kept (by ((try simp only [Blk.drew_iff]); (try simp only [Blk.drewN_iff]); (try simp only [Blk.drew_iff]); repeat (first | with_reducible assumption | with_reducible exact Blk.new _ _ _ (by first | rfl | (simp; done) | (simp; omega)) | with_reducible refine Blk.alloc ?_ _ | with_reducible refine Blk.far ?_ (by first | (simp; done) | (simp; omega) | omega) _))) hbn2
  have Ln3_2 : Blk wn2 (w3.heap.size) [.int .i64 0, .int .i64 0, .int .i64 0] 23 := Blk.kept (by ((try simp only [Blk.drew_iff]); (try simp only [Blk.drewN_iff]); (try simp only [Blk.drew_iff]); repeat (first | with_reducible assumption | with_reducible exact Blk.new _ _ _ (by first | rfl | (simp; done) | (simp; omega)) | with_reducible refine Blk.alloc ?_ _ | with_reducible refine Blk.far ?_ (by first | (simp; done) | (simp; omega) | omega) _))) hbn2
  clear hbn2
  clear Ln0_1 ln0_1 fn0_1_0 fn0_1_1 fn0_1_2 fn0_1_3 fn0_1_4 fn0_1_5 Ln1_1 ln1_1 fn1_1_0 fn1_1_1 fn1_1_2 fn1_1_3 fn1_1_4 fn1_1_5 Ln2_1 ln2_1 fn2_1_0 fn2_1_1 fn2_1_2 fn2_1_3 fn2_1_4 fn2_1_5 Ln3_1 ln3_1 fn3_1_0 fn3_1_1 fn3_1_2 fn3_1_3 fn3_1_4 fn3_1_5
  have ln0_2 := Ln0_2.lt
  obtain ⟨fn0_2_0, fn0_2_1, fn0_2_2, fn0_2_3, fn0_2_4, fn0_2_5⟩ := Ln0_2.three
  have ln1_2 := Ln1_2.lt
  obtain ⟨fn1_2_0, fn1_2_1, fn1_2_2, fn1_2_3, fn1_2_4, fn1_2_5⟩ := Ln1_2.three
  have ln2_2 := Ln2_2.lt
  obtain ⟨fn2_2_0, fn2_2_1, fn2_2_2, fn2_2_3, fn2_2_4, fn2_2_5⟩ := Ln2_2.three
  have ln3_2 := Ln3_2.lt
  obtain ⟨fn3_2_0, fn3_2_1, fn3_2_2, fn3_2_3, fn3_2_4, fn3_2_5⟩ := Ln3_2.three
  go_wp2
  go_ret
  exact ⟨rfl, accn2⟩

end Go.Proofs.Ytnhoabehemnpnaa
