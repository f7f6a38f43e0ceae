/- The examples of the chapter on vectors: the statements' first test. -/
import Derived.Test.YtnhoabehemnpnaaVFa
import Derived.Test.YtnhoabehemnpnaaVFb
import Derived.Test.YtnhoabehemnpnaaVFc
import Derived.Test.YtnhoabehemnpnaaVP
import Derived.Test.YtnhoabehemnpnaaVT5
import Derived.Test.YtnhoabehemnpnaaVE
namespace Go.Proofs.Ytnhoabehemnpnaa
open Go.RowKit
attribute [local go_sem ↓] Go.wp_at_zero Go.wp_at_succ

theorem ex_dot : dotV 1 2 3 4 5 6 = .tuple #[.int .i64 32, .int .i64 0] := by unfold dotV; rw [if_pos (by decide)]; rfl
theorem ex_cross : crossV 1 2 3 4 5 6 = .tuple #[v3 (-3) 6 (-3), .int .i64 0] := by unfold crossV; rw [if_pos (by decide)]; rfl
theorem ex_prim : primV 6 (-9) 0 = .tuple #[v3 2 (-3) 0, .int .i64 3, .int .i64 0] := by
  unfold primV; rw [if_pos (by decide), if_neg (by decide)]
  have e : gcd3 6 (-9) 0 = 3 := by decide +kernel
  rw [e]; rfl
theorem ex_turn : turnV 0 0 10 0 5 1 = .tuple #[.int .i64 1, .int .i64 0] := by
  unfold turnV; rw [if_pos (by decide)]
  have e : turnM (0, 0) (10, 0) (5, 1) = 1 := by decide
  rw [e]
theorem ex_meet : meetV 0 0 10 10 0 10 10 0 = .tuple #[.int .i64 1, .int .i64 0] := by
  unfold meetV; rw [if_pos (by decide)]
  have e : meetM (0, 0) (10, 10) (0, 10) (10, 0) = 1 := by decide
  rw [e]
theorem ex_on : onV 0 0 10 0 5 0 = .tuple #[.bool true, .int .i64 0] := by
  unfold onV; rw [if_pos (by decide)]
  have e : onB (0, 0) (10, 0) (5, 0) = true := by decide
  rw [e]
theorem ex_cmp : cmpV 0 0 0 0 0 1 = -1 := by decide
theorem at_dot (w : World) : Calls Try.prog 22 #[v3 1 2 3, v3 4 5 6] w fun e w' => e = .returned (.tuple #[.int .i64 32, .int .i64 0]) ∧ Below w.heap.size w w' := ex_dot ▸ vdot_any 1 2 3 4 5 6 w
theorem at_cross (w : World) : Calls Try.prog 23 #[v3 1 2 3, v3 4 5 6] w fun e w' => e = .returned (.tuple #[v3 (-3) 6 (-3), .int .i64 0]) ∧ Below w.heap.size w w' := ex_cross ▸ vcross_any 1 2 3 4 5 6 w
theorem at_prim (w : World) : Calls Try.prog 27 #[v3 6 (-9) 0] w fun e w' => e = .returned (.tuple #[v3 2 (-3) 0, .int .i64 3, .int .i64 0]) ∧ Below w.heap.size w w' := ex_prim ▸ primitive_any 6 (-9) 0 w
theorem at_turn (w : World) : Calls Try.prog 29 #[v2 0 0, v2 10 0, v2 5 1] w fun e w' => e = .returned (.tuple #[.int .i64 1, .int .i64 0]) ∧ Below w.heap.size w w' := ex_turn ▸ vturn_any 0 0 10 0 5 1 w
theorem at_meet (w : World) : Calls Try.prog 34 #[v2 0 0, v2 10 10, v2 0 10, v2 10 0] w fun e w' => e = .returned (.tuple #[.int .i64 1, .int .i64 0]) ∧ Below w.heap.size w w' := ex_meet ▸ vmeet_any 0 0 10 10 0 10 10 0 w
theorem at_on (w : World) : Calls Try.prog 30 #[v2 0 0, v2 10 0, v2 5 0] w fun e w' => e = .returned (.tuple #[.bool true, .int .i64 0]) ∧ Below w.heap.size w w' := ex_on ▸ von_any 0 0 10 0 5 0 w
theorem at_cmp (w : World) : Calls Try.prog 17 #[v3 0 0 0, v3 0 0 1] w fun e w' => e = .returned (.int .i64 (-1)) ∧ Below w.heap.size w w' := ex_cmp ▸ vcompare_any 0 0 0 0 0 1 w

set_option maxRecDepth 100000 in
set_option maxHeartbeats 8000000 in
theorem awake_any (w : World) : Calls Try.prog 12 #[] w fun e w' => e = .returned (.bool true) ∧ Below w.heap.size w w' := by
  have hq := arr_eq (-3) 6 (-3) (-3) 6 (-3)
  simp only [beq_self_eq_true, Bool.and_self] at hq
  go_enter Try.func12, Try.ntmps12
  go_wp2_with fail
  refine (at_dot _).mono ?_
  rintro e w1 ⟨rfl, hb1⟩
  have acc1 : Below w.heap.size w w1 := below_step (by (repeat (first | with_reducible assumption | with_reducible exact Below.refl _ _ | simp only [Below.drew_iff] | simp only [Below.drewN_iff] | with_reducible refine Below.setCell ?_ (by first | omega | (simp; done) | (simp; omega)) _ | with_reducible refine Below.alloc ?_ (by first | omega | (simp; done) | (simp; omega)) _))) hb1
  have zz1 := acc1.size
  clear hb1
  go_wp2_with fail
  refine (at_cross _).mono ?_
  rintro e w2 ⟨rfl, hb2⟩
  have acc2 : Below w.heap.size w w2 := below_step (by (repeat (first | with_reducible assumption | with_reducible exact Below.refl _ _ | simp only [Below.drew_iff] | simp only [Below.drewN_iff] | with_reducible refine Below.setCell ?_ (by first | omega | (simp; done) | (simp; omega)) _ | with_reducible refine Below.alloc ?_ (by first | omega | (simp; done) | (simp; omega)) _))) hb2
  have zz2 := acc2.size
  clear hb2
  go_wp2_with fail
  refine (at_prim _).mono ?_
  rintro e w3 ⟨rfl, hb3⟩
  have acc3 : Below w.heap.size w w3 := below_step (by (repeat (first | with_reducible assumption | with_reducible exact Below.refl _ _ | simp only [Below.drew_iff] | simp only [Below.drewN_iff] | with_reducible refine Below.setCell ?_ (by first | omega | (simp; done) | (simp; omega)) _ | with_reducible refine Below.alloc ?_ (by first | omega | (simp; done) | (simp; omega)) _))) hb3
  have zz3 := acc3.size
  have L0_3 : Blk w3 (w2.heap.size) [.int .i64 (-3), .int .i64 6, .int .i64 (-3)] 36 := Blk.kept (by ((try simp only [Blk.drew_iff]); (try simp only [Blk.drewN_iff]); (try simp only [Blk.drew_iff]); repeat (first | with_reducible assumption | with_reducible exact Blk.new _ _ _ (by first | rfl | (simp; done) | (simp; omega)) | with_reducible refine Blk.alloc ?_ _ | with_reducible refine Blk.far ?_ (by first | (simp; done) | (simp; omega) | omega) _))) hb3
  clear hb3
  have l0_3 := L0_3.lt
  obtain ⟨f0_3_0, f0_3_1, f0_3_2, f0_3_3, f0_3_4, f0_3_5⟩ := L0_3.three
  go_wp2_with fail
  refine (at_turn _).mono ?_
  rintro e w4 ⟨rfl, hb4⟩
  have acc4 : Below w.heap.size w w4 := below_step (by (repeat (first | with_reducible assumption | with_reducible exact Below.refl _ _ | simp only [Below.drew_iff] | simp only [Below.drewN_iff] | with_reducible refine Below.setCell ?_ (by first | omega | (simp; done) | (simp; omega)) _ | with_reducible refine Below.alloc ?_ (by first | omega | (simp; done) | (simp; omega)) _))) hb4
  have zz4 := acc4.size
  have L0_4 : Blk w4 (w2.heap.size) [.int .i64 (-3), .int .i64 6, .int .i64 (-3)] 36 := Blk.kept (by ((try simp only [Blk.drew_iff]); (try simp only [Blk.drewN_iff]); (try simp only [Blk.drew_iff]); repeat (first | with_reducible assumption | with_reducible exact Blk.new _ _ _ (by first | rfl | (simp; done) | (simp; omega)) | with_reducible refine Blk.alloc ?_ _ | with_reducible refine Blk.far ?_ (by first | (simp; done) | (simp; omega) | omega) _))) hb4
  have L1_4 : Blk w4 (w3.heap.size) [.int .i64 2, .int .i64 (-3), .int .i64 0] 23 := Blk.kept (by ((try simp only [Blk.drew_iff]); (try simp only [Blk.drewN_iff]); (try simp only [Blk.drew_iff]); repeat (first | with_reducible assumption | with_reducible exact Blk.new _ _ _ (by first | rfl | (simp; done) | (simp; omega)) | with_reducible refine Blk.alloc ?_ _ | with_reducible refine Blk.far ?_ (by first | (simp; done) | (simp; omega) | omega) _))) hb4
  clear hb4
  clear L0_3 l0_3 f0_3_0 f0_3_1 f0_3_2 f0_3_3 f0_3_4 f0_3_5
  have l0_4 := L0_4.lt
  obtain ⟨f0_4_0, f0_4_1, f0_4_2, f0_4_3, f0_4_4, f0_4_5⟩ := L0_4.three
  have l1_4 := L1_4.lt
  obtain ⟨f1_4_0, f1_4_1, f1_4_2, f1_4_3, f1_4_4, f1_4_5⟩ := L1_4.three
  go_wp2_with fail
  refine (at_meet _).mono ?_
  rintro e w5 ⟨rfl, hb5⟩
  have acc5 : Below w.heap.size w w5 := below_step (by (repeat (first | with_reducible assumption | with_reducible exact Below.refl _ _ | simp only [Below.drew_iff] | simp only [Below.drewN_iff] | with_reducible refine Below.setCell ?_ (by first | omega | (simp; done) | (simp; omega)) _ | with_reducible refine Below.alloc ?_ (by first | omega | (simp; done) | (simp; omega)) _))) hb5
  have zz5 := acc5.size
  have L0_5 : Blk w5 (w2.heap.size) [.int .i64 (-3), .int .i64 6, .int .i64 (-3)] 36 := Blk.kept (by ((try simp only [Blk.drew_iff]); (try simp only [Blk.drewN_iff]); (try simp only [Blk.drew_iff]); repeat (first | with_reducible assumption | with_reducible exact Blk.new _ _ _ (by first | rfl | (simp; done) | (simp; omega)) | with_reducible refine Blk.alloc ?_ _ | with_reducible refine Blk.far ?_ (by first | (simp; done) | (simp; omega) | omega) _))) hb5
  have L1_5 : Blk w5 (w3.heap.size) [.int .i64 2, .int .i64 (-3), .int .i64 0] 23 := Blk.kept (by ((try simp only [Blk.drew_iff]); (try simp only [Blk.drewN_iff]); (try simp only [Blk.drew_iff]); repeat (first | with_reducible assumption | with_reducible exact Blk.new _ _ _ (by first | rfl | (simp; done) | (simp; omega)) | with_reducible refine Blk.alloc ?_ _ | with_reducible refine Blk.far ?_ (by first | (simp; done) | (simp; omega) | omega) _))) hb5
  clear hb5
  clear L0_4 l0_4 f0_4_0 f0_4_1 f0_4_2 f0_4_3 f0_4_4 f0_4_5 L1_4 l1_4 f1_4_0 f1_4_1 f1_4_2 f1_4_3 f1_4_4 f1_4_5
  have l0_5 := L0_5.lt
  obtain ⟨f0_5_0, f0_5_1, f0_5_2, f0_5_3, f0_5_4, f0_5_5⟩ := L0_5.three
  have l1_5 := L1_5.lt
  obtain ⟨f1_5_0, f1_5_1, f1_5_2, f1_5_3, f1_5_4, f1_5_5⟩ := L1_5.three
  go_wp2_with fail
  refine (at_on _).mono ?_
  rintro e w6 ⟨rfl, hb6⟩
  have acc6 : Below w.heap.size w w6 := below_step (by (repeat (first | with_reducible assumption | with_reducible exact Below.refl _ _ | simp only [Below.drew_iff] | simp only [Below.drewN_iff] | with_reducible refine Below.setCell ?_ (by first | omega | (simp; done) | (simp; omega)) _ | with_reducible refine Below.alloc ?_ (by first | omega | (simp; done) | (simp; omega)) _))) hb6
  have zz6 := acc6.size
  have L0_6 : Blk w6 (w2.heap.size) [.int .i64 (-3), .int .i64 6, .int .i64 (-3)] 36 := Blk.kept (by ((try simp only [Blk.drew_iff]); (try simp only [Blk.drewN_iff]); (try simp only [Blk.drew_iff]); repeat (first | with_reducible assumption | with_reducible exact Blk.new _ _ _ (by first | rfl | (simp; done) | (simp; omega)) | with_reducible refine Blk.alloc ?_ _ | with_reducible refine Blk.far ?_ (by first | (simp; done) | (simp; omega) | omega) _))) hb6
  have L1_6 : Blk w6 (w3.heap.size) [.int .i64 2, .int .i64 (-3), .int .i64 0] 23 := Blk.kept (by ((try simp only [Blk.drew_iff]); (try simp only [Blk.drewN_iff]); (try simp only [Blk.drew_iff]); repeat (first | with_reducible assumption | with_reducible exact Blk.new _ _ _ (by first | rfl | (simp; done) | (simp; omega)) | with_reducible refine Blk.alloc ?_ _ | with_reducible refine Blk.far ?_ (by first | (simp; done) | (simp; omega) | omega) _))) hb6
  clear hb6
  clear L0_5 l0_5 f0_5_0 f0_5_1 f0_5_2 f0_5_3 f0_5_4 f0_5_5 L1_5 l1_5 f1_5_0 f1_5_1 f1_5_2 f1_5_3 f1_5_4 f1_5_5
  have l0_6 := L0_6.lt
  obtain ⟨f0_6_0, f0_6_1, f0_6_2, f0_6_3, f0_6_4, f0_6_5⟩ := L0_6.three
  have l1_6 := L1_6.lt
  obtain ⟨f1_6_0, f1_6_1, f1_6_2, f1_6_3, f1_6_4, f1_6_5⟩ := L1_6.three
  go_wp2_with fail
  refine (at_cmp _).mono ?_
  rintro e w7 ⟨rfl, hb7⟩
  have acc7 : Below w.heap.size w w7 := below_step (by (repeat (first | with_reducible assumption | with_reducible exact Below.refl _ _ | simp only [Below.drew_iff] | simp only [Below.drewN_iff] | with_reducible refine Below.setCell ?_ (by first | omega | (simp; done) | (simp; omega)) _ | with_reducible refine Below.alloc ?_ (by first | omega | (simp; done) | (simp; omega)) _))) hb7
  have zz7 := acc7.size
  have L0_7 : Blk w7 (w2.heap.size) [.int .i64 (-3), .int .i64 6, .int .i64 (-3)] 36 := Blk.kept (by ((try simp only [Blk.drew_iff]); (try simp only [Blk.drewN_iff]); (try simp only [Blk.drew_iff]); repeat (first | with_reducible assumption | with_reducible exact Blk.new _ _ _ (by first | rfl | (simp; done) | (simp; omega)) | with_reducible refine Blk.alloc ?_ _ | with_reducible refine Blk.far ?_ (by first | (simp; done) | (simp; omega) | omega) _))) hb7
  have L1_7 : Blk w7 (w3.heap.size) [.int .i64 2, .int .i64 (-3), .int .i64 0] 23 := Blk.kept (by ((try simp only [Blk.drew_iff]); (try simp only [Blk.drewN_iff]); (try simp only [Blk.drew_iff]); repeat (first | with_reducible assumption | with_reducible exact Blk.new _ _ _ (by first | rfl | (simp; done) | (simp; omega)) | with_reducible refine Blk.alloc ?_ _ | with_reducible refine Blk.far ?_ (by first | (simp; done) | (simp; omega) | omega) _))) hb7
  clear hb7
  clear L0_6 l0_6 f0_6_0 f0_6_1 f0_6_2 f0_6_3 f0_6_4 f0_6_5 L1_6 l1_6 f1_6_0 f1_6_1 f1_6_2 f1_6_3 f1_6_4 f1_6_5
  have l0_7 := L0_7.lt
  obtain ⟨f0_7_0, f0_7_1, f0_7_2, f0_7_3, f0_7_4, f0_7_5⟩ := L0_7.three
  have l1_7 := L1_7.lt
  obtain ⟨f1_7_0, f1_7_1, f1_7_2, f1_7_3, f1_7_4, f1_7_5⟩ := L1_7.three
  go_wp2
  go_ret
  exact ⟨rfl, acc7⟩
end Go.Proofs.Ytnhoabehemnpnaa
