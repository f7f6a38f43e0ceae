/- The walk of the statement VectorSegments. -/
import Derived.Test.YtnhoabehemnpnaaWA
import Derived.Test.YtnhoabehemnpnaaW3
namespace Go.Proofs.Ytnhoabehemnpnaa
open Go.RowKit
attribute [local go_sem ↓] Go.wp_at_zero Go.wp_at_succ

theorem vmeet_e (ax ay bx by' cx cy dx dy n e0 : Int) (w : World) (h : meetV ax ay bx by' cx cy dx dy = .tuple #[.int .i64 n, .int .i64 e0]) :
    Calls Try.prog 34 #[v2 ax ay, v2 bx by', v2 cx cy, v2 dx dy] w fun e w' => e = .returned (.tuple #[.int .i64 n, .int .i64 e0]) ∧ Below w.heap.size w w' := h ▸ vmeet_any ax ay bx by' cx cy dx dy w
theorem meet_ok {ax ay bx by' cx cy dx dy : Int} (h : (inP ax ay && inP bx by' && inP cx cy && inP dx dy) = true) : meetV ax ay bx by' cx cy dx dy = .tuple #[.int .i64 (meetM (ax, ay) (bx, by') (cx, cy) (dx, dy)), .int .i64 0] := by unfold meetV; rw [if_pos h]
theorem meet_no {ax ay bx by' cx cy dx dy : Int} (h : ¬ (inP ax ay && inP bx by' && inP cx cy && inP dx dy) = true) : meetV ax ay bx by' cx cy dx dy = .tuple #[.int .i64 0, .int .i64 6] := by unfold meetV; rw [if_neg h]
/-- What Turn, On and Meet answer for three points and two segments. -/
theorem seg_turn (ax ay bx by' cx cy : Int) : ∃ m e0 : Int, -1 ≤ m ∧ m ≤ 1 ∧ turnV ax ay bx by' cx cy = .tuple #[.int .i64 m, .int .i64 e0] ∧ turnV ax ay cx cy bx by' = .tuple #[.int .i64 (-m), .int .i64 e0] ∧ turnV bx by' cx cy ax ay = .tuple #[.int .i64 m, .int .i64 e0] := by
  cases h1 : inP ax ay <;> cases h2 : inP bx by' <;> cases h3 : inP cx cy
  all_goals first
    | (refine ⟨turnM (ax, ay) (bx, by') (cx, cy), 0, (turnM_bd _ _ _).1, (turnM_bd _ _ _).2, turn_ok (by rw [h1, h2, h3]; rfl), ?_, ?_⟩
       · rw [turn_ok (by rw [h1, h2, h3]; rfl), turn_swap]
       · rw [turn_ok (by rw [h1, h2, h3]; rfl), turn_cyc])
    | exact ⟨0, 6, by omega, by omega, turn_no (by simp [h1, h2, h3]), turn_no (by simp [h1, h2, h3]), turn_no (by simp [h1, h2, h3])⟩
theorem seg_on (ax ay bx by' cx cy : Int) : ∃ (o : Bool) (k e0 : Int), ((o = true ∧ k = 1) ∨ (o = false ∧ k = 0)) ∧ onV ax ay bx by' cx cy = .tuple #[.bool o, .int .i64 e0] ∧ meetV ax ay bx by' cx cy cx cy = .tuple #[.int .i64 k, .int .i64 e0] := by
  by_cases h : (inP ax ay && inP bx by' && inP cx cy) = true
  · have h4 : (inP ax ay && inP bx by' && inP cx cy && inP cx cy) = true := by obtain ⟨h1, h2, h3⟩ := and3 h; rw [h1, h2, h3]; rfl
    refine ⟨_, _, 0, ?_, on_ok h, meet_ok h4⟩
    rw [meet_on]; cases onB (ax, ay) (bx, by') (cx, cy) <;> simp
  · have h4 : ¬ (inP ax ay && inP bx by' && inP cx cy && inP cx cy) = true := fun k => by obtain ⟨h1, h2, h3, _⟩ := and4 k; exact h (by rw [h1, h2, h3]; rfl)
    exact ⟨false, 0, 6, .inr ⟨rfl, rfl⟩, on_no h, meet_no h4⟩
theorem seg_meet (ax ay bx by' cx cy dx dy : Int) : ∃ p e0 : Int, meetV ax ay bx by' cx cy dx dy = .tuple #[.int .i64 p, .int .i64 e0] ∧ meetV dx dy cx cy ax ay bx by' = .tuple #[.int .i64 p, .int .i64 e0] ∧ meetV bx by' ax ay dx dy cx cy = .tuple #[.int .i64 p, .int .i64 e0] := by
  by_cases h : (inP ax ay && inP bx by' && inP cx cy && inP dx dy) = true
  · obtain ⟨h1, h2, h3, h4⟩ := and4 h
    refine ⟨_, 0, meet_ok h, ?_, ?_⟩
    · rw [meet_ok (by rw [h1, h2, h3, h4]; rfl), meet_revSwap]
    · rw [meet_ok (by rw [h1, h2, h3, h4]; rfl), meet_rev]
  · refine ⟨0, 6, meet_no h, meet_no fun k => ?_, meet_no fun k => ?_⟩
    · obtain ⟨h1, h2, h3, h4⟩ := and4 k; exact h (by rw [h1, h2, h3, h4]; rfl)
    · obtain ⟨h1, h2, h3, h4⟩ := and4 k; exact h (by rw [h1, h2, h3, h4]; rfl)
theorem seg_self (ax ay bx by' : Int) : ∃ t u : Int, ((u != 0) = true ∨ (u = 0 ∧ (t == 1) = true ∧ ((ax = bx) = True ∧ (ay = by') = True)) ∨ (u = 0 ∧ (t == 1) = false ∧ (t == 2) = true ∧ (¬ ax = bx ∨ ((ax = bx) = True ∧ ¬ ay = by')))) ∧ meetV ax ay bx by' ax ay bx by' = .tuple #[.int .i64 t, .int .i64 u] := by
  by_cases h : (inP ax ay && inP bx by' && inP ax ay && inP bx by') = true
  · refine ⟨_, 0, ?_, meet_ok h⟩
    rw [meet_self]
    by_cases e : ((ax, ay) : P2) = (bx, by')
    · rw [if_pos e]
      have e1 : ax = bx := congrArg Prod.fst e
      have e2 : ay = by' := congrArg Prod.snd e
      exact .inr (.inl ⟨rfl, rfl, by simp [e1], by simp [e2]⟩)
    · rw [if_neg e]
      have : ¬ (ax = bx ∧ ay = by') := fun k => e (by rw [k.1, k.2])
      refine .inr (.inr ⟨rfl, rfl, rfl, ?_⟩)
      simp only [eq_iff_iff, iff_true]; omega
  · exact ⟨0, 6, .inl rfl, meet_no h⟩

set_option maxRecDepth 100000 in
set_option maxHeartbeats 16000000 in
theorem vectorSegments_any (ax ay bx by' cx cy dx dy : Int) (w : World) :
    Calls Try.prog 11 #[v2 ax ay, v2 bx by', v2 cx cy, v2 dx dy] w fun e w' => e = .returned (.bool true) ∧ Below w.heap.size w w' := by
  obtain ⟨m, e0, m1, m2, h1, h2, h3⟩ := seg_turn ax ay bx by' cx cy
  obtain ⟨o, k, e1, ho, h4, h5⟩ := seg_on ax ay bx by' cx cy
  obtain ⟨p, e2, h6, h7, h8⟩ := seg_meet ax ay bx by' cx cy dx dy
  obtain ⟨t, u, hcs, h9⟩ := seg_self ax ay bx by'
  have H1 := Lib.hid h1
  have H2 := Lib.hid h2
  have H3 := Lib.hid h3
  have H4 := Lib.hid h4
  have H5 := Lib.hid h5
  have H6 := Lib.hid h6
  have H7 := Lib.hid h7
  have H8 := Lib.hid h8
  have H9 := Lib.hid h9
  clear h1 h2 h3 h4 h5 h6 h7 h8 h9
  have hm : (m != - -m) = false := by simp
  rcases ho with ⟨rfl, rfl⟩ | ⟨rfl, rfl⟩ <;> rcases hcs with hu | ⟨rfl, ht, g1, g2⟩ | ⟨rfl, ht, ht2, (g1 | ⟨g1, g2⟩)⟩
  all_goals
    go_enter Try.func11, Try.ntmps11
    go_wp2_with fail
    refine (awake_any _).mono ?_
    rintro e w1 ⟨rfl, hb1⟩
    have acc1 : Below w.heap.size w w1 := below_step (by (repeat (first | with_reducible assumption | with_reducible exact Below.refl _ _ | simp only [Below.drew_iff] | simp only [Below.drewN_iff] | with_reducible refine Below.setCell ?_ (by first | omega | (simp; done) | (simp; omega)) _ | with_reducible refine Below.alloc ?_ (by first | omega | (simp; done) | (simp; omega)) _))) hb1
    have zz1 := acc1.size
    have L0_1 : Blk w1 (w.heap.size) [.int .i64 ax, .int .i64 ay] 46 := Blk.kept (by ((try simp only [Blk.drew_iff]); (try simp only [Blk.drewN_iff]); (try simp only [Blk.drew_iff]); repeat (first | with_reducible assumption | with_reducible exact Blk.new _ _ _ (by first | rfl | (simp; done) | (simp; omega)) | with_reducible refine Blk.alloc ?_ _ | with_reducible refine Blk.far ?_ (by first | (simp; done) | (simp; omega) | omega) _))) hb1
    have L1_1 : Blk w1 (w.heap.size + 1) [.int .i64 bx, .int .i64 by'] 46 := Blk.kept (by ((try simp only [Blk.drew_iff]); (try simp only [Blk.drewN_iff]); (try simp only [Blk.drew_iff]); repeat (first | with_reducible assumption | with_reducible exact Blk.new _ _ _ (by first | rfl | (simp; done) | (simp; omega)) | with_reducible refine Blk.alloc ?_ _ | with_reducible refine Blk.far ?_ (by first | (simp; done) | (simp; omega) | omega) _))) hb1
    have L2_1 : Blk w1 (w.heap.size + 1 + 1) [.int .i64 cx, .int .i64 cy] 46 := Blk.kept (by ((try simp only [Blk.drew_iff]); (try simp only [Blk.drewN_iff]); (try simp only [Blk.drew_iff]); repeat (first | with_reducible assumption | with_reducible exact Blk.new _ _ _ (by first | rfl | (simp; done) | (simp; omega)) | with_reducible refine Blk.alloc ?_ _ | with_reducible refine Blk.far ?_ (by first | (simp; done) | (simp; omega) | omega) _))) hb1
    have L3_1 : Blk w1 (w.heap.size + 1 + 1 + 1) [.int .i64 dx, .int .i64 dy] 46 := Blk.kept (by ((try simp only [Blk.drew_iff]); (try simp only [Blk.drewN_iff]); (try simp only [Blk.drew_iff]); repeat (first | with_reducible assumption | with_reducible exact Blk.new _ _ _ (by first | rfl | (simp; done) | (simp; omega)) | with_reducible refine Blk.alloc ?_ _ | with_reducible refine Blk.far ?_ (by first | (simp; done) | (simp; omega) | omega) _))) hb1
    clear hb1
    have l0_1 := L0_1.lt
    obtain ⟨f0_1_0, f0_1_1, f0_1_2, f0_1_3⟩ := L0_1.two
    have l1_1 := L1_1.lt
    obtain ⟨f1_1_0, f1_1_1, f1_1_2, f1_1_3⟩ := L1_1.two
    have l2_1 := L2_1.lt
    obtain ⟨f2_1_0, f2_1_1, f2_1_2, f2_1_3⟩ := L2_1.two
    have l3_1 := L3_1.lt
    obtain ⟨f3_1_0, f3_1_1, f3_1_2, f3_1_3⟩ := L3_1.two
    go_wp2_with fail
    refine (vturn_e ax ay bx by' cx cy m e0 _ H1.out).mono ?_
    rintro e w2 ⟨rfl, hb2⟩
    have acc2 : Below w.heap.size w w2 := below_step (by (repeat (first | with_reducible assumption | with_reducible exact Below.refl _ _ | simp only [Below.drew_iff] | simp only [Below.drewN_iff] | with_reducible refine Below.setCell ?_ (by first | omega | (simp; done) | (simp; omega)) _ | with_reducible refine Below.alloc ?_ (by first | omega | (simp; done) | (simp; omega)) _))) hb2
    have zz2 := acc2.size
    have L0_2 : Blk w2 (w.heap.size) [.int .i64 ax, .int .i64 ay] 46 := Blk.kept (by ((try simp only [Blk.drew_iff]); (try simp only [Blk.drewN_iff]); (try simp only [Blk.drew_iff]); repeat (first | with_reducible assumption | with_reducible exact Blk.new _ _ _ (by first | rfl | (simp; done) | (simp; omega)) | with_reducible refine Blk.alloc ?_ _ | with_reducible refine Blk.far ?_ (by first | (simp; done) | (simp; omega) | omega) _))) hb2
    have L1_2 : Blk w2 (w.heap.size + 1) [.int .i64 bx, .int .i64 by'] 46 := Blk.kept (by ((try simp only [Blk.drew_iff]); (try simp only [Blk.drewN_iff]); (try simp only [Blk.drew_iff]); repeat (first | with_reducible assumption | with_reducible exact Blk.new _ _ _ (by first | rfl | (simp; done) | (simp; omega)) | with_reducible refine Blk.alloc ?_ _ | with_reducible refine Blk.far ?_ (by first | (simp; done) | (simp; omega) | omega) _))) hb2
    have L2_2 : Blk w2 (w.heap.size + 1 + 1) [.int .i64 cx, .int .i64 cy] 46 := Blk.kept (by ((try simp only [Blk.drew_iff]); (try simp only [Blk.drewN_iff]); (try simp only [Blk.drew_iff]); repeat (first | with_reducible assumption | with_reducible exact Blk.new _ _ _ (by first | rfl | (simp; done) | (simp; omega)) | with_reducible refine Blk.alloc ?_ _ | with_reducible refine Blk.far ?_ (by first | (simp; done) | (simp; omega) | omega) _))) hb2
    have L3_2 : Blk w2 (w.heap.size + 1 + 1 + 1) [.int .i64 dx, .int .i64 dy] 46 := Blk.kept (by ((try simp only [Blk.drew_iff]); (try simp only [Blk.drewN_iff]); (try simp only [Blk.drew_iff]); repeat (first | with_reducible assumption | with_reducible exact Blk.new _ _ _ (by first | rfl | (simp; done) | (simp; omega)) | with_reducible refine Blk.alloc ?_ _ | with_reducible refine Blk.far ?_ (by first | (simp; done) | (simp; omega) | omega) _))) hb2
    clear hb2
    clear L0_1 l0_1 f0_1_0 f0_1_1 f0_1_2 f0_1_3 L1_1 l1_1 f1_1_0 f1_1_1 f1_1_2 f1_1_3 L2_1 l2_1 f2_1_0 f2_1_1 f2_1_2 f2_1_3 L3_1 l3_1 f3_1_0 f3_1_1 f3_1_2 f3_1_3
    have l0_2 := L0_2.lt
    obtain ⟨f0_2_0, f0_2_1, f0_2_2, f0_2_3⟩ := L0_2.two
    have l1_2 := L1_2.lt
    obtain ⟨f1_2_0, f1_2_1, f1_2_2, f1_2_3⟩ := L1_2.two
    have l2_2 := L2_2.lt
    obtain ⟨f2_2_0, f2_2_1, f2_2_2, f2_2_3⟩ := L2_2.two
    have l3_2 := L3_2.lt
    obtain ⟨f3_2_0, f3_2_1, f3_2_2, f3_2_3⟩ := L3_2.two
    go_wp2_with fail
    refine (vturn_e ax ay cx cy bx by' (-m) e0 _ H2.out).mono ?_
    rintro e w3 ⟨rfl, hb3⟩
    have acc3 : Below w.heap.size w w3 := below_step (by (repeat (first | with_reducible assumption | with_reducible exact Below.refl _ _ | simp only [Below.drew_iff] | simp only [Below.drewN_iff] | with_reducible refine Below.setCell ?_ (by first | omega | (simp; done) | (simp; omega)) _ | with_reducible refine Below.alloc ?_ (by first | omega | (simp; done) | (simp; omega)) _))) hb3
    have zz3 := acc3.size
    have L0_3 : Blk w3 (w.heap.size) [.int .i64 ax, .int .i64 ay] 46 := Blk.kept (by ((try simp only [Blk.drew_iff]); (try simp only [Blk.drewN_iff]); (try simp only [Blk.drew_iff]); repeat (first | with_reducible assumption | with_reducible exact Blk.new _ _ _ (by first | rfl | (simp; done) | (simp; omega)) | with_reducible refine Blk.alloc ?_ _ | with_reducible refine Blk.far ?_ (by first | (simp; done) | (simp; omega) | omega) _))) hb3
    have L1_3 : Blk w3 (w.heap.size + 1) [.int .i64 bx, .int .i64 by'] 46 := Blk.kept (by ((try simp only [Blk.drew_iff]); (try simp only [Blk.drewN_iff]); (try simp only [Blk.drew_iff]); repeat (first | with_reducible assumption | with_reducible exact Blk.new _ _ _ (by first | rfl | (simp; done) | (simp; omega)) | with_reducible refine Blk.alloc ?_ _ | with_reducible refine Blk.far ?_ (by first | (simp; done) | (simp; omega) | omega) _))) hb3
    have L2_3 : Blk w3 (w.heap.size + 1 + 1) [.int .i64 cx, .int .i64 cy] 46 := Blk.kept (by ((try simp only [Blk.drew_iff]); (try simp only [Blk.drewN_iff]); (try simp only [Blk.drew_iff]); repeat (first | with_reducible assumption | with_reducible exact Blk.new _ _ _ (by first | rfl | (simp; done) | (simp; omega)) | with_reducible refine Blk.alloc ?_ _ | with_reducible refine Blk.far ?_ (by first | (simp; done) | (simp; omega) | omega) _))) hb3
    have L3_3 : Blk w3 (w.heap.size + 1 + 1 + 1) [.int .i64 dx, .int .i64 dy] 46 := Blk.kept (by ((try simp only [Blk.drew_iff]); (try simp only [Blk.drewN_iff]); (try simp only [Blk.drew_iff]); repeat (first | with_reducible assumption | with_reducible exact Blk.new _ _ _ (by first | rfl | (simp; done) | (simp; omega)) | with_reducible refine Blk.alloc ?_ _ | with_reducible refine Blk.far ?_ (by first | (simp; done) | (simp; omega) | omega) _))) hb3
    clear hb3
    clear L0_2 l0_2 f0_2_0 f0_2_1 f0_2_2 f0_2_3 L1_2 l1_2 f1_2_0 f1_2_1 f1_2_2 f1_2_3 L2_2 l2_2 f2_2_0 f2_2_1 f2_2_2 f2_2_3 L3_2 l3_2 f3_2_0 f3_2_1 f3_2_2 f3_2_3
    have l0_3 := L0_3.lt
    obtain ⟨f0_3_0, f0_3_1, f0_3_2, f0_3_3⟩ := L0_3.two
    have l1_3 := L1_3.lt
    obtain ⟨f1_3_0, f1_3_1, f1_3_2, f1_3_3⟩ := L1_3.two
    have l2_3 := L2_3.lt
    obtain ⟨f2_3_0, f2_3_1, f2_3_2, f2_3_3⟩ := L2_3.two
    have l3_3 := L3_3.lt
    obtain ⟨f3_3_0, f3_3_1, f3_3_2, f3_3_3⟩ := L3_3.two
    go_wp2_with fail
    refine (vturn_e bx by' cx cy ax ay m e0 _ H3.out).mono ?_
    rintro e w4 ⟨rfl, hb4⟩
    have acc4 : Below w.heap.size w w4 := below_step (by (repeat (first | with_reducible assumption | with_reducible exact Below.refl _ _ | simp only [Below.drew_iff] | simp only [Below.drewN_iff] | with_reducible refine Below.setCell ?_ (by first | omega | (simp; done) | (simp; omega)) _ | with_reducible refine Below.alloc ?_ (by first | omega | (simp; done) | (simp; omega)) _))) hb4
    have zz4 := acc4.size
    have L0_4 : Blk w4 (w.heap.size) [.int .i64 ax, .int .i64 ay] 46 := Blk.kept (by ((try simp only [Blk.drew_iff]); (try simp only [Blk.drewN_iff]); (try simp only [Blk.drew_iff]); repeat (first | with_reducible assumption | with_reducible exact Blk.new _ _ _ (by first | rfl | (simp; done) | (simp; omega)) | with_reducible refine Blk.alloc ?_ _ | with_reducible refine Blk.far ?_ (by first | (simp; done) | (simp; omega) | omega) _))) hb4
    have L1_4 : Blk w4 (w.heap.size + 1) [.int .i64 bx, .int .i64 by'] 46 := Blk.kept (by ((try simp only [Blk.drew_iff]); (try simp only [Blk.drewN_iff]); (try simp only [Blk.drew_iff]); repeat (first | with_reducible assumption | with_reducible exact Blk.new _ _ _ (by first | rfl | (simp; done) | (simp; omega)) | with_reducible refine Blk.alloc ?_ _ | with_reducible refine Blk.far ?_ (by first | (simp; done) | (simp; omega) | omega) _))) hb4
    have L2_4 : Blk w4 (w.heap.size + 1 + 1) [.int .i64 cx, .int .i64 cy] 46 := Blk.kept (by ((try simp only [Blk.drew_iff]); (try simp only [Blk.drewN_iff]); (try simp only [Blk.drew_iff]); repeat (first | with_reducible assumption | with_reducible exact Blk.new _ _ _ (by first | rfl | (simp; done) | (simp; omega)) | with_reducible refine Blk.alloc ?_ _ | with_reducible refine Blk.far ?_ (by first | (simp; done) | (simp; omega) | omega) _))) hb4
    have L3_4 : Blk w4 (w.heap.size + 1 + 1 + 1) [.int .i64 dx, .int .i64 dy] 46 := Blk.kept (by ((try simp only [Blk.drew_iff]); (try simp only [Blk.drewN_iff]); (try simp only [Blk.drew_iff]); repeat (first | with_reducible assumption | with_reducible exact Blk.new _ _ _ (by first | rfl | (simp; done) | (simp; omega)) | with_reducible refine Blk.alloc ?_ _ | with_reducible refine Blk.far ?_ (by first | (simp; done) | (simp; omega) | omega) _))) hb4
    clear hb4
    clear L0_3 l0_3 f0_3_0 f0_3_1 f0_3_2 f0_3_3 L1_3 l1_3 f1_3_0 f1_3_1 f1_3_2 f1_3_3 L2_3 l2_3 f2_3_0 f2_3_1 f2_3_2 f2_3_3 L3_3 l3_3 f3_3_0 f3_3_1 f3_3_2 f3_3_3
    have l0_4 := L0_4.lt
    obtain ⟨f0_4_0, f0_4_1, f0_4_2, f0_4_3⟩ := L0_4.two
    have l1_4 := L1_4.lt
    obtain ⟨f1_4_0, f1_4_1, f1_4_2, f1_4_3⟩ := L1_4.two
    have l2_4 := L2_4.lt
    obtain ⟨f2_4_0, f2_4_1, f2_4_2, f2_4_3⟩ := L2_4.two
    have l3_4 := L3_4.lt
    obtain ⟨f3_4_0, f3_4_1, f3_4_2, f3_4_3⟩ := L3_4.two
    go_wp2_with fail
    refine (von_e ax ay bx by' cx cy e1 _ _ H4.out).mono ?_
    rintro e w5 ⟨rfl, hb5⟩
    have acc5 : Below w.heap.size w w5 := below_step (by (repeat (first | with_reducible assumption | with_reducible exact Below.refl _ _ | simp only [Below.drew_iff] | simp only [Below.drewN_iff] | with_reducible refine Below.setCell ?_ (by first | omega | (simp; done) | (simp; omega)) _ | with_reducible refine Below.alloc ?_ (by first | omega | (simp; done) | (simp; omega)) _))) hb5
    have zz5 := acc5.size
    have L0_5 : Blk w5 (w.heap.size) [.int .i64 ax, .int .i64 ay] 46 := Blk.kept (by ((try simp only [Blk.drew_iff]); (try simp only [Blk.drewN_iff]); (try simp only [Blk.drew_iff]); repeat (first | with_reducible assumption | with_reducible exact Blk.new _ _ _ (by first | rfl | (simp; done) | (simp; omega)) | with_reducible refine Blk.alloc ?_ _ | with_reducible refine Blk.far ?_ (by first | (simp; done) | (simp; omega) | omega) _))) hb5
    have L1_5 : Blk w5 (w.heap.size + 1) [.int .i64 bx, .int .i64 by'] 46 := Blk.kept (by ((try simp only [Blk.drew_iff]); (try simp only [Blk.drewN_iff]); (try simp only [Blk.drew_iff]); repeat (first | with_reducible assumption | with_reducible exact Blk.new _ _ _ (by first | rfl | (simp; done) | (simp; omega)) | with_reducible refine Blk.alloc ?_ _ | with_reducible refine Blk.far ?_ (by first | (simp; done) | (simp; omega) | omega) _))) hb5
    have L2_5 : Blk w5 (w.heap.size + 1 + 1) [.int .i64 cx, .int .i64 cy] 46 := Blk.kept (by ((try simp only [Blk.drew_iff]); (try simp only [Blk.drewN_iff]); (try simp only [Blk.drew_iff]); repeat (first | with_reducible assumption | with_reducible exact Blk.new _ _ _ (by first | rfl | (simp; done) | (simp; omega)) | with_reducible refine Blk.alloc ?_ _ | with_reducible refine Blk.far ?_ (by first | (simp; done) | (simp; omega) | omega) _))) hb5
    have L3_5 : Blk w5 (w.heap.size + 1 + 1 + 1) [.int .i64 dx, .int .i64 dy] 46 := Blk.kept (by ((try simp only [Blk.drew_iff]); (try simp only [Blk.drewN_iff]); (try simp only [Blk.drew_iff]); repeat (first | with_reducible assumption | with_reducible exact Blk.new _ _ _ (by first | rfl | (simp; done) | (simp; omega)) | with_reducible refine Blk.alloc ?_ _ | with_reducible refine Blk.far ?_ (by first | (simp; done) | (simp; omega) | omega) _))) hb5
    clear hb5
    clear L0_4 l0_4 f0_4_0 f0_4_1 f0_4_2 f0_4_3 L1_4 l1_4 f1_4_0 f1_4_1 f1_4_2 f1_4_3 L2_4 l2_4 f2_4_0 f2_4_1 f2_4_2 f2_4_3 L3_4 l3_4 f3_4_0 f3_4_1 f3_4_2 f3_4_3
    have l0_5 := L0_5.lt
    obtain ⟨f0_5_0, f0_5_1, f0_5_2, f0_5_3⟩ := L0_5.two
    have l1_5 := L1_5.lt
    obtain ⟨f1_5_0, f1_5_1, f1_5_2, f1_5_3⟩ := L1_5.two
    have l2_5 := L2_5.lt
    obtain ⟨f2_5_0, f2_5_1, f2_5_2, f2_5_3⟩ := L2_5.two
    have l3_5 := L3_5.lt
    obtain ⟨f3_5_0, f3_5_1, f3_5_2, f3_5_3⟩ := L3_5.two
    go_wp2_with fail
    refine (vmeet_e ax ay bx by' cx cy cx cy _ e1 _ H5.out).mono ?_
    rintro e w6 ⟨rfl, hb6⟩
    have acc6 : Below w.heap.size w w6 := below_step (by (repeat (first | with_reducible assumption | with_reducible exact Below.refl _ _ | simp only [Below.drew_iff] | simp only [Below.drewN_iff] | with_reducible refine Below.setCell ?_ (by first | omega | (simp; done) | (simp; omega)) _ | with_reducible refine Below.alloc ?_ (by first | omega | (simp; done) | (simp; omega)) _))) hb6
    have zz6 := acc6.size
    have L0_6 : Blk w6 (w.heap.size) [.int .i64 ax, .int .i64 ay] 46 := Blk.kept (by ((try simp only [Blk.drew_iff]); (try simp only [Blk.drewN_iff]); (try simp only [Blk.drew_iff]); repeat (first | with_reducible assumption | with_reducible exact Blk.new _ _ _ (by first | rfl | (simp; done) | (simp; omega)) | with_reducible refine Blk.alloc ?_ _ | with_reducible refine Blk.far ?_ (by first | (simp; done) | (simp; omega) | omega) _))) hb6
    have L1_6 : Blk w6 (w.heap.size + 1) [.int .i64 bx, .int .i64 by'] 46 := Blk.kept (by ((try simp only [Blk.drew_iff]); (try simp only [Blk.drewN_iff]); (try simp only [Blk.drew_iff]); repeat (first | with_reducible assumption | with_reducible exact Blk.new _ _ _ (by first | rfl | (simp; done) | (simp; omega)) | with_reducible refine Blk.alloc ?_ _ | with_reducible refine Blk.far ?_ (by first | (simp; done) | (simp; omega) | omega) _))) hb6
    have L2_6 : Blk w6 (w.heap.size + 1 + 1) [.int .i64 cx, .int .i64 cy] 46 := Blk.kept (by ((try simp only [Blk.drew_iff]); (try simp only [Blk.drewN_iff]); (try simp only [Blk.drew_iff]); repeat (first | with_reducible assumption | with_reducible exact Blk.new _ _ _ (by first | rfl | (simp; done) | (simp; omega)) | with_reducible refine Blk.alloc ?_ _ | with_reducible refine Blk.far ?_ (by first | (simp; done) | (simp; omega) | omega) _))) hb6
    have L3_6 : Blk w6 (w.heap.size + 1 + 1 + 1) [.int .i64 dx, .int .i64 dy] 46 := Blk.kept (by ((try simp only [Blk.drew_iff]); (try simp only [Blk.drewN_iff]); (try simp only [Blk.drew_iff]); repeat (first | with_reducible assumption | with_reducible exact Blk.new _ _ _ (by first | rfl | (simp; done) | (simp; omega)) | with_reducible refine Blk.alloc ?_ _ | with_reducible refine Blk.far ?_ (by first | (simp; done) | (simp; omega) | omega) _))) hb6
    clear hb6
    clear L0_5 l0_5 f0_5_0 f0_5_1 f0_5_2 f0_5_3 L1_5 l1_5 f1_5_0 f1_5_1 f1_5_2 f1_5_3 L2_5 l2_5 f2_5_0 f2_5_1 f2_5_2 f2_5_3 L3_5 l3_5 f3_5_0 f3_5_1 f3_5_2 f3_5_3
    have l0_6 := L0_6.lt
    obtain ⟨f0_6_0, f0_6_1, f0_6_2, f0_6_3⟩ := L0_6.two
    have l1_6 := L1_6.lt
    obtain ⟨f1_6_0, f1_6_1, f1_6_2, f1_6_3⟩ := L1_6.two
    have l2_6 := L2_6.lt
    obtain ⟨f2_6_0, f2_6_1, f2_6_2, f2_6_3⟩ := L2_6.two
    have l3_6 := L3_6.lt
    obtain ⟨f3_6_0, f3_6_1, f3_6_2, f3_6_3⟩ := L3_6.two
    go_wp2_with fail
    refine (vmeet_e ax ay bx by' cx cy dx dy p e2 _ H6.out).mono ?_
    rintro e w7 ⟨rfl, hb7⟩
    have acc7 : Below w.heap.size w w7 := below_step (by (repeat (first | with_reducible assumption | with_reducible exact Below.refl _ _ | simp only [Below.drew_iff] | simp only [Below.drewN_iff] | with_reducible refine Below.setCell ?_ (by first | omega | (simp; done) | (simp; omega)) _ | with_reducible refine Below.alloc ?_ (by first | omega | (simp; done) | (simp; omega)) _))) hb7
    have zz7 := acc7.size
    have L0_7 : Blk w7 (w.heap.size) [.int .i64 ax, .int .i64 ay] 46 := Blk.kept (by ((try simp only [Blk.drew_iff]); (try simp only [Blk.drewN_iff]); (try simp only [Blk.drew_iff]); repeat (first | with_reducible assumption | with_reducible exact Blk.new _ _ _ (by first | rfl | (simp; done) | (simp; omega)) | with_reducible refine Blk.alloc ?_ _ | with_reducible refine Blk.far ?_ (by first | (simp; done) | (simp; omega) | omega) _))) hb7
    have L1_7 : Blk w7 (w.heap.size + 1) [.int .i64 bx, .int .i64 by'] 46 := Blk.kept (by ((try simp only [Blk.drew_iff]); (try simp only [Blk.drewN_iff]); (try simp only [Blk.drew_iff]); repeat (first | with_reducible assumption | with_reducible exact Blk.new _ _ _ (by first | rfl | (simp; done) | (simp; omega)) | with_reducible refine Blk.alloc ?_ _ | with_reducible refine Blk.far ?_ (by first | (simp; done) | (simp; omega) | omega) _))) hb7
    have L2_7 : Blk w7 (w.heap.size + 1 + 1) [.int .i64 cx, .int .i64 cy] 46 := Blk.kept (by ((try simp only [Blk.drew_iff]); (try simp only [Blk.drewN_iff]); (try simp only [Blk.drew_iff]); repeat (first | with_reducible assumption | with_reducible exact Blk.new _ _ _ (by first | rfl | (simp; done) | (simp; omega)) | with_reducible refine Blk.alloc ?_ _ | with_reducible refine Blk.far ?_ (by first | (simp; done) | (simp; omega) | omega) _))) hb7
    have L3_7 : Blk w7 (w.heap.size + 1 + 1 + 1) [.int .i64 dx, .int .i64 dy] 46 := Blk.kept (by ((try simp only [Blk.drew_iff]); (try simp only [Blk.drewN_iff]); (try simp only [Blk.drew_iff]); repeat (first | with_reducible assumption | with_reducible exact Blk.new _ _ _ (by first | rfl | (simp; done) | (simp; omega)) | with_reducible refine Blk.alloc ?_ _ | with_reducible refine Blk.far ?_ (by first | (simp; done) | (simp; omega) | omega) _))) hb7
    clear hb7
    clear L0_6 l0_6 f0_6_0 f0_6_1 f0_6_2 f0_6_3 L1_6 l1_6 f1_6_0 f1_6_1 f1_6_2 f1_6_3 L2_6 l2_6 f2_6_0 f2_6_1 f2_6_2 f2_6_3 L3_6 l3_6 f3_6_0 f3_6_1 f3_6_2 f3_6_3
    have l0_7 := L0_7.lt
    obtain ⟨f0_7_0, f0_7_1, f0_7_2, f0_7_3⟩ := L0_7.two
    have l1_7 := L1_7.lt
    obtain ⟨f1_7_0, f1_7_1, f1_7_2, f1_7_3⟩ := L1_7.two
    have l2_7 := L2_7.lt
    obtain ⟨f2_7_0, f2_7_1, f2_7_2, f2_7_3⟩ := L2_7.two
    have l3_7 := L3_7.lt
    obtain ⟨f3_7_0, f3_7_1, f3_7_2, f3_7_3⟩ := L3_7.two
    go_wp2_with fail
    refine (vmeet_e dx dy cx cy ax ay bx by' p e2 _ H7.out).mono ?_
    rintro e w8 ⟨rfl, hb8⟩
    have acc8 : Below w.heap.size w w8 := below_step (by (repeat (first | with_reducible assumption | with_reducible exact Below.refl _ _ | simp only [Below.drew_iff] | simp only [Below.drewN_iff] | with_reducible refine Below.setCell ?_ (by first | omega | (simp; done) | (simp; omega)) _ | with_reducible refine Below.alloc ?_ (by first | omega | (simp; done) | (simp; omega)) _))) hb8
    have zz8 := acc8.size
    have L0_8 : Blk w8 (w.heap.size) [.int .i64 ax, .int .i64 ay] 46 := Blk.kept (by ((try simp only [Blk.drew_iff]); (try simp only [Blk.drewN_iff]); (try simp only [Blk.drew_iff]); repeat (first | with_reducible assumption | with_reducible exact Blk.new _ _ _ (by first | rfl | (simp; done) | (simp; omega)) | with_reducible refine Blk.alloc ?_ _ | with_reducible refine Blk.far ?_ (by first | (simp; done) | (simp; omega) | omega) _))) hb8
    have L1_8 : Blk w8 (w.heap.size + 1) [.int .i64 bx, .int .i64 by'] 46 := Blk.kept (by ((try simp only [Blk.drew_iff]); (try simp only [Blk.drewN_iff]); (try simp only [Blk.drew_iff]); repeat (first | with_reducible assumption | with_reducible exact Blk.new _ _ _ (by first | rfl | (simp; done) | (simp; omega)) | with_reducible refine Blk.alloc ?_ _ | with_reducible refine Blk.far ?_ (by first | (simp; done) | (simp; omega) | omega) _))) hb8
    have L2_8 : Blk w8 (w.heap.size + 1 + 1) [.int .i64 cx, .int .i64 cy] 46 := Blk.kept (by ((try simp only [Blk.drew_iff]); (try simp only [Blk.drewN_iff]); (try simp only [Blk.drew_iff]); repeat (first | with_reducible assumption | with_reducible exact Blk.new _ _ _ (by first | rfl | (simp; done) | (simp; omega)) | with_reducible refine Blk.alloc ?_ _ | with_reducible refine Blk.far ?_ (by first | (simp; done) | (simp; omega) | omega) _))) hb8
    have L3_8 : Blk w8 (w.heap.size + 1 + 1 + 1) [.int .i64 dx, .int .i64 dy] 46 := Blk.kept (by ((try simp only [Blk.drew_iff]); (try simp only [Blk.drewN_iff]); (try simp only [Blk.drew_iff]); repeat (first | with_reducible assumption | with_reducible exact Blk.new _ _ _ (by first | rfl | (simp; done) | (simp; omega)) | with_reducible refine Blk.alloc ?_ _ | with_reducible refine Blk.far ?_ (by first | (simp; done) | (simp; omega) | omega) _))) hb8
    clear hb8
    clear L0_7 l0_7 f0_7_0 f0_7_1 f0_7_2 f0_7_3 L1_7 l1_7 f1_7_0 f1_7_1 f1_7_2 f1_7_3 L2_7 l2_7 f2_7_0 f2_7_1 f2_7_2 f2_7_3 L3_7 l3_7 f3_7_0 f3_7_1 f3_7_2 f3_7_3
    have l0_8 := L0_8.lt
    obtain ⟨f0_8_0, f0_8_1, f0_8_2, f0_8_3⟩ := L0_8.two
    have l1_8 := L1_8.lt
    obtain ⟨f1_8_0, f1_8_1, f1_8_2, f1_8_3⟩ := L1_8.two
    have l2_8 := L2_8.lt
    obtain ⟨f2_8_0, f2_8_1, f2_8_2, f2_8_3⟩ := L2_8.two
    have l3_8 := L3_8.lt
    obtain ⟨f3_8_0, f3_8_1, f3_8_2, f3_8_3⟩ := L3_8.two
    go_wp2_with fail
    refine (vmeet_e bx by' ax ay dx dy cx cy p e2 _ H8.out).mono ?_
    rintro e w9 ⟨rfl, hb9⟩
    have acc9 : Below w.heap.size w w9 := below_step (by (repeat (first | with_reducible assumption | with_reducible exact Below.refl _ _ | simp only [Below.drew_iff] | simp only [Below.drewN_iff] | with_reducible refine Below.setCell ?_ (by first | omega | (simp; done) | (simp; omega)) _ | with_reducible refine Below.alloc ?_ (by first | omega | (simp; done) | (simp; omega)) _))) hb9
    have zz9 := acc9.size
    have L0_9 : Blk w9 (w.heap.size) [.int .i64 ax, .int .i64 ay] 46 := Blk.kept (by ((try simp only [Blk.drew_iff]); (try simp only [Blk.drewN_iff]); (try simp only [Blk.drew_iff]); repeat (first | with_reducible assumption | with_reducible exact Blk.new _ _ _ (by first | rfl | (simp; done) | (simp; omega)) | with_reducible refine Blk.alloc ?_ _ | with_reducible refine Blk.far ?_ (by first | (simp; done) | (simp; omega) | omega) _))) hb9
    have L1_9 : Blk w9 (w.heap.size + 1) [.int .i64 bx, .int .i64 by'] 46 := Blk.kept (by ((try simp only [Blk.drew_iff]); (try simp only [Blk.drewN_iff]); (try simp only [Blk.drew_iff]); repeat (first | with_reducible assumption | with_reducible exact Blk.new _ _ _ (by first | rfl | (simp; done) | (simp; omega)) | with_reducible refine Blk.alloc ?_ _ | with_reducible refine Blk.far ?_ (by first | (simp; done) | (simp; omega) | omega) _))) hb9
    have L2_9 : Blk w9 (w.heap.size + 1 + 1) [.int .i64 cx, .int .i64 cy] 46 := Blk.kept (by ((try simp only [Blk.drew_iff]); (try simp only [Blk.drewN_iff]); (try simp only [Blk.drew_iff]); repeat (first | with_reducible assumption | with_reducible exact Blk.new _ _ _ (by first | rfl | (simp; done) | (simp; omega)) | with_reducible refine Blk.alloc ?_ _ | with_reducible refine Blk.far ?_ (by first | (simp; done) | (simp; omega) | omega) _))) hb9
    have L3_9 : Blk w9 (w.heap.size + 1 + 1 + 1) [.int .i64 dx, .int .i64 dy] 46 := Blk.kept (by ((try simp only [Blk.drew_iff]); (try simp only [Blk.drewN_iff]); (try simp only [Blk.drew_iff]); repeat (first | with_reducible assumption | with_reducible exact Blk.new _ _ _ (by first | rfl | (simp; done) | (simp; omega)) | with_reducible refine Blk.alloc ?_ _ | with_reducible refine Blk.far ?_ (by first | (simp; done) | (simp; omega) | omega) _))) hb9
    clear hb9
    clear L0_8 l0_8 f0_8_0 f0_8_1 f0_8_2 f0_8_3 L1_8 l1_8 f1_8_0 f1_8_1 f1_8_2 f1_8_3 L2_8 l2_8 f2_8_0 f2_8_1 f2_8_2 f2_8_3 L3_8 l3_8 f3_8_0 f3_8_1 f3_8_2 f3_8_3
    have l0_9 := L0_9.lt
    obtain ⟨f0_9_0, f0_9_1, f0_9_2, f0_9_3⟩ := L0_9.two
    have l1_9 := L1_9.lt
    obtain ⟨f1_9_0, f1_9_1, f1_9_2, f1_9_3⟩ := L1_9.two
    have l2_9 := L2_9.lt
    obtain ⟨f2_9_0, f2_9_1, f2_9_2, f2_9_3⟩ := L2_9.two
    have l3_9 := L3_9.lt
    obtain ⟨f3_9_0, f3_9_1, f3_9_2, f3_9_3⟩ := L3_9.two
    go_wp2_with fail
    refine (vmeet_e ax ay bx by' ax ay bx by' t _ _ H9.out).mono ?_
    rintro e w10 ⟨rfl, hb10⟩
    have acc10 : Below w.heap.size w w10 := below_step (by (repeat (first | with_reducible assumption | with_reducible exact Below.refl _ _ | simp only [Below.drew_iff] | simp only [Below.drewN_iff] | with_reducible refine Below.setCell ?_ (by first | omega | (simp; done) | (simp; omega)) _ | with_reducible refine Below.alloc ?_ (by first | omega | (simp; done) | (simp; omega)) _))) hb10
    have zz10 := acc10.size
    have L0_10 : Blk w10 (w.heap.size) [.int .i64 ax, .int .i64 ay] 46 := Blk.kept (by ((try simp only [Blk.drew_iff]); (try simp only [Blk.drewN_iff]); (try simp only [Blk.drew_iff]); repeat (first | with_reducible assumption | with_reducible exact Blk.new _ _ _ (by first | rfl | (simp; done) | (simp; omega)) | with_reducible refine Blk.alloc ?_ _ | with_reducible refine Blk.far ?_ (by first | (simp; done) | (simp; omega) | omega) _))) hb10
    have L1_10 : Blk w10 (w.heap.size + 1) [.int .i64 bx, .int .i64 by'] 46 := Blk.kept (by ((try simp only [Blk.drew_iff]); (try simp only [Blk.drewN_iff]); (try simp only [Blk.drew_iff]); repeat (first | with_reducible assumption | with_reducible exact Blk.new _ _ _ (by first | rfl | (simp; done) | (simp; omega)) | with_reducible refine Blk.alloc ?_ _ | with_reducible refine Blk.far ?_ (by first | (simp; done) | (simp; omega) | omega) _))) hb10
    have L2_10 : Blk w10 (w.heap.size + 1 + 1) [.int .i64 cx, .int .i64 cy] 46 := Blk.kept (by ((try simp only [Blk.drew_iff]); (try simp only [Blk.drewN_iff]); (try simp only [Blk.drew_iff]); repeat (first | with_reducible assumption | with_reducible exact Blk.new _ _ _ (by first | rfl | (simp; done) | (simp; omega)) | with_reducible refine Blk.alloc ?_ _ | with_reducible refine Blk.far ?_ (by first | (simp; done) | (simp; omega) | omega) _))) hb10
    have L3_10 : Blk w10 (w.heap.size + 1 + 1 + 1) [.int .i64 dx, .int .i64 dy] 46 := Blk.kept (by ((try simp only [Blk.drew_iff]); (try simp only [Blk.drewN_iff]); (try simp only [Blk.drew_iff]); repeat (first | with_reducible assumption | with_reducible exact Blk.new _ _ _ (by first | rfl | (simp; done) | (simp; omega)) | with_reducible refine Blk.alloc ?_ _ | with_reducible refine Blk.far ?_ (by first | (simp; done) | (simp; omega) | omega) _))) hb10
    clear hb10
    clear L0_9 l0_9 f0_9_0 f0_9_1 f0_9_2 f0_9_3 L1_9 l1_9 f1_9_0 f1_9_1 f1_9_2 f1_9_3 L2_9 l2_9 f2_9_0 f2_9_1 f2_9_2 f2_9_3 L3_9 l3_9 f3_9_0 f3_9_1 f3_9_2 f3_9_3
    have l0_10 := L0_10.lt
    obtain ⟨f0_10_0, f0_10_1, f0_10_2, f0_10_3⟩ := L0_10.two
    have l1_10 := L1_10.lt
    obtain ⟨f1_10_0, f1_10_1, f1_10_2, f1_10_3⟩ := L1_10.two
    have l2_10 := L2_10.lt
    obtain ⟨f2_10_0, f2_10_1, f2_10_2, f2_10_3⟩ := L2_10.two
    have l3_10 := L3_10.lt
    obtain ⟨f3_10_0, f3_10_1, f3_10_2, f3_10_3⟩ := L3_10.two
    go_wp2
    all_goals (go_ret; exact ⟨rfl, acc10⟩)
end Go.Proofs.Ytnhoabehemnpnaa
