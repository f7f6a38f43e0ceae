/- The reference of package vector, but for Meet. -/
import Derived.Test.YtnhoabehemnpnaaVF
import Derived.Test.YtnhoabehemnpnaaVT1
namespace Go.Proofs.Ytnhoabehemnpnaa
open Go.RowKit

def ltV (x y z x' y' z' : Int) : Bool := decide (x < x' ∨ x = x' ∧ (y < y' ∨ y = y' ∧ z < z'))
theorem less_any (x y z x' y' z' : Int) (w : World) :
    Calls Try.prog 41 #[v3 x y z, v3 x' y' z'] w fun e w' => e = .returned (.bool (ltV x y z x' y' z')) ∧ Below w.heap.size w w' := by
  go_enter Try.func41, Try.ntmps41
  go_wp2
  all_goals (go_ret; refine ⟨ret_bool ?_, by go_grown⟩; (unfold ltV; exact decide_eq_decide.2 (by simp at *; omega)))
theorem less_e (x y z x' y' z' : Int) (v : Bool) (w : World) (h : ltV x y z x' y' z' = v) :
    Calls Try.prog 41 #[v3 x y z, v3 x' y' z'] w fun e w' => e = .returned (.bool v) ∧ Below w.heap.size w w' := h ▸ less_any x y z x' y' z' w
theorem cmpV_lt (x y z x' y' z' : Int) : cmpV x y z x' y' z' = if ltV x y z x' y' z' = true then -1 else if ltV x' y' z' x y z = true then 1 else 0 := by
  unfold cmpV ltV cmpI; simp only [decide_eq_true_eq]; omega

theorem refCompare_any (x y z x' y' z' : Int) (w : World) :
    Calls Try.prog 18 #[v3 x y z, v3 x' y' z'] w fun e w' => e = .returned (.int .i64 (cmpV x y z x' y' z')) ∧ Below w.heap.size w w' := by
  rw [cmpV_lt]
  cases h1 : ltV x y z x' y' z' <;> cases h2 : ltV x' y' z' x y z
  all_goals
    have H1 := Lib.hid h1
    have H2 := Lib.hid h2
    clear h1 h2
    go_enter Try.func18, Try.ntmps18
    go_wp2_with fail
    refine (less_e x y z x' y' z' _ _ H1.out).mono ?_
    rintro e w1 ⟨rfl, hb1⟩
    obtain ⟨u0, u1, u2, _, _, _⟩ := (Blk.kept (w := _) (g := w.heap.size) (cs := [.int .i64 x, .int .i64 y, .int .i64 z]) (t := 23) ((Blk.new _ _ _ rfl).alloc _) hb1).three
    obtain ⟨u3, u4, u5, _, _, _⟩ := (Blk.kept (w := _) (g := w.heap.size + 1) (cs := [.int .i64 x', .int .i64 y', .int .i64 z']) (t := 23) (Blk.new _ _ _ (by simp)) hb1).three
    have acc1 : Below w.heap.size w w1 := by (repeat (first | exact Below.refl _ _ | (refine Below.setCell ?_ (by first | omega | (simp; done) | (simp; omega)) _) | (refine Below.alloc ?_ (by first | omega | (simp; done) | (simp; omega)) _) | (refine Below.trans ?_ (Below.mono hb1 (by first | omega | (simp; done) | (simp; omega))))))
    clear hb1
    go_wp2_with fail
  · refine (less_e x' y' z' x y z _ _ H2.out).mono ?_
    rintro e w2 ⟨rfl, hb2⟩
    go_wp2
    go_ret
    exact ⟨rfl, below_step acc1 hb2⟩
  · refine (less_e x' y' z' x y z _ _ H2.out).mono ?_
    rintro e w2 ⟨rfl, hb2⟩
    go_wp2
    go_ret
    exact ⟨rfl, below_step acc1 hb2⟩
  · go_ret
    exact ⟨rfl, acc1⟩
  · go_ret
    exact ⟨rfl, acc1⟩

theorem refAdd_any (x y z x' y' z' : Int) (w : World) (h : inV x y z = true) (h' : inV x' y' z' = true) :
    Calls Try.prog 20 #[v3 x y z, v3 x' y' z'] w fun e w' => e = .returned (v3 (x + x') (y + y') (z + z')) ∧ Below w.heap.size w w' := by
  obtain ⟨⟨a1, a2⟩, ⟨a3, a4⟩, a5, a6⟩ := inV_true h
  obtain ⟨⟨e1, e2⟩, ⟨e3, e4⟩, e5, e6⟩ := inV_true h'
  clear h h'
  go_enter Try.func20, Try.ntmps20
  go_wp2
  exact bodyPost_ret (v := v3 (x + x') (y + y') (z + z')) (by simp [results, Try.results20, go_sem]) rfl ⟨rfl, by go_grown⟩
theorem refSub_any (x y z x' y' z' : Int) (w : World) (h : inV x y z = true) (h' : inV x' y' z' = true) :
    Calls Try.prog 21 #[v3 x y z, v3 x' y' z'] w fun e w' => e = .returned (v3 (x - x') (y - y') (z - z')) ∧ Below w.heap.size w w' := by
  obtain ⟨⟨a1, a2⟩, ⟨a3, a4⟩, a5, a6⟩ := inV_true h
  obtain ⟨⟨e1, e2⟩, ⟨e3, e4⟩, e5, e6⟩ := inV_true h'
  clear h h'
  go_enter Try.func21, Try.ntmps21
  go_wp2
  exact bodyPost_ret (v := v3 (x - x') (y - y') (z - z')) (by simp [results, Try.results21, go_sem]) rfl ⟨rfl, by go_grown⟩
theorem refDot_any (x y z x' y' z' : Int) (w : World) (h1 : -4000000000000 ≤ x * x') (h1' : x * x' ≤ 4000000000000) (h2 : -4000000000000 ≤ y * y') (h2' : y * y' ≤ 4000000000000) (h3 : -4000000000000 ≤ z * z') (h3' : z * z' ≤ 4000000000000) :
    Calls Try.prog 25 #[v3 x y z, v3 x' y' z'] w fun e w' => e = .returned (.int .i64 (x * x' + y * y' + z * z')) ∧ Below w.heap.size w w' := by
  go_enter Try.func25, Try.ntmps25
  go_wp2
  go_ret
  exact ⟨rfl, by go_grown⟩
theorem refCross_any (x y z x' y' z' : Int) (w : World) (h : inV x y z = true) (h' : inV x' y' z' = true) :
    Calls Try.prog 26 #[v3 x y z, v3 x' y' z'] w fun e w' => e = .returned (v3 (y * z' - z * y') (z * x' - x * z') (x * y' - y * x')) ∧ Below w.heap.size w w' := by
  obtain ⟨⟨a1, a2⟩, ⟨a3, a4⟩, a5, a6⟩ := inV_true h
  obtain ⟨⟨e1, e2⟩, ⟨e3, e4⟩, e5, e6⟩ := inV_true h'
  obtain ⟨k1, k2⟩ := mul_in a3 a4 e5 e6
  obtain ⟨k3, k4⟩ := mul_in a5 a6 e3 e4
  obtain ⟨k5, k6⟩ := mul_in a5 a6 e1 e2
  obtain ⟨k7, k8⟩ := mul_in a1 a2 e5 e6
  obtain ⟨k9, k10⟩ := mul_in a1 a2 e3 e4
  obtain ⟨k11, k12⟩ := mul_in a3 a4 e1 e2
  clear h h' a1 a2 a3 a4 a5 a6 e1 e2 e3 e4 e5 e6
  go_enter Try.func26, Try.ntmps26
  go_wp2
  exact bodyPost_ret (v := v3 (y * z' - z * y') (z * x' - x * z') (x * y' - y * x')) (by simp [results, Try.results26, go_sem]) rfl ⟨rfl, by go_grown⟩

theorem before_any (a b : P2) (w : World) :
    Calls Try.prog 52 #[v2 a.1 a.2, v2 b.1 b.2] w fun e w' => e = .returned (.bool (decide (bef a b))) ∧ Below w.heap.size w w' := by
  obtain ⟨a1, a2⟩ := a
  obtain ⟨b1, b2⟩ := b
  dsimp only
  go_enter Try.func52, Try.ntmps52
  go_wp2
  all_goals (go_ret; refine ⟨ret_bool ?_, by go_grown⟩; (first | exact decide_eq_decide.2 (by unfold bef; dsimp only; omega) | exact (decide_eq_true (by unfold bef; dsimp only; omega)).symm | exact (decide_eq_false (by unfold bef; dsimp only; omega)).symm))
theorem before_e (a b : P2) (v : Bool) (w : World) (h : decide (bef a b) = v) :
    Calls Try.prog 52 #[v2 a.1 a.2, v2 b.1 b.2] w fun e w' => e = .returned (.bool v) ∧ Below w.heap.size w w' := h ▸ before_any a b w

theorem sign_turn (a b c : P2) (n : Int) (h : n = pl a b c - pr a b c) : (0 < n → turnM a b c = 1) ∧ (n < 0 → turnM a b c = -1) ∧ (n = 0 → turnM a b c = 0) := by
  unfold turnM cmpI; omega
set_option maxHeartbeats 1600000 in
theorem refTurn_any (ax ay bx by' cx cy : Int) (w : World) (ha : inP ax ay = true) (hb : inP bx by' = true) (hc : inP cx cy = true) :
    Calls Try.prog 32 #[v2 ax ay, v2 bx by', v2 cx cy] w fun e w' => e = .returned (.int .i64 (turnM (ax, ay) (bx, by') (cx, cy))) ∧ Below w.heap.size w w' := by
  obtain ⟨⟨a1, a2⟩, a3, a4⟩ := inP_true ha
  obtain ⟨⟨b1, b2⟩, b3, b4⟩ := inP_true hb
  obtain ⟨⟨c1, c2⟩, c3, c4⟩ := inP_true hc
  obtain ⟨k1, k2⟩ := mul_in2 (a := bx - ax) (b := cy - ay) (by omega) (by omega) (by omega) (by omega)
  obtain ⟨k3, k4⟩ := mul_in2 (a := by' - ay) (b := cx - ax) (by omega) (by omega) (by omega) (by omega)
  have hs := sign_turn (ax, ay) (bx, by') (cx, cy) ((bx - ax) * (cy - ay) - (by' - ay) * (cx - ax)) rfl
  have Hs := Lib.hid hs
  clear hs ha hb hc
  go_enter Try.func32, Try.ntmps32
  go_wp2
  all_goals (go_ret; refine ⟨ret_int ?_, by go_grown⟩)
  all_goals (obtain ⟨s1, s2, s3⟩ := Hs.out; first | exact (s1 (by omega)).symm | exact (s2 (by omega)).symm | exact (s3 (by omega)).symm)

theorem refTurn_e (ax ay bx by' cx cy v : Int) (w : World) (ha : inP ax ay = true) (hb : inP bx by' = true) (hc : inP cx cy = true) (h : turnM (ax, ay) (bx, by') (cx, cy) = v) :
    Calls Try.prog 32 #[v2 ax ay, v2 bx by', v2 cx cy] w fun e w' => e = .returned (.int .i64 v) ∧ Below w.heap.size w w' := h ▸ refTurn_any ax ay bx by' cx cy w ha hb hc

set_option maxHeartbeats 3200000 in
theorem refOn_any (ax ay bx by' cx cy : Int) (w : World) (ha : inP ax ay = true) (hb : inP bx by' = true) (hc : inP cx cy = true) :
    Calls Try.prog 33 #[v2 ax ay, v2 bx by', v2 cx cy] w fun e w' => e = .returned (.bool (onB (ax, ay) (bx, by') (cx, cy))) ∧ Below w.heap.size w w' := by
  obtain ⟨v, hv⟩ : ∃ v, turnM (ax, ay) (bx, by') (cx, cy) = v := ⟨_, rfl⟩
  have hon : ∀ q : Bool, (q = true ↔ (v = 0 ∧ min ax bx ≤ cx ∧ cx ≤ max ax bx ∧ min ay by' ≤ cy ∧ cy ≤ max ay by')) → q = onB (ax, ay) (bx, by') (cx, cy) := by
    intro q hq
    rw [Bool.eq_iff_iff, hq]
    unfold onB inBox
    rw [decide_eq_true_iff, hv]
  have ht : ∀ W, Calls Try.prog 32 #[v2 ax ay, v2 bx by', v2 cx cy] W fun e w' => e = .returned (.int .i64 v) ∧ Below W.heap.size W w' := fun W => refTurn_e ax ay bx by' cx cy v W ha hb hc hv
  have Ht := Lib.hid ht
  have Hon := Lib.hid hon
  clear ht hon hv ha hb hc
  by_cases h0 : v = 0
  · subst h0
    go_enter Try.func33, Try.ntmps33
    go_wp2_with fail
    refine (Ht.out _).mono ?_
    rintro e w1 ⟨rfl, hb1⟩
    obtain ⟨u0, u1, _, _⟩ := (Blk.kept (w := _) (g := w.heap.size) (cs := [.int .i64 ax, .int .i64 ay]) (t := 46) (((Blk.new _ _ _ rfl).alloc _).alloc _) hb1).two
    obtain ⟨u2, u3, _, _⟩ := (Blk.kept (w := _) (g := w.heap.size + 1) (cs := [.int .i64 bx, .int .i64 by']) (t := 46) ((Blk.new _ _ _ (by simp)).alloc _) hb1).two
    obtain ⟨u4, u5, _, _⟩ := (Blk.kept (w := _) (g := w.heap.size + 1 + 1) (cs := [.int .i64 cx, .int .i64 cy]) (t := 46) (Blk.new _ _ _ (by simp)) hb1).two
    have acc1 : Below w.heap.size w w1 := by (repeat (first | exact Below.refl _ _ | (refine Below.setCell ?_ (by first | omega | (simp; done) | (simp; omega)) _) | (refine Below.alloc ?_ (by first | omega | (simp; done) | (simp; omega)) _) | (refine Below.trans ?_ (Below.mono hb1 (by first | omega | (simp; done) | (simp; omega))))))
    clear hb1
    go_wp2
    all_goals (go_ret; refine ⟨ret_bool (Hon.out _ ?_), acc1⟩)
    all_goals (simp; omega)
  · have hd : (v == 0) = false := by rw [beq_eq_false_iff_ne]; exact h0
    go_enter Try.func33, Try.ntmps33
    go_wp2_with fail
    refine (Ht.out _).mono ?_
    rintro e w1 ⟨rfl, hb1⟩
    go_wp2
    go_ret
    exact ⟨ret_bool (Hon.out _ (by simp; omega)), by (repeat (first | exact Below.refl _ _ | (refine Below.setCell ?_ (by first | omega | (simp; done) | (simp; omega)) _) | (refine Below.alloc ?_ (by first | omega | (simp; done) | (simp; omega)) _) | (refine Below.trans ?_ (Below.mono hb1 (by first | omega | (simp; done) | (simp; omega))))))⟩
end Go.Proofs.Ytnhoabehemnpnaa
