/- The reference's Meet. -/
import Derived.Test.YtnhoabehemnpnaaVR3
import Derived.Test.YtnhoabehemnpnaaVR4n
import Derived.Test.YtnhoabehemnpnaaVR4z
import Derived.Test.YtnhoabehemnpnaaVR500
import Derived.Test.YtnhoabehemnpnaaVR501
import Derived.Test.YtnhoabehemnpnaaVR510
import Derived.Test.YtnhoabehemnpnaaVR511
namespace Go.Proofs.Ytnhoabehemnpnaa
open Go.RowKit

theorem eq_pt {a b c d : Int} : ((a, b) : P2) = (c, d) ↔ a = c ∧ b = d := by simp [Prod.mk.injEq]
theorem ne_pt {a b c d : Int} (h : ¬ (a = c ∧ b = d)) : ¬ a = c ∨ ((a = c) = True ∧ ¬ b = d) := by
  by_cases k : a = c
  · exact .inr ⟨eq_true k, fun e => h ⟨k, e⟩⟩
  · exact .inl k
theorem on_e {ax ay bx by' cx cy : Int} {v : Bool} (ha : inP ax ay = true) (hb : inP bx by' = true) (hc : inP cx cy = true) (h : onB (ax, ay) (bx, by') (cx, cy) = v) :
    ∀ W, Calls Try.prog 33 #[v2 ax ay, v2 bx by', v2 cx cy] W fun e w' => e = .returned (.bool v) ∧ Below W.heap.size W w' := fun W => h ▸ refOn_any ax ay bx by' cx cy W ha hb hc

/-- What is left of two segments of one line. -/
theorem line_end (L U : P2) : ∃ (r : Bool) (v : Int), decide (bef L U) = r ∧ (if bef L U then (2 : Int) else if L = U then 1 else 0) = v ∧ ((r = true ∧ v = 2) ∨ (r = false ∧ v = 1 ∧ (L.1 = U.1) = True ∧ (L.2 = U.2) = True) ∨ (r = false ∧ v = 0 ∧ (¬ L.1 = U.1 ∨ ((L.1 = U.1) = True ∧ ¬ L.2 = U.2)))) := by
  by_cases h : bef L U
  · exact ⟨true, 2, decide_eq_true h, if_pos h, .inl ⟨rfl, rfl⟩⟩
  · by_cases e : L = U
    · exact ⟨false, 1, decide_eq_false h, by rw [if_neg h, if_pos e], .inr (.inl ⟨rfl, rfl, eq_true (by rw [e]), eq_true (by rw [e])⟩)⟩
    · exact ⟨false, 0, decide_eq_false h, by rw [if_neg h, if_neg e], .inr (.inr ⟨rfl, rfl, ne_pt fun k => e (Prod.ext k.1 k.2)⟩)⟩

theorem refMeet_any (ax ay bx by' cx cy dx dy : Int) (w : World) (ha : inP ax ay = true) (hb : inP bx by' = true) (hc : inP cx cy = true) (hd : inP dx dy = true) :
    Calls Try.prog 35 #[v2 ax ay, v2 bx by', v2 cx cy, v2 dx dy] w fun e w' => e = .returned (.int .i64 (meetM (ax, ay) (bx, by') (cx, cy) (dx, dy))) ∧ Below w.heap.size w w' := by
  rw [← refMeet_eq]
  by_cases hab : ax = bx ∧ ay = by'
  · have hab' := eq_pt.2 hab
    cases o1 : onB (cx, cy) (dx, dy) (ax, ay)
    · by_cases hcd : cx = dx ∧ cy = dy
      · have hcd' := eq_pt.2 hcd
        cases o2 : onB (ax, ay) (bx, by') (cx, cy)
        · rw [show refMeet (ax, ay) (bx, by') (cx, cy) (dx, dy) = 0 by
            unfold refMeet; rw [if_pos (.inl hab'), if_neg]; rintro (⟨_, k⟩ | ⟨_, k⟩)
            · rw [o1] at k; cases k
            · rw [o2] at k; cases k]
          exact meet_a3false _ _ _ _ _ _ _ _ w ⟨eq_true hab.1, eq_true hab.2⟩ ⟨eq_true hcd.1, eq_true hcd.2⟩ (on_e hc hd ha o1) (on_e ha hb hc o2)
        · rw [show refMeet (ax, ay) (bx, by') (cx, cy) (dx, dy) = 1 by
            unfold refMeet; rw [if_pos (.inl hab'), if_pos (.inr ⟨hcd', o2⟩)]]
          exact meet_a3true _ _ _ _ _ _ _ _ w ⟨eq_true hab.1, eq_true hab.2⟩ ⟨eq_true hcd.1, eq_true hcd.2⟩ (on_e hc hd ha o1) (on_e ha hb hc o2)
      · rw [show refMeet (ax, ay) (bx, by') (cx, cy) (dx, dy) = 0 by
          unfold refMeet; rw [if_pos (.inl hab'), if_neg]; rintro (⟨_, k⟩ | ⟨k, _⟩)
          · rw [o1] at k; cases k
          · exact hcd (eq_pt.1 k)]
        exact meet_a2 _ _ _ _ _ _ _ _ w ⟨eq_true hab.1, eq_true hab.2⟩ (ne_pt hcd) (on_e hc hd ha o1)
    · rw [show refMeet (ax, ay) (bx, by') (cx, cy) (dx, dy) = 1 by
        unfold refMeet; rw [if_pos (.inl hab'), if_pos (.inl ⟨hab', o1⟩)]]
      exact meet_a1 _ _ _ _ _ _ _ _ w ⟨eq_true hab.1, eq_true hab.2⟩ (on_e hc hd ha o1)
  · have nab : ¬ ((ax, ay) : P2) = (bx, by') := fun k => hab (eq_pt.1 k)
    by_cases hcd : cx = dx ∧ cy = dy
    · have hcd' := eq_pt.2 hcd
      cases o2 : onB (ax, ay) (bx, by') (cx, cy)
      · rw [show refMeet (ax, ay) (bx, by') (cx, cy) (dx, dy) = 0 by
          unfold refMeet; rw [if_pos (.inr hcd'), if_neg]; rintro (⟨k, _⟩ | ⟨_, k⟩)
          · exact nab k
          · rw [o2] at k; cases k]
        exact meet_bfalse _ _ _ _ _ _ _ _ w (ne_pt hab) ⟨eq_true hcd.1, eq_true hcd.2⟩ (on_e ha hb hc o2)
      · rw [show refMeet (ax, ay) (bx, by') (cx, cy) (dx, dy) = 1 by
          unfold refMeet; rw [if_pos (.inr hcd'), if_pos (.inr ⟨hcd', o2⟩)]]
        exact meet_btrue _ _ _ _ _ _ _ _ w (ne_pt hab) ⟨eq_true hcd.1, eq_true hcd.2⟩ (on_e ha hb hc o2)
    · have ncd : ¬ ((cx, cy) : P2) = (dx, dy) := fun k => hcd (eq_pt.1 k)
      have nn : ¬ (((ax, ay) : P2) = (bx, by') ∨ ((cx, cy) : P2) = (dx, dy)) := fun k => k.elim nab ncd
      by_cases hl : turnM (ax, ay) (bx, by') (cx, cy) = 0 ∧ turnM (ax, ay) (bx, by') (dx, dy) = 0
      · rw [show refMeet (ax, ay) (bx, by') (cx, cy) (dx, dy) = overM (ax, ay) (bx, by') (cx, cy) (dx, dy) by unfold refMeet; rw [if_neg nn, if_pos hl], over_ref]
        have T1 : ∀ W, Calls Try.prog 32 #[v2 ax ay, v2 bx by', v2 cx cy] W fun e w' => e = .returned (.int .i64 0) ∧ Below W.heap.size W w' := fun W => refTurn_e _ _ _ _ _ _ 0 W ha hb hc hl.1
        have T2 : ∀ W, Calls Try.prog 32 #[v2 ax ay, v2 bx by', v2 dx dy] W fun e w' => e = .returned (.int .i64 0) ∧ Below W.heap.size W w' := fun W => refTurn_e _ _ _ _ _ _ 0 W ha hb hd hl.2
        have S1 := fun W => sorted_any (ax, ay) (bx, by') W
        have S2 := fun W => sorted_any (cx, cy) (dx, dy) W
        generalize minP (ax, ay) (bx, by') = m1 at *
        generalize maxP (ax, ay) (bx, by') = n1 at *
        generalize minP (cx, cy) (dx, dy) = m2 at *
        generalize maxP (cx, cy) (dx, dy) = n2 at *
        obtain ⟨m1x, m1y⟩ := m1
        obtain ⟨n1x, n1y⟩ := n1
        obtain ⟨m2x, m2y⟩ := m2
        obtain ⟨n2x, n2y⟩ := n2
        by_cases q1 : bef (m1x, m1y) (m2x, m2y) <;> by_cases q2 : bef (n2x, n2y) (n1x, n1y)
        · rw [if_pos q1, if_pos q2]
          obtain ⟨r, v, hr, hv, hcs⟩ := line_end (m2x, m2y) (n2x, n2y)
          rw [hv]
          exact meet_l11 _ _ _ _ _ _ _ _ _ _ _ _ _ _ _ _ v r w (ne_pt hab) (ne_pt hcd) T1 T2 S1 S2 (fun W => before_e (m1x, m1y) (m2x, m2y) true W (decide_eq_true q1)) (fun W => before_e (n2x, n2y) (n1x, n1y) true W (decide_eq_true q2)) (fun W => before_e (m2x, m2y) (n2x, n2y) r W hr) hcs
        · rw [if_pos q1, if_neg q2]
          obtain ⟨r, v, hr, hv, hcs⟩ := line_end (m2x, m2y) (n1x, n1y)
          rw [hv]
          exact meet_l10 _ _ _ _ _ _ _ _ _ _ _ _ _ _ _ _ v r w (ne_pt hab) (ne_pt hcd) T1 T2 S1 S2 (fun W => before_e (m1x, m1y) (m2x, m2y) true W (decide_eq_true q1)) (fun W => before_e (n2x, n2y) (n1x, n1y) false W (decide_eq_false q2)) (fun W => before_e (m2x, m2y) (n1x, n1y) r W hr) hcs
        · rw [if_neg q1, if_pos q2]
          obtain ⟨r, v, hr, hv, hcs⟩ := line_end (m1x, m1y) (n2x, n2y)
          rw [hv]
          exact meet_l01 _ _ _ _ _ _ _ _ _ _ _ _ _ _ _ _ v r w (ne_pt hab) (ne_pt hcd) T1 T2 S1 S2 (fun W => before_e (m1x, m1y) (m2x, m2y) false W (decide_eq_false q1)) (fun W => before_e (n2x, n2y) (n1x, n1y) true W (decide_eq_true q2)) (fun W => before_e (m1x, m1y) (n2x, n2y) r W hr) hcs
        · rw [if_neg q1, if_neg q2]
          obtain ⟨r, v, hr, hv, hcs⟩ := line_end (m1x, m1y) (n1x, n1y)
          rw [hv]
          exact meet_l00 _ _ _ _ _ _ _ _ _ _ _ _ _ _ _ _ v r w (ne_pt hab) (ne_pt hcd) T1 T2 S1 S2 (fun W => before_e (m1x, m1y) (m2x, m2y) false W (decide_eq_false q1)) (fun W => before_e (n2x, n2y) (n1x, n1y) false W (decide_eq_false q2)) (fun W => before_e (m1x, m1y) (n1x, n1y) r W hr) hcs
      · rw [show refMeet (ax, ay) (bx, by') (cx, cy) (dx, dy) = if turnM (ax, ay) (bx, by') (cx, cy) * turnM (ax, ay) (bx, by') (dx, dy) ≤ 0 ∧ turnM (cx, cy) (dx, dy) (ax, ay) * turnM (cx, cy) (dx, dy) (bx, by') ≤ 0 then 1 else 0 by unfold refMeet; rw [if_neg nn, if_neg hl]]
        have T1 := fun W => refTurn_any ax ay bx by' cx cy W ha hb hc
        have T2 := fun W => refTurn_any ax ay bx by' dx dy W ha hb hd
        have T3 := fun W => refTurn_any cx cy dx dy ax ay W hc hd ha
        have T4 := fun W => refTurn_any cx cy dx dy bx by' W hc hd hb
        have k1 := mul_one_bd (turnM_bd (ax, ay) (bx, by') (cx, cy)) (turnM_bd (ax, ay) (bx, by') (dx, dy))
        have k2 := mul_one_bd (turnM_bd (cx, cy) (dx, dy) (ax, ay)) (turnM_bd (cx, cy) (dx, dy) (bx, by'))
        generalize turnM (ax, ay) (bx, by') (cx, cy) = t1 at *
        generalize turnM (ax, ay) (bx, by') (dx, dy) = t2 at *
        generalize turnM (cx, cy) (dx, dy) (ax, ay) = t3 at *
        generalize turnM (cx, cy) (dx, dy) (bx, by') = t4 at *
        by_cases z1 : t1 = 0
        · have z2 : ¬ t2 = 0 := fun k => hl ⟨z1, k⟩
          have hz : (t1 == 0) = true ∧ (t2 == 0) = false := ⟨by rw [z1]; rfl, beq_eq_false_iff_ne.2 z2⟩
          by_cases hp : t1 * t2 ≤ 0
          · have e : (if t1 * t2 ≤ 0 ∧ t3 * t4 ≤ 0 then (1 : Int) else 0) = if t3 * t4 ≤ 0 then 1 else 0 := by simp [hp]
            rw [e]
            exact meet_czn _ _ _ _ _ _ _ _ t1 t2 t3 t4 w (ne_pt hab) (ne_pt hcd) T1 T2 T3 T4 k1 k2 hz hp
          · rw [z1] at hp; simp at hp
        · have hz : (t1 == 0) = false := beq_eq_false_iff_ne.2 z1
          by_cases hp : t1 * t2 ≤ 0
          · have e : (if t1 * t2 ≤ 0 ∧ t3 * t4 ≤ 0 then (1 : Int) else 0) = if t3 * t4 ≤ 0 then 1 else 0 := by simp [hp]
            rw [e]
            exact meet_cnn _ _ _ _ _ _ _ _ t1 t2 t3 t4 w (ne_pt hab) (ne_pt hcd) T1 T2 T3 T4 k1 k2 hz hp
          · rw [if_neg (fun k => hp k.1)]
            exact meet_cnp _ _ _ _ _ _ _ _ t1 t2 w (ne_pt hab) (ne_pt hcd) T1 T2 k1 hz (by omega)
end Go.Proofs.Ytnhoabehemnpnaa
