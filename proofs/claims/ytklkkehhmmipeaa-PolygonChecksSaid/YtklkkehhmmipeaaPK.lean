/- The reference's Allowed and Orient. -/
import Derived.Test.YtklkkehhmmipeaaPF
namespace Go.Proofs.Ytklkkehhmmipeaa
open Go.RowKit
attribute [local go_sem ↓] Go.wp_at_zero Go.wp_at_succ

theorem refAllowed_any (x y : Int) (v : Bool) (w : World) (h : inP x y = v) : Calls Try.prog 22 #[v2 x y] w fun e w' => e = .returned (.bool v) ∧ Below w.heap.size w w' := by
  subst h
  have hcs : (-1000000 ≤ x ∧ x ≤ 1000000 ∧ -1000000 ≤ y ∧ y ≤ 1000000 ∧ inP x y = true) ∨ (¬ -1000000 ≤ x ∧ inP x y = false) ∨ (-1000000 ≤ x ∧ ¬ x ≤ 1000000 ∧ inP x y = false) ∨ (-1000000 ≤ x ∧ x ≤ 1000000 ∧ ¬ -1000000 ≤ y ∧ inP x y = false) ∨ (-1000000 ≤ x ∧ x ≤ 1000000 ∧ -1000000 ≤ y ∧ ¬ y ≤ 1000000 ∧ inP x y = false) := by
    unfold inP inB
    simp only [Bool.and_eq_true, decide_eq_true_eq, Bool.and_eq_false_iff, decide_eq_false_iff_not]
    omega
  rcases hcs with ⟨h1, h2, h3, h4, hv⟩ | ⟨h1, hv⟩ | ⟨h1, h2, hv⟩ | ⟨h1, h2, h3, hv⟩ | ⟨h1, h2, h3, h4, hv⟩
  all_goals
    rw [hv]
    clear hv
    go_enter Try.func22, Try.ntmps22
    go_wp2
    go_ret
    exact ⟨rfl, (by (repeat (first | with_reducible assumption | with_reducible exact Below.refl _ _ | simp only [Below.drew_iff] | simp only [Below.drewN_iff] | with_reducible refine Below.setCell ?_ (by first | omega | (simp; done) | (simp; omega)) _ | with_reducible refine Below.alloc ?_ (by first | omega | (simp; done) | (simp; omega)) _)))⟩

set_option maxHeartbeats 1600000 in
theorem refOrient_any (a b c : P2) (v : Int) (w : World) (h1 : inP a.1 a.2 = true) (h2 : inP b.1 b.2 = true) (h3 : inP c.1 c.2 = true) (hv : turnM a b c = v) :
    Calls Try.prog 24 #[v2 a.1 a.2, v2 b.1 b.2, v2 c.1 c.2] w fun e w' => e = .returned (.int .i64 v) ∧ Below w.heap.size w w' := by
  obtain ⟨ax, ay⟩ := a
  obtain ⟨bx, by'⟩ := b
  obtain ⟨cx, cy⟩ := c
  subst hv
  obtain ⟨⟨a1, a2⟩, a3, a4⟩ := inP_true h1
  obtain ⟨⟨b1, b2⟩, b3, b4⟩ := inP_true h2
  obtain ⟨⟨c1, c2⟩, c3, c4⟩ := inP_true h3
  dsimp only at a1 a2 a3 a4 b1 b2 b3 b4 c1 c2 c3 c4 ⊢
  obtain ⟨p1, p2⟩ := mul_in2 (a := bx - ax) (b := cy - ay) (by omega) (by omega) (by omega) (by omega)
  obtain ⟨q1, q2⟩ := mul_in2 (a := by' - ay) (b := cx - ax) (by omega) (by omega) (by omega) (by omega)
  have ht : turnM (ax, ay) (bx, by') (cx, cy) = cmpI ((bx - ax) * (cy - ay)) ((by' - ay) * (cx - ax)) := rfl
  rw [ht]
  clear ht h1 h2 h3
  have hcs : (0 < (bx - ax) * (cy - ay) - (by' - ay) * (cx - ax) ∧ cmpI ((bx - ax) * (cy - ay)) ((by' - ay) * (cx - ax)) = 1) ∨ (¬ 0 < (bx - ax) * (cy - ay) - (by' - ay) * (cx - ax) ∧ (bx - ax) * (cy - ay) - (by' - ay) * (cx - ax) < 0 ∧ cmpI ((bx - ax) * (cy - ay)) ((by' - ay) * (cx - ax)) = -1) ∨ (¬ 0 < (bx - ax) * (cy - ay) - (by' - ay) * (cx - ax) ∧ ¬ (bx - ax) * (cy - ay) - (by' - ay) * (cx - ax) < 0 ∧ cmpI ((bx - ax) * (cy - ay)) ((by' - ay) * (cx - ax)) = 0) := by
    generalize (bx - ax) * (cy - ay) = p
    generalize (by' - ay) * (cx - ax) = q
    unfold cmpI
    omega
  rcases hcs with ⟨g1, hv⟩ | ⟨g1, g2, hv⟩ | ⟨g1, g2, hv⟩
  all_goals
    rw [hv]
    clear hv
    go_enter Try.func24, Try.ntmps24
    go_wp2
    go_ret
    exact ⟨rfl, (by (repeat (first | with_reducible assumption | with_reducible exact Below.refl _ _ | simp only [Below.drew_iff] | simp only [Below.drewN_iff] | with_reducible refine Below.setCell ?_ (by first | omega | (simp; done) | (simp; omega)) _ | with_reducible refine Below.alloc ?_ (by first | omega | (simp; done) | (simp; omega)) _)))⟩
end Go.Proofs.Ytklkkehhmmipeaa
