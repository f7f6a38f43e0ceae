/- The numbers of boxes: BoxMoves. -/
import Derived.Test.YtgpcgcflmimnbaaT10
import Derived.IntWalk
import Derived.Laws.BitsLemmas
namespace Go.Proofs.Ytgpcgcflmimnbaa.Vx
open Go Go.RowKit
theorem wid {x : Int} (h : -9223372036854775808 ≤ x ∧ x ≤ 9223372036854775807) : IntKind.i64.wrap x = x := IntWalk.i64_in x (by omega)
/-- The box's error. -/
def bchk (x0 x1 x2 x3 x4 x5 : Int) : Int := if (x0 < -1000000 ∨ 1000000 < x0) ∨ (x1 < -1000000 ∨ 1000000 < x1) ∨ (x2 < -1000000 ∨ 1000000 < x2) ∨ (x3 < -1000000 ∨ 1000000 < x3) ∨ (x4 < -1000000 ∨ 1000000 < x4) ∨ (x5 < -1000000 ∨ 1000000 < x5) then 6 else if x0 ≥ x3 ∨ x1 ≥ x4 ∨ x2 ≥ x5 then 1 else 0
theorem imin_lt (a b c : Int) : imin a b < c ↔ a < c ∨ b < c := by rw [imin_eq]; omega
theorem imax_gt (a b c : Int) : imax a b > c ↔ a > c ∨ b > c := by rw [imax_eq]; omega
theorem empty_box (x0 x1 x2 x3 x4 x5 : Int) : box_empty_0 x0 x1 x2 x3 x4 x5 = decide (x0 ≥ x3 ∨ x1 ≥ x4 ∨ x2 ≥ x5) := by
  unfold box_empty_0
  simp only [decide_eq_true_eq]
  (repeat' split) <;> (simp; omega)
theorem bchk_box (x0 x1 x2 x3 x4 x5 : Int) : box_Check_0 x0 x1 x2 x3 x4 x5 = bchk x0 x1 x2 x3 x4 x5 := by
  unfold box_Check_0 bchk
  simp only [empty_box, decide_eq_true_eq, imin_lt, imax_gt]
  by_cases h : (x0 < -1000000 ∨ 1000000 < x0) ∨ (x1 < -1000000 ∨ 1000000 < x1) ∨ (x2 < -1000000 ∨ 1000000 < x2) ∨ (x3 < -1000000 ∨ 1000000 < x3) ∨ (x4 < -1000000 ∨ 1000000 < x4) ∨ (x5 < -1000000 ∨ 1000000 < x5)
  · rw [if_pos h]
    (repeat' split) <;> first | rfl | omega
  · rw [if_neg h, if_neg (by omega), if_neg (by omega), if_neg (by omega), if_neg (by omega), if_neg (by omega), if_neg (by omega)]
theorem bchk_zero {x0 x1 x2 x3 x4 x5 : Int} (h : bchk x0 x1 x2 x3 x4 x5 = 0) : (-1000000 ≤ x0 ∧ x0 ≤ 1000000) ∧ (-1000000 ≤ x1 ∧ x1 ≤ 1000000) ∧ (-1000000 ≤ x2 ∧ x2 ≤ 1000000) ∧ (-1000000 ≤ x3 ∧ x3 ≤ 1000000) ∧ (-1000000 ≤ x4 ∧ x4 ≤ 1000000) ∧ (-1000000 ≤ x5 ∧ x5 ≤ 1000000) ∧ x0 < x3 ∧ x1 < x4 ∧ x2 < x5 := by
  unfold bchk at h
  split at h
  · cases h
  · split at h
    · cases h
    · omega
/-- Where a box touches another one, by what is known of its sides. -/
def tB (b0 e0 e1 b1 e2 e3 b2 e4 e5 : Bool) : Int := if b0 && e0 then 0 else if b0 && e1 then 1 else if b1 && e2 then 2 else if b1 && e3 then 3 else if b2 && e4 then 4 else if b2 && e5 then 5 else -1
def tM (x0 x1 x2 x3 x4 x5 x6 x7 x8 x9 x10 x11 : Int) : Int :=
  tB (decide (max x1 x7 < min x4 x10 ∧ max x2 x8 < min x5 x11)) (x6 == x3) (x9 == x0) (decide (max x0 x6 < min x3 x9 ∧ max x2 x8 < min x5 x11)) (x7 == x4) (x10 == x1) (decide (max x0 x6 < min x3 x9 ∧ max x1 x7 < min x4 x10)) (x8 == x5) (x11 == x2)
theorem beside0 (x0 x1 x2 x3 x4 x5 x6 x7 x8 x9 x10 x11 : Int) : box_beside_at0_0 x0 x1 x2 x3 x4 x5 x6 x7 x8 x9 x10 x11 = decide (max x1 x7 < min x4 x10 ∧ max x2 x8 < min x5 x11) := by
  unfold box_beside_at0_0
  simp only [empty_box, imin_eq, imax_eq, decide_eq_true_eq]
  split <;> (simp; omega)
theorem beside1 (x0 x1 x2 x3 x4 x5 x6 x7 x8 x9 x10 x11 : Int) : box_beside_at1_0 x0 x1 x2 x3 x4 x5 x6 x7 x8 x9 x10 x11 = decide (max x0 x6 < min x3 x9 ∧ max x2 x8 < min x5 x11) := by
  unfold box_beside_at1_0
  simp only [empty_box, imin_eq, imax_eq, decide_eq_true_eq]
  split <;> (simp; omega)
theorem beside2 (x0 x1 x2 x3 x4 x5 x6 x7 x8 x9 x10 x11 : Int) : box_beside_at2_0 x0 x1 x2 x3 x4 x5 x6 x7 x8 x9 x10 x11 = decide (max x0 x6 < min x3 x9 ∧ max x1 x7 < min x4 x10) := by
  unfold box_beside_at2_0
  simp only [empty_box, imin_eq, imax_eq, decide_eq_true_eq]
  split <;> (simp; omega)
theorem touch_box (x0 x1 x2 x3 x4 x5 x6 x7 x8 x9 x10 x11 : Int) (h1 : bchk x0 x1 x2 x3 x4 x5 = 0) (h2 : bchk x6 x7 x8 x9 x10 x11 = 0) :
    box_Touch_0 x0 x1 x2 x3 x4 x5 x6 x7 x8 x9 x10 x11 = (if tM x0 x1 x2 x3 x4 x5 x6 x7 x8 x9 x10 x11 = -1 then 0 else tM x0 x1 x2 x3 x4 x5 x6 x7 x8 x9 x10 x11) ∧
    box_Touch_1 x0 x1 x2 x3 x4 x5 x6 x7 x8 x9 x10 x11 = (if tM x0 x1 x2 x3 x4 x5 x6 x7 x8 x9 x10 x11 = -1 then 9 else 0) := by
  have w0 : IntKind.i64.wrap (0 + IntKind.i64.wrap (2 * 0)) = 0 := by decide
  have w1 : IntKind.i64.wrap (1 + IntKind.i64.wrap (2 * 0)) = 1 := by decide
  have w2 : IntKind.i64.wrap (0 + IntKind.i64.wrap (2 * IntKind.i64.wrap (0 + 1))) = 2 := by decide
  have w3 : IntKind.i64.wrap (1 + IntKind.i64.wrap (2 * IntKind.i64.wrap (0 + 1))) = 3 := by decide
  have w4 : IntKind.i64.wrap (0 + IntKind.i64.wrap (2 * IntKind.i64.wrap (IntKind.i64.wrap (0 + 1) + 1))) = 4 := by decide
  have w5 : IntKind.i64.wrap (1 + IntKind.i64.wrap (2 * IntKind.i64.wrap (IntKind.i64.wrap (0 + 1) + 1))) = 5 := by decide
  have z : ((0 : Int) != 0) = false := rfl
  unfold box_Touch_0 box_Touch_1 tM
  simp only [bchk_box, h1, h2, z, Bool.false_eq_true, if_false, beside0, beside1, beside2, w0, w1, w2, w3, w4, w5]
  generalize decide (max x1 x7 < min x4 x10 ∧ max x2 x8 < min x5 x11) = b0
  generalize decide (max x0 x6 < min x3 x9 ∧ max x2 x8 < min x5 x11) = b1
  generalize decide (max x0 x6 < min x3 x9 ∧ max x1 x7 < min x4 x10) = b2
  generalize (x6 == x3) = e0
  generalize (x9 == x0) = e1
  generalize (x7 == x4) = e2
  generalize (x10 == x1) = e3
  generalize (x8 == x5) = e4
  generalize (x11 == x2) = e5
  unfold tB
  cases b0 <;> cases b1 <;> cases b2 <;> cases e0 <;> cases e1 <;> cases e2 <;> cases e3 <;> cases e4 <;> cases e5 <;> decide
theorem over_box (x0 x1 x2 x3 x4 x5 x6 x7 x8 x9 x10 x11 : Int) : box_Overlap_0 x0 x1 x2 x3 x4 x5 x6 x7 x8 x9 x10 x11 = decide (max x0 x6 < min x3 x9 ∧ max x1 x7 < min x4 x10 ∧ max x2 x8 < min x5 x11) := by
  unfold box_Overlap_0
  simp only [empty_box, imin_eq, imax_eq, decide_eq_true_eq]
  split <;> (simp; omega)
/-- A sum that stays in the range is the sum. -/
theorem near {x y : Int} (hx : -1000000 ≤ x ∧ x ≤ 1000000) (hy : -9223372036854775808 ≤ y ∧ y ≤ 9223372036854775807) (h : -1000000 ≤ IntKind.i64.wrap (x + y) ∧ IntKind.i64.wrap (x + y) ≤ 1000000) : IntKind.i64.wrap (x + y) = x + y ∧ -2000000 ≤ y ∧ y ≤ 2000000 := by
  rw [IntKind.wrap_i64] at h ⊢; omega
theorem move_box {x0 x1 x2 x3 x4 x5 a b c : Int} (h1 : bchk x0 x1 x2 x3 x4 x5 = 0) (e0 : IntKind.i64.wrap (x0 + a) = x0 + a) (e1 : IntKind.i64.wrap (x1 + b) = x1 + b) (e2 : IntKind.i64.wrap (x2 + c) = x2 + c) (e3 : IntKind.i64.wrap (x3 + a) = x3 + a) (e4 : IntKind.i64.wrap (x4 + b) = x4 + b) (e5 : IntKind.i64.wrap (x5 + c) = x5 + c)
    (h2 : bchk (x0 + a) (x1 + b) (x2 + c) (x3 + a) (x4 + b) (x5 + c) = 0) :
    box_Move_0 x0 x1 x2 x3 x4 x5 a b c = x0 + a ∧ box_Move_1 x0 x1 x2 x3 x4 x5 a b c = x1 + b ∧ box_Move_2 x0 x1 x2 x3 x4 x5 a b c = x2 + c ∧ box_Move_3 x0 x1 x2 x3 x4 x5 a b c = x3 + a ∧ box_Move_4 x0 x1 x2 x3 x4 x5 a b c = x4 + b ∧ box_Move_5 x0 x1 x2 x3 x4 x5 a b c = x5 + c ∧ box_Move_6 x0 x1 x2 x3 x4 x5 a b c = 0 := by
  unfold box_Move_0 box_Move_1 box_Move_2 box_Move_3 box_Move_4 box_Move_5 box_Move_6
  simp [bchk_box, e0, e1, e2, e3, e4, e5, h1, h2]
theorem tM_move (x0 x1 x2 x3 x4 x5 x6 x7 x8 x9 x10 x11 a b c : Int) : tM (x0 + a) (x1 + b) (x2 + c) (x3 + a) (x4 + b) (x5 + c) (x6 + a) (x7 + b) (x8 + c) (x9 + a) (x10 + b) (x11 + c) = tM x0 x1 x2 x3 x4 x5 x6 x7 x8 x9 x10 x11 := by
  unfold tM
  congr 1 <;> first | (simp only [decide_eq_decide]; omega) | (rw [Bool.eq_iff_iff]; simp only [beq_iff_eq]; omega)
theorem over_move (x0 x1 x2 x3 x4 x5 x6 x7 x8 x9 x10 x11 a b c : Int) : box_Overlap_0 (x0 + a) (x1 + b) (x2 + c) (x3 + a) (x4 + b) (x5 + c) (x6 + a) (x7 + b) (x8 + c) (x9 + a) (x10 + b) (x11 + c) = box_Overlap_0 x0 x1 x2 x3 x4 x5 x6 x7 x8 x9 x10 x11 := by
  rw [over_box, over_box]; simp only [decide_eq_decide]; omega
theorem tM_back {x0 x1 x2 x3 x4 x5 x6 x7 x8 x9 x10 x11 : Int} (ha : x0 < x3 ∧ x1 < x4 ∧ x2 < x5) (hb : x6 < x9 ∧ x7 < x10 ∧ x8 < x11) :
    (tM x6 x7 x8 x9 x10 x11 x0 x1 x2 x3 x4 x5 = -1 ↔ tM x0 x1 x2 x3 x4 x5 x6 x7 x8 x9 x10 x11 = -1) ∧
    (tM x0 x1 x2 x3 x4 x5 x6 x7 x8 x9 x10 x11 ≠ -1 → (0 ≤ tM x0 x1 x2 x3 x4 x5 x6 x7 x8 x9 x10 x11 ∧ tM x0 x1 x2 x3 x4 x5 x6 x7 x8 x9 x10 x11 ≤ 5) ∧ (0 ≤ tM x6 x7 x8 x9 x10 x11 x0 x1 x2 x3 x4 x5 ∧ tM x6 x7 x8 x9 x10 x11 x0 x1 x2 x3 x4 x5 ≤ 5) ∧
      (tM x0 x1 x2 x3 x4 x5 x6 x7 x8 x9 x10 x11) / 2 = (tM x6 x7 x8 x9 x10 x11 x0 x1 x2 x3 x4 x5) / 2 ∧ tM x0 x1 x2 x3 x4 x5 x6 x7 x8 x9 x10 x11 ≠ tM x6 x7 x8 x9 x10 x11 x0 x1 x2 x3 x4 x5 ∧
      ¬ (max x0 x6 < min x3 x9 ∧ max x1 x7 < min x4 x10 ∧ max x2 x8 < min x5 x11)) := by
  have s0 : decide (max x7 x1 < min x10 x4 ∧ max x8 x2 < min x11 x5) = decide (max x1 x7 < min x4 x10 ∧ max x2 x8 < min x5 x11) := by simp only [decide_eq_decide]; omega
  have s1 : decide (max x6 x0 < min x9 x3 ∧ max x8 x2 < min x11 x5) = decide (max x0 x6 < min x3 x9 ∧ max x2 x8 < min x5 x11) := by simp only [decide_eq_decide]; omega
  have s2 : decide (max x6 x0 < min x9 x3 ∧ max x7 x1 < min x10 x4) = decide (max x0 x6 < min x3 x9 ∧ max x1 x7 < min x4 x10) := by simp only [decide_eq_decide]; omega
  have n0 : ¬ ((x6 == x3) = true ∧ (x9 == x0) = true) := by simp only [beq_iff_eq]; omega
  have n1 : ¬ ((x7 == x4) = true ∧ (x10 == x1) = true) := by simp only [beq_iff_eq]; omega
  have n2 : ¬ ((x8 == x5) = true ∧ (x11 == x2) = true) := by simp only [beq_iff_eq]; omega
  have o0 : (x6 == x3) = true ∨ (x9 == x0) = true → ¬ (max x0 x6 < min x3 x9 ∧ max x1 x7 < min x4 x10 ∧ max x2 x8 < min x5 x11) := by simp only [beq_iff_eq]; omega
  have o1 : (x7 == x4) = true ∨ (x10 == x1) = true → ¬ (max x0 x6 < min x3 x9 ∧ max x1 x7 < min x4 x10 ∧ max x2 x8 < min x5 x11) := by simp only [beq_iff_eq]; omega
  have o2 : (x8 == x5) = true ∨ (x11 == x2) = true → ¬ (max x0 x6 < min x3 x9 ∧ max x1 x7 < min x4 x10 ∧ max x2 x8 < min x5 x11) := by simp only [beq_iff_eq]; omega
  unfold tM
  rw [s0, s1, s2, show (x0 == x9) = (x9 == x0) from by rw [Bool.eq_iff_iff]; simp only [beq_iff_eq]; omega, show (x3 == x6) = (x6 == x3) from by rw [Bool.eq_iff_iff]; simp only [beq_iff_eq]; omega,
    show (x1 == x10) = (x10 == x1) from by rw [Bool.eq_iff_iff]; simp only [beq_iff_eq]; omega, show (x4 == x7) = (x7 == x4) from by rw [Bool.eq_iff_iff]; simp only [beq_iff_eq]; omega,
    show (x2 == x11) = (x11 == x2) from by rw [Bool.eq_iff_iff]; simp only [beq_iff_eq]; omega, show (x5 == x8) = (x8 == x5) from by rw [Bool.eq_iff_iff]; simp only [beq_iff_eq]; omega]
  generalize decide (max x1 x7 < min x4 x10 ∧ max x2 x8 < min x5 x11) = b0
  generalize decide (max x0 x6 < min x3 x9 ∧ max x2 x8 < min x5 x11) = b1
  generalize decide (max x0 x6 < min x3 x9 ∧ max x1 x7 < min x4 x10) = b2
  generalize (x6 == x3) = e0 at *
  generalize (x9 == x0) = e1 at *
  generalize (x7 == x4) = e2 at *
  generalize (x10 == x1) = e3 at *
  generalize (x8 == x5) = e4 at *
  generalize (x11 == x2) = e5 at *
  generalize (max x0 x6 < min x3 x9 ∧ max x1 x7 < min x4 x10 ∧ max x2 x8 < min x5 x11) = O at *
  clear s0 s1 s2 ha hb
  unfold tB
  cases b0 <;> cases b1 <;> cases b2 <;> cases e0 <;> cases e1 <;> cases e2 <;> cases e3 <;> cases e4 <;> cases e5 <;> simp_all
set_option maxHeartbeats 2000000 in
theorem moves_true (x0 x1 x2 x3 x4 x5 x6 x7 x8 x9 x10 x11 a b c : Int) (ha : -9223372036854775808 ≤ a ∧ a ≤ 9223372036854775807) (hb : -9223372036854775808 ≤ b ∧ b ≤ 9223372036854775807) (hc : -9223372036854775808 ≤ c ∧ c ≤ 9223372036854775807) :
    law06_BoxMoves_0 x0 x1 x2 x3 x4 x5 x6 x7 x8 x9 x10 x11 a b c = true := by
  unfold law06_BoxMoves_0
  by_cases h1 : bchk x0 x1 x2 x3 x4 x5 = 0
  case neg => simp [box_Move_6, bchk_box, h1]
  by_cases h2 : bchk (IntKind.i64.wrap (x0 + a)) (IntKind.i64.wrap (x1 + b)) (IntKind.i64.wrap (x2 + c)) (IntKind.i64.wrap (x3 + a)) (IntKind.i64.wrap (x4 + b)) (IntKind.i64.wrap (x5 + c)) = 0
  case neg => simp [box_Move_6, bchk_box, h1, h2]
  by_cases h3 : bchk x6 x7 x8 x9 x10 x11 = 0
  case neg => simp [box_Move_6, bchk_box, h3]
  by_cases h4 : bchk (IntKind.i64.wrap (x6 + a)) (IntKind.i64.wrap (x7 + b)) (IntKind.i64.wrap (x8 + c)) (IntKind.i64.wrap (x9 + a)) (IntKind.i64.wrap (x10 + b)) (IntKind.i64.wrap (x11 + c)) = 0
  case neg => simp [box_Move_6, bchk_box, h3, h4]
  obtain ⟨a0, a1, a2, a3, a4, a5, a6, a7, a8⟩ := bchk_zero h1
  obtain ⟨c0, c1, c2, c3, c4, c5, _⟩ := bchk_zero h2
  obtain ⟨b0, b1, b2, b3, b4, b5, b6, b7, b8⟩ := bchk_zero h3
  obtain ⟨d0, d1, d2, d3, d4, d5, _⟩ := bchk_zero h4
  obtain ⟨e0, ra⟩ := near a0 ha c0
  obtain ⟨e1, rb⟩ := near a1 hb c1
  obtain ⟨e2, rc⟩ := near a2 hc c2
  obtain ⟨e3, _⟩ := near a3 ha c3
  obtain ⟨e4, _⟩ := near a4 hb c4
  obtain ⟨e5, _⟩ := near a5 hc c5
  obtain ⟨f0, _⟩ := near b0 ha d0
  obtain ⟨f1, _⟩ := near b1 hb d1
  obtain ⟨f2, _⟩ := near b2 hc d2
  obtain ⟨f3, _⟩ := near b3 ha d3
  obtain ⟨f4, _⟩ := near b4 hb d4
  obtain ⟨f5, _⟩ := near b5 hc d5
  rw [e0, e1, e2, e3, e4, e5] at h2
  rw [f0, f1, f2, f3, f4, f5] at h4
  obtain ⟨m0, m1, m2, m3, m4, m5, m6⟩ := move_box h1 e0 e1 e2 e3 e4 e5 h2
  obtain ⟨n0, n1, n2, n3, n4, n5, n6⟩ := move_box h3 f0 f1 f2 f3 f4 f5 h4
  have ga : IntKind.i64.wrap (0 - a) = -a := by rw [wid (by omega)]; omega
  have gb : IntKind.i64.wrap (0 - b) = -b := by rw [wid (by omega)]; omega
  have gc : IntKind.i64.wrap (0 - c) = -c := by rw [wid (by omega)]; omega
  have h1' : bchk (x0 + a + -a) (x1 + b + -b) (x2 + c + -c) (x3 + a + -a) (x4 + b + -b) (x5 + c + -c) = 0 := by
    rw [show x0 + a + -a = x0 by omega, show x1 + b + -b = x1 by omega, show x2 + c + -c = x2 by omega, show x3 + a + -a = x3 by omega, show x4 + b + -b = x4 by omega, show x5 + c + -c = x5 by omega]; exact h1
  obtain ⟨k0, k1, k2, k3, k4, k5, k6⟩ := move_box (a := -a) (b := -b) (c := -c) h2 (wid (by omega)) (wid (by omega)) (wid (by omega)) (wid (by omega)) (wid (by omega)) (wid (by omega)) h1'
  have v1 : box_Volume_1 x0 x1 x2 x3 x4 x5 = 0 ∧ box_Volume_1 (x0 + a) (x1 + b) (x2 + c) (x3 + a) (x4 + b) (x5 + c) = 0 := by unfold box_Volume_1; simp [bchk_box, h1, h2]
  have v0 : box_Volume_0 (x0 + a) (x1 + b) (x2 + c) (x3 + a) (x4 + b) (x5 + c) = box_Volume_0 x0 x1 x2 x3 x4 x5 := by
    unfold box_Volume_0 box_volume_0
    rw [show x3 + a - (x0 + a) = x3 - x0 by omega, show x4 + b - (x1 + b) = x4 - x1 by omega, show x5 + c - (x2 + c) = x5 - x2 by omega]
    simp [bchk_box, h1, h2]
  have ov : box_Overlap_0 (x0 + a) (x1 + b) (x2 + c) (x3 + a) (x4 + b) (x5 + c) (x6 + a) (x7 + b) (x8 + c) (x9 + a) (x10 + b) (x11 + c) = box_Overlap_0 x0 x1 x2 x3 x4 x5 x6 x7 x8 x9 x10 x11 := by
    exact over_move ..
  obtain ⟨t0, t1⟩ := touch_box _ _ _ _ _ _ _ _ _ _ _ _ h1 h3
  obtain ⟨u0, u1⟩ := touch_box _ _ _ _ _ _ _ _ _ _ _ _ h2 h4
  obtain ⟨s0, s1⟩ := touch_box _ _ _ _ _ _ _ _ _ _ _ _ h3 h1
  rw [tM_move] at u0 u1
  obtain ⟨q0, q1⟩ := tM_back (x0 := x0) (x1 := x1) (x2 := x2) (x3 := x3) (x4 := x4) (x5 := x5) (x6 := x6) (x7 := x7) (x8 := x8) (x9 := x9) (x10 := x10) (x11 := x11) ⟨a6, a7, a8⟩ ⟨b6, b7, b8⟩
  simp only [m0, m1, m2, m3, m4, m5, m6, n0, n1, n2, n3, n4, n5, n6, ga, gb, gc, k0, k1, k2, k3, k4, k5, k6, v1.1, v1.2, v0, ov, t0, t1, u0, u1, s0, s1]
  generalize tM x0 x1 x2 x3 x4 x5 x6 x7 x8 x9 x10 x11 = p at *
  generalize tM x6 x7 x8 x9 x10 x11 x0 x1 x2 x3 x4 x5 = q at *
  have r0 : x0 + a + -a = x0 := by omega
  have r1 : x1 + b + -b = x1 := by omega
  have r2 : x2 + c + -c = x2 := by omega
  have r3 : x3 + a + -a = x3 := by omega
  have r4 : x4 + b + -b = x4 := by omega
  have r5 : x5 + c + -c = x5 := by omega
  by_cases hp : p = -1
  · have hq := q0.2 hp
    simp [hp, hq, r0, r1, r2, r3, r4, r5]
  · have hq : ¬ q = -1 := fun h => hp (q0.1 h)
    obtain ⟨z1, z2, z3, z4, z5⟩ := q1 hp
    have y1 : IntKind.i64.wrap (p.tdiv 2) = p / 2 := by rw [Int.tdiv_eq_ediv_of_nonneg z1.1, wid (by omega)]
    have y2 : IntKind.i64.wrap (q.tdiv 2) = q / 2 := by rw [Int.tdiv_eq_ediv_of_nonneg z2.1, wid (by omega)]
    have y3 : box_Overlap_0 x0 x1 x2 x3 x4 x5 x6 x7 x8 x9 x10 x11 = false := by rw [over_box]; exact decide_eq_false z5
    simp [hp, hq, r0, r1, r2, r3, r4, r5, y1, y2, y3, z3, z4]

/-- The statement's own function answers true at all inputs. -/
theorem boxMoves_any (x0 x1 x2 x3 x4 x5 x6 x7 x8 x9 x10 x11 a b c : Int) (w : World) (_ : (Lit.int .i64 x0).wf = true) (_ : (Lit.int .i64 x1).wf = true) (_ : (Lit.int .i64 x2).wf = true) (_ : (Lit.int .i64 x3).wf = true) (_ : (Lit.int .i64 x4).wf = true) (_ : (Lit.int .i64 x5).wf = true) (_ : (Lit.int .i64 x6).wf = true) (_ : (Lit.int .i64 x7).wf = true) (_ : (Lit.int .i64 x8).wf = true) (_ : (Lit.int .i64 x9).wf = true) (_ : (Lit.int .i64 x10).wf = true) (_ : (Lit.int .i64 x11).wf = true) (ha : (Lit.int .i64 a).wf = true) (hb : (Lit.int .i64 b).wf = true) (hc : (Lit.int .i64 c).wf = true) :
    Calls Go.Proofs.Try.prog 10 #[.agg #[.int .i64 x0, .int .i64 x1, .int .i64 x2, .int .i64 x3, .int .i64 x4, .int .i64 x5], .agg #[.int .i64 x6, .int .i64 x7, .int .i64 x8, .int .i64 x9, .int .i64 x10, .int .i64 x11], .agg #[.int .i64 a, .int .i64 b, .int .i64 c]] w fun e w' => e = .returned (.bool true) ∧ Below w.heap.size w w' := by
  have h := tree10_res x0 x1 x2 x3 x4 x5 x6 x7 x8 x9 x10 x11 a b c
  have w64 : ∀ {x : Int}, (Lit.int .i64 x).wf = true → -9223372036854775808 ≤ x ∧ x ≤ 9223372036854775807 := fun {x} h => by
    simp only [Lit.wf, Bool.and_eq_true, decide_eq_true_eq] at h
    have e1 : IntKind.i64.min = -9223372036854775808 := rfl
    have e2 : IntKind.i64.max = 9223372036854775807 := rfl
    omega
  rw [moves_true _ _ _ _ _ _ _ _ _ _ _ _ _ _ _ (w64 ha) (w64 hb) (w64 hc)] at h
  exact fn_true mixed tab17_ok (L := 300) rfl (by rw [tree10_eq]; exact h) w
end Go.Proofs.Ytgpcgcflmimnbaa.Vx
