/- Plain facts on products, on the turn at three points, and on segments. -/
import Derived.WalkKit
namespace Go.Proofs.Ytklkkehhmmipeaa

/-- A product of two numbers of at most 4000000. -/
theorem mul_bd {a b A : Int} (h1 : -A ≤ a) (h2 : a ≤ A) (h3 : -A ≤ b) (h4 : b ≤ A) : -(A * A) ≤ a * b ∧ a * b ≤ A * A := by
  have e1 := Int.mul_nonneg (show (0 : Int) ≤ A - a by omega) (show (0 : Int) ≤ A + b by omega)
  have e2 := Int.mul_nonneg (show (0 : Int) ≤ A + a by omega) (show (0 : Int) ≤ A - b by omega)
  have e3 := Int.mul_nonneg (show (0 : Int) ≤ A - a by omega) (show (0 : Int) ≤ A - b by omega)
  have e4 := Int.mul_nonneg (show (0 : Int) ≤ A + a by omega) (show (0 : Int) ≤ A + b by omega)
  simp only [Int.sub_mul, Int.add_mul, Int.mul_sub, Int.mul_add] at e1 e2 e3 e4
  constructor <;> omega

/-- The sign of a comparison. -/
def cmpI (x y : Int) : Int := if x < y then -1 else if y < x then 1 else 0
theorem cmpI_neg (x y : Int) : cmpI y x = - cmpI x y := by unfold cmpI; omega
theorem cmpI_cases (x y : Int) : (x < y ∧ cmpI x y = -1) ∨ (x = y ∧ cmpI x y = 0) ∨ (y < x ∧ cmpI x y = 1) := by unfold cmpI; omega
theorem cmpI_zero {x y : Int} : cmpI x y = 0 ↔ x = y := by unfold cmpI; omega

abbrev P2 := Int × Int
/-- The two products whose comparison is the turn. -/
def pl (a b c : P2) : Int := (b.1 - a.1) * (c.2 - a.2)
def pr (a b c : P2) : Int := (b.2 - a.2) * (c.1 - a.1)
def turnM (a b c : P2) : Int := cmpI (pl a b c) (pr a b c)
theorem turn_swap (a b c : P2) : turnM a c b = - turnM a b c := by
  have h1 : pl a c b = pr a b c := by unfold pl pr; rw [Int.mul_comm]
  have h2 : pr a c b = pl a b c := by unfold pl pr; rw [Int.mul_comm]
  unfold turnM; rw [h1, h2]; exact cmpI_neg _ _
theorem diff_cyc (a b c : P2) : pl a b c - pr a b c = pl b c a - pr b c a := by
  unfold pl pr; grind
theorem turn_cyc (a b c : P2) : turnM b c a = turnM a b c := by
  have h := diff_cyc a b c
  unfold turnM cmpI; omega
theorem turn_rev (a b c : P2) : turnM b a c = - turnM a b c := by rw [turn_swap, turn_cyc, ← turn_cyc]

/-- The order of points. -/
def bef (a b : P2) : Prop := a.1 < b.1 ∨ a.1 = b.1 ∧ a.2 < b.2
instance (a b : P2) : Decidable (bef a b) := by unfold bef; infer_instance
def cmpP (a b : P2) : Int := if bef a b then -1 else if bef b a then 1 else 0
theorem bef_tri (a b : P2) : bef a b ∨ a = b ∨ bef b a := by
  unfold bef
  by_cases h1 : a.1 = b.1
  · by_cases h2 : a.2 = b.2
    · exact .inr (.inl (Prod.ext h1 h2))
    · omega
  · omega
theorem bef_irr (a : P2) : ¬ bef a a := by unfold bef; omega
theorem bef_asym {a b : P2} (h : bef a b) : ¬ bef b a := by unfold bef at *; omega
theorem bef_trans {a b c : P2} (h : bef a b) (k : bef b c) : bef a c := by unfold bef at *; omega
theorem cmpP_neg (a b : P2) : cmpP b a = - cmpP a b := by
  unfold cmpP
  rcases bef_tri a b with h | rfl | h
  · simp [h, bef_asym h]
  · simp [bef_irr]
  · simp [h, bef_asym h]
theorem cmpP_cases (a b : P2) : (bef a b ∧ cmpP a b = -1) ∨ (a = b ∧ cmpP a b = 0) ∨ (bef b a ∧ cmpP a b = 1) := by
  unfold cmpP
  rcases bef_tri a b with h | rfl | h
  · exact .inl ⟨h, by simp [h]⟩
  · exact .inr (.inl ⟨rfl, by simp [bef_irr]⟩)
  · exact .inr (.inr ⟨h, by simp [h, bef_asym h]⟩)
def minP (a b : P2) : P2 := if bef b a then b else a
def maxP (a b : P2) : P2 := if bef b a then a else b
theorem minP_comm (a b : P2) : minP a b = minP b a := by
  unfold minP
  rcases bef_tri a b with h | rfl | h
  · simp [h, bef_asym h]
  · rfl
  · simp [h, bef_asym h]
theorem maxP_comm (a b : P2) : maxP a b = maxP b a := by
  unfold maxP
  rcases bef_tri a b with h | rfl | h
  · simp [h, bef_asym h]
  · rfl
  · simp [h, bef_asym h]
theorem minP_self (a : P2) : minP a a = a := by simp [minP]
theorem maxP_self (a : P2) : maxP a a = a := by simp [maxP]
/-- How many points two segments of one line have in common. -/
def overM (a b c d : P2) : Int := 1 + cmpP (minP (maxP a b) (maxP c d)) (maxP (minP a b) (minP c d))
def meetM (a b c d : P2) : Int :=
  if turnM c d a = 0 ∧ turnM c d b = 0 ∧ turnM a b c = 0 ∧ turnM a b d = 0 then overM a b c d
  else if 0 < turnM c d a * turnM c d b ∨ 0 < turnM a b c * turnM a b d then 0 else 1

theorem over_swap (a b c d : P2) : overM c d a b = overM a b c d := by unfold overM; rw [minP_comm (maxP c d), maxP_comm (minP c d)]
theorem over_rev (a b c d : P2) : overM b a d c = overM a b c d := by unfold overM; rw [minP_comm b, minP_comm d, maxP_comm b, maxP_comm d]
theorem meet_rev (a b c d : P2) : meetM b a d c = meetM a b c d := by
  unfold meetM
  rw [turn_rev c d a, turn_rev c d b, turn_rev a b c, turn_rev a b d, over_rev, Int.neg_mul_neg, Int.neg_mul_neg, Int.mul_comm (turnM c d b), Int.mul_comm (turnM a b d)]
  simp only [Int.neg_eq_zero]
  have e : (turnM c d b = 0 ∧ turnM c d a = 0 ∧ turnM a b d = 0 ∧ turnM a b c = 0) ↔ (turnM c d a = 0 ∧ turnM c d b = 0 ∧ turnM a b c = 0 ∧ turnM a b d = 0) := by omega
  simp only [e]
theorem meet_swap (a b c d : P2) : meetM c d a b = meetM a b c d := by
  unfold meetM
  rw [over_swap]
  have e : (turnM a b c = 0 ∧ turnM a b d = 0 ∧ turnM c d a = 0 ∧ turnM c d b = 0) ↔ (turnM c d a = 0 ∧ turnM c d b = 0 ∧ turnM a b c = 0 ∧ turnM a b d = 0) := by omega
  have e2 : (0 < turnM a b c * turnM a b d ∨ 0 < turnM c d a * turnM c d b) ↔ (0 < turnM c d a * turnM c d b ∨ 0 < turnM a b c * turnM a b d) := by omega
  simp only [e, e2]
theorem meet_revSwap (a b c d : P2) : meetM d c a b = meetM a b c d := by
  unfold meetM
  have eo : overM d c a b = overM a b c d := by unfold overM; rw [minP_comm d, maxP_comm d, minP_comm (maxP c d), maxP_comm (minP c d)]
  rw [turn_rev c d a, turn_rev c d b, eo, Int.neg_mul_neg, Int.mul_comm (turnM a b d)]
  simp only [Int.neg_eq_zero]
  have e : (turnM a b d = 0 ∧ turnM a b c = 0 ∧ turnM c d a = 0 ∧ turnM c d b = 0) ↔ (turnM c d a = 0 ∧ turnM c d b = 0 ∧ turnM a b c = 0 ∧ turnM a b d = 0) := by omega
  have e2 : (0 < turnM a b c * turnM a b d ∨ 0 < turnM c d a * turnM c d b) ↔ (0 < turnM c d a * turnM c d b ∨ 0 < turnM a b c * turnM a b d) := by omega
  simp only [e, e2]
theorem turn_back (a b : P2) : turnM a b a = 0 := by
  have h1 : pl a b a = 0 := by unfold pl; grind
  have h2 : pr a b a = 0 := by unfold pr; grind
  unfold turnM; rw [h1, h2]; rfl
theorem turn_end (a b : P2) : turnM a b b = 0 := by
  have h1 : pl a b b = pr a b b := by unfold pl pr; grind
  unfold turnM; rw [h1]; exact cmpI_zero.2 rfl
theorem turn_none (a b : P2) : turnM a a b = 0 := by rw [← turn_cyc]; exact turn_back _ _
theorem meet_self (a b : P2) : meetM a b a b = if a = b then 1 else 2 := by
  unfold meetM
  rw [if_pos ⟨turn_back _ _, turn_end _ _, turn_back _ _, turn_end _ _⟩]
  unfold overM
  rw [minP_self, maxP_self]
  unfold minP maxP
  rcases bef_tri a b with h | rfl | h
  · have hne : a ≠ b := by rintro rfl; exact bef_irr _ h
    rw [if_neg (bef_asym h), if_neg (bef_asym h), if_neg hne]
    unfold cmpP
    rw [if_neg (bef_asym h), if_pos h]; rfl
  · simp [cmpP, bef_irr]
  · have hne : a ≠ b := by rintro rfl; exact bef_irr _ h
    rw [if_pos h, if_pos h, if_neg hne]
    unfold cmpP
    rw [if_neg (bef_asym h), if_pos h]; rfl
/-- A point is between two others in the order. -/
def betw (a b p : P2) : Prop := ¬ bef p (minP a b) ∧ ¬ bef (maxP a b) p
instance (a b p : P2) : Decidable (betw a b p) := by unfold betw; infer_instance
theorem minP_cases (a b : P2) : (minP a b = a ∧ ¬ bef b a) ∨ (minP a b = b ∧ bef b a) := by
  unfold minP
  by_cases h : bef b a
  · exact .inr ⟨by rw [if_pos h], h⟩
  · exact .inl ⟨by rw [if_neg h], h⟩
theorem maxP_cases (a b : P2) : (maxP a b = b ∧ ¬ bef b a) ∨ (maxP a b = a ∧ bef b a) := by
  unfold maxP
  by_cases h : bef b a
  · exact .inr ⟨by rw [if_pos h], h⟩
  · exact .inl ⟨by rw [if_neg h], h⟩
theorem nbef_trans {a b c : P2} (h : ¬ bef b a) (k : ¬ bef c b) : ¬ bef c a := by unfold bef at *; omega
theorem min_le_max (a b : P2) : ¬ bef (maxP a b) (minP a b) := by
  rcases minP_cases a b with ⟨e, h⟩ | ⟨e, h⟩ <;> rcases maxP_cases a b with ⟨e', h'⟩ | ⟨e', h'⟩ <;> rw [e, e'] <;> first | exact h | exact bef_asym h | contradiction
theorem over_point (a b p : P2) : overM a b p p = if betw a b p then 1 else 0 := by
  unfold overM
  rw [minP_self, maxP_self]
  have hml := min_le_max a b
  by_cases h1 : bef p (minP a b)
  · have h2 : ¬ bef (maxP a b) p := fun h => hml (bef_trans h h1)
    rw [if_neg (fun k : betw a b p => k.1 h1)]
    have e1 : minP (maxP a b) p = p := by
      unfold minP
      by_cases h3 : bef p (maxP a b)
      · rw [if_pos h3]
      · rcases bef_tri (maxP a b) p with h | h | h
        · exact absurd h h2
        · rw [if_neg h3, h]
        · exact absurd h h3
    have e2 : maxP (minP a b) p = minP a b := by unfold maxP; rw [if_pos h1]
    rw [e1, e2]; unfold cmpP; rw [if_pos h1]; rfl
  · by_cases h2 : bef (maxP a b) p
    · rw [if_neg (fun k : betw a b p => k.2 h2)]
      have e1 : minP (maxP a b) p = maxP a b := by unfold minP; rw [if_neg (bef_asym h2)]
      have e2 : maxP (minP a b) p = p := by unfold maxP; rw [if_neg h1]
      rw [e1, e2]; unfold cmpP; rw [if_pos h2]; rfl
    · rw [if_pos (show betw a b p from ⟨h1, h2⟩)]
      have e1 : minP (maxP a b) p = p := by
        unfold minP
        rcases bef_tri (maxP a b) p with h | h | h
        · exact absurd h h2
        · rw [h, if_neg (bef_irr _)]
        · rw [if_pos h]
      have e2 : maxP (minP a b) p = p := by
        unfold maxP; rw [if_neg h1]
      rw [e1, e2]; unfold cmpP; rw [if_neg (bef_irr _), if_neg (bef_irr _)]; rfl
theorem sq_pos {x : Int} (h : x ≠ 0) : 0 < x * x := by
  rcases Int.lt_or_gt_of_ne h with h | h
  · exact Int.mul_pos_of_neg_of_neg h h
  · exact Int.mul_pos h h
theorem meet_point (a b p : P2) : meetM a b p p = if turnM a b p = 0 ∧ betw a b p then 1 else 0 := by
  unfold meetM
  by_cases h : turnM a b p = 0
  · rw [if_pos ⟨turn_none _ _, turn_none _ _, h, h⟩, over_point]
    simp [h]
  · rw [if_neg (by omega), if_pos (.inr (sq_pos h)), if_neg (by omega)]
/-- As the reference asks: the point lies in the box of the segment. -/
def inBox (a b p : P2) : Prop := min a.1 b.1 ≤ p.1 ∧ p.1 ≤ max a.1 b.1 ∧ min a.2 b.2 ≤ p.2 ∧ p.2 ≤ max a.2 b.2
instance (a b p : P2) : Decidable (inBox a b p) := by unfold inBox; infer_instance
/-- A multiple of a positive number that is not negative. -/
theorem nonneg_of_mul {x y : Int} (hx : 0 < x) (h : 0 ≤ x * y) : 0 ≤ y := by
  rcases Int.lt_or_le y 0 with hy | hy
  · exact absurd (Int.mul_neg_of_pos_of_neg hx hy) (by omega)
  · exact hy
/-- On a line from a to the right, a point between in x is between in y. -/
theorem line_right {a b p : P2} (hab : a.1 < b.1) (ht : pl a b p = pr a b p) (h1 : a.1 ≤ p.1) (h2 : p.1 ≤ b.1) : min a.2 b.2 ≤ p.2 ∧ p.2 ≤ max a.2 b.2 := by
  unfold pl pr at ht
  have hd : 0 < b.1 - a.1 := by omega
  have e2 : (b.1 - a.1) * (b.2 - p.2) = (b.2 - a.2) * (b.1 - p.1) := by grind
  rcases Int.le_total a.2 b.2 with hy | hy
  · have k1 := nonneg_of_mul hd (ht ▸ Int.mul_nonneg (show 0 ≤ b.2 - a.2 by omega) (show 0 ≤ p.1 - a.1 by omega))
    have k2 := nonneg_of_mul hd (e2 ▸ Int.mul_nonneg (show 0 ≤ b.2 - a.2 by omega) (show 0 ≤ b.1 - p.1 by omega))
    omega
  · have e3 : (b.1 - a.1) * (a.2 - p.2) = (a.2 - b.2) * (p.1 - a.1) := by grind
    have e4 : (b.1 - a.1) * (p.2 - b.2) = (a.2 - b.2) * (b.1 - p.1) := by grind
    have k1 := nonneg_of_mul hd (e3 ▸ Int.mul_nonneg (show 0 ≤ a.2 - b.2 by omega) (show 0 ≤ p.1 - a.1 by omega))
    have k2 := nonneg_of_mul hd (e4 ▸ Int.mul_nonneg (show 0 ≤ a.2 - b.2 by omega) (show 0 ≤ b.1 - p.1 by omega))
    omega
theorem inBox_comm (a b p : P2) : inBox a b p ↔ inBox b a p := by unfold inBox; omega
theorem betw_comm (a b p : P2) : betw a b p ↔ betw b a p := by unfold betw; rw [minP_comm, maxP_comm]
theorem betw_of {a b p : P2} (h : ¬ bef b a) : betw a b p ↔ (¬ bef p a ∧ ¬ bef b p) := by
  unfold betw minP maxP; rw [if_neg h, if_neg h]
theorem zero_mul_eq {x y : Int} (hx : x ≠ 0) (h : x * y = 0) : y = 0 := by
  rcases Int.mul_eq_zero.1 h with h | h
  · exact absurd h hx
  · exact h
theorem betw_box_le {a b p : P2} (hab : ¬ bef b a) (ht : turnM a b p = 0) : betw a b p ↔ inBox a b p := by
  have ht : pl a b p = pr a b p := cmpI_zero.1 ht
  rw [betw_of hab]
  rcases Int.lt_or_le a.1 b.1 with h | h
  · constructor
    · intro ⟨k1, k2⟩
      have j1 : a.1 ≤ p.1 := by unfold bef at k1; omega
      have j2 : p.1 ≤ b.1 := by unfold bef at k2; omega
      have := line_right h ht j1 j2
      unfold inBox; omega
    · intro k
      unfold inBox at k
      have j1 : a.1 ≤ p.1 := by omega
      have j2 : p.1 ≤ b.1 := by omega
      have hy := line_right h ht j1 j2
      unfold pl pr at ht
      constructor
      · intro hb
        have e : p.1 = a.1 ∧ p.2 < a.2 := by unfold bef at hb; omega
        have : (b.1 - a.1) * (p.2 - a.2) = 0 := by rw [ht, e.1]; simp
        have := zero_mul_eq (by omega) this
        omega
      · intro hb
        have e : p.1 = b.1 ∧ b.2 < p.2 := by unfold bef at hb; omega
        have h3 : (b.1 - a.1) * (p.2 - b.2) = 0 := by have e1 := e.1; grind
        have := zero_mul_eq (by omega) h3
        omega
  · have e1 : a.1 = b.1 := by unfold bef at hab; omega
    have e2 : a.2 ≤ b.2 := by unfold bef at hab; omega
    unfold inBox bef
    constructor
    · intro ⟨k1, k2⟩; omega
    · intro k; omega
theorem betw_box (a b p : P2) (ht : turnM a b p = 0) : betw a b p ↔ inBox a b p := by
  by_cases h : bef b a
  · rw [betw_comm, inBox_comm]
    exact betw_box_le (bef_asym h) (by rw [turn_rev]; omega)
  · exact betw_box_le h ht
/-- On, as the reference says it. -/
def onB (a b p : P2) : Bool := decide (turnM a b p = 0 ∧ inBox a b p)
theorem meet_on (a b p : P2) : meetM a b p p = if onB a b p = true then 1 else 0 := by
  rw [meet_point]
  have e : (turnM a b p = 0 ∧ betw a b p) ↔ onB a b p = true := by
    unfold onB
    rw [decide_eq_true_iff]
    constructor
    · intro ⟨h, k⟩; exact ⟨h, (betw_box a b p h).1 k⟩
    · intro ⟨h, k⟩; exact ⟨h, (betw_box a b p h).2 k⟩
  simp only [e]
theorem on_meet (a b p : P2) : decide (0 < meetM a b p p) = onB a b p := by
  rw [meet_on]
  cases onB a b p <;> rfl
/-- Points of a line through two different points are on one line with each other. -/
theorem line_two {a b c d : P2} (hab : a ≠ b) (h1 : turnM a b c = 0) (h2 : turnM a b d = 0) : turnM c d a = 0 ∧ turnM c d b = 0 := by
  have h1 : pl a b c = pr a b c := cmpI_zero.1 h1
  have h2 : pl a b d = pr a b d := cmpI_zero.1 h2
  unfold turnM
  unfold pl pr at *
  have hne : b.1 - a.1 ≠ 0 ∨ b.2 - a.2 ≠ 0 := by
    by_cases e : b.1 - a.1 = 0
    · right; intro e2; exact hab (Prod.ext (by omega) (by omega))
    · exact .inl e
  have key : (c.1 - a.1) * (d.2 - a.2) - (c.2 - a.2) * (d.1 - a.1) = 0 := by
    rcases hne with hx | hx
    · refine zero_mul_eq hx ?_
      grind
    · refine zero_mul_eq hx ?_
      grind
  constructor <;> rw [cmpI_zero] <;> grind
/-- What the reference answers. -/
def refMeet (a b c d : P2) : Int :=
  if a = b ∨ c = d then (if (a = b ∧ onB c d a = true) ∨ (c = d ∧ onB a b c = true) then 1 else 0)
  else if turnM a b c = 0 ∧ turnM a b d = 0 then overM a b c d
  else if turnM a b c * turnM a b d ≤ 0 ∧ turnM c d a * turnM c d b ≤ 0 then 1 else 0
theorem refMeet_eq (a b c d : P2) : refMeet a b c d = meetM a b c d := by
  unfold refMeet
  by_cases hab : a = b
  · subst hab
    rw [if_pos (.inl rfl)]
    have e : meetM a a c d = meetM c d a a := meet_swap _ _ _ _
    rw [e, meet_on]
    by_cases h : onB c d a = true
    · rw [if_pos (.inl ⟨rfl, h⟩), if_pos h]
    · rw [if_neg h]
      refine if_neg ?_
      rintro (⟨_, k⟩ | ⟨rfl, k⟩)
      · exact h k
      · refine h ?_
        unfold onB inBox at *
        rw [decide_eq_true_iff] at *
        refine ⟨turn_none _ _, ?_⟩
        omega
  · by_cases hcd : c = d
    · subst hcd
      rw [if_pos (.inr rfl), meet_on]
      by_cases h : onB a b c = true
      · rw [if_pos (.inr ⟨rfl, h⟩), if_pos h]
      · rw [if_neg h, if_neg (by rintro (⟨k, _⟩ | ⟨_, k⟩) <;> contradiction)]
    · rw [if_neg (by rintro (k | k) <;> contradiction)]
      unfold meetM
      by_cases h : turnM a b c = 0 ∧ turnM a b d = 0
      · obtain ⟨k1, k2⟩ := line_two hab h.1 h.2
        rw [if_pos h, if_pos ⟨k1, k2, h.1, h.2⟩]
      · rw [if_neg h, if_neg (show ¬ (turnM c d a = 0 ∧ turnM c d b = 0 ∧ turnM a b c = 0 ∧ turnM a b d = 0) from fun k => h ⟨k.2.2.1, k.2.2.2⟩)]
        by_cases h2 : turnM a b c * turnM a b d ≤ 0 ∧ turnM c d a * turnM c d b ≤ 0
        · rw [if_pos h2, if_neg (show ¬ (0 < turnM c d a * turnM c d b ∨ 0 < turnM a b c * turnM a b d) by omega)]
        · rw [if_neg h2, if_pos (show 0 < turnM c d a * turnM c d b ∨ 0 < turnM a b c * turnM a b d by omega)]
end Go.Proofs.Ytklkkehhmmipeaa
