/- Points and half-spaces: the law holds. -/
import Derived.Test.YtkllldhkikmbbaaT8
import Derived.IntWalk
import Derived.Laws.BitsLemmas
namespace Go.Proofs.Ytkllldhkikmbbaa.Vx
open Go Go.RowKit
theorem wid {x : Int} (h : -9223372036854775808 ≤ x ∧ x ≤ 9223372036854775807) : IntKind.i64.wrap x = x := IntWalk.i64_in x (by omega)
theorem gcd_step (a b : Int) : Int.gcd b (a.tmod b) = Int.gcd a b := by
  unfold Int.gcd
  rw [Int.natAbs_tmod, Nat.gcd_comm a.natAbs b.natAbs, Nat.gcd_comm b.natAbs (a.natAbs % b.natAbs), ← Nat.gcd_rec]
theorem euclid_gcd : ∀ (k : Nat) (a b : Int), b.natAbs < k → (euclid k a b).natAbs = Int.gcd a b := by
  intro k
  induction k with
  | zero => intro a b h; omega
  | succ k ih =>
    intro a b h
    unfold euclid
    by_cases hb : b = 0
    · simp [hb]
    · simp only [hb, if_false]
      have h1 : (a.tmod b).natAbs = a.natAbs % b.natAbs := Int.natAbs_tmod ..
      have h2 := Nat.mod_lt a.natAbs (show b.natAbs > 0 by omega)
      rw [ih b (a.tmod b) (by omega), gcd_step]
theorem divisor_code (a b : Int) (h : Int.gcd a b ≤ 9223372036854775807) : vector_divisor_0 a b = Int.gcd a b := by
  unfold vector_divisor_0 gcdA
  have he := euclid_gcd (b.natAbs + 1) a b (by omega)
  generalize euclid (b.natAbs + 1) a b = g at he
  rw [wid (by omega), imax_eq]
  omega
/-- The half-space's error. -/
def chk (a b c d : Int) : Int := if (a < -1000 ∨ 1000 < a) ∨ (b < -1000 ∨ 1000 < b) ∨ (c < -1000 ∨ 1000 < c) ∨ (d < -4000000000 ∨ 4000000000 < d) then 6 else if a = 0 ∧ b = 0 ∧ c = 0 then 1 else 0
theorem chk_plane (a b c d : Int) : plane_Check_0 a b c d = chk a b c d := by
  unfold plane_Check_0 chk
  simp only [decide_eq_true_eq, beq_iff_eq, Bool.and_true, Bool.and_eq_true]
  by_cases h : (a < -1000 ∨ 1000 < a) ∨ (b < -1000 ∨ 1000 < b) ∨ (c < -1000 ∨ 1000 < c) ∨ (d < -4000000000 ∨ 4000000000 < d)
  · rw [if_pos h]
    (repeat' split) <;> first | rfl | omega
  · rw [if_neg h]
    rw [if_neg (by omega), if_neg (by omega), if_neg (by omega), if_neg (by omega), if_neg (by omega), if_neg (by omega), if_neg (by omega), if_neg (by omega)]
theorem chk_zero {a b c d : Int} (h : chk a b c d = 0) : (-1000 ≤ a ∧ a ≤ 1000) ∧ (-1000 ≤ b ∧ b ≤ 1000) ∧ (-1000 ≤ c ∧ c ≤ 1000) ∧ (-4000000000 ≤ d ∧ d ≤ 4000000000) ∧ ¬ (a = 0 ∧ b = 0 ∧ c = 0) := by
  unfold chk at h
  split at h
  · cases h
  · split at h
    · cases h
    · omega
/-- The greatest common divisor of the coefficients. -/
def gM (a b c : Int) : Nat := Nat.gcd (Nat.gcd a.natAbs b.natAbs) c.natAbs
theorem gcd_le (m n k : Nat) (hm : m ≤ k) (hn : n ≤ k) : Nat.gcd m n ≤ k := by
  rcases Nat.eq_zero_or_pos m with h | h
  · subst h; simpa using hn
  · exact Nat.le_trans (Nat.gcd_le_left n h) hm
theorem gM_le {a b c : Int} (ha : -1000 ≤ a ∧ a ≤ 1000) (hb : -1000 ≤ b ∧ b ≤ 1000) (hc : -1000 ≤ c ∧ c ≤ 1000) : gM a b c ≤ 1000 := gcd_le _ _ _ (gcd_le _ _ _ (by omega) (by omega)) (by omega)
theorem gM_pos {a b c : Int} (h : ¬ (a = 0 ∧ b = 0 ∧ c = 0)) : 0 < gM a b c := by
  rcases Nat.eq_zero_or_pos (gM a b c) with h0 | h0
  · unfold gM at h0
    rw [Nat.gcd_eq_zero_iff, Nat.gcd_eq_zero_iff] at h0
    omega
  · exact h0
theorem g_code {a b c : Int} (ha : -1000 ≤ a ∧ a ≤ 1000) (hb : -1000 ≤ b ∧ b ≤ 1000) (hc : -1000 ≤ c ∧ c ≤ 1000) : vector_divisor_0 (vector_divisor_0 (vector_divisor_0 0 a) b) c = gM a b c := by
  have e1 : Int.gcd 0 a = a.natAbs := by simp
  have e2 : ∀ (m : Nat) (x : Int), Int.gcd (m : Int) x = Nat.gcd m x.natAbs := fun m x => by unfold Int.gcd; rw [Int.natAbs_natCast]
  have l1 : Nat.gcd a.natAbs b.natAbs ≤ 1000 := gcd_le _ _ _ (by omega) (by omega)
  have l2 := gM_le ha hb hc
  rw [divisor_code 0 a (by rw [e1]; omega), e1, divisor_code _ b (by rw [e2]; omega), e2, divisor_code _ c (by rw [e2]; unfold gM at l2; omega), e2]
  rfl
/-- The coefficients of a half-space's normal form, and its bound. -/
def nM (x : Int) (g : Nat) : Int := IntKind.i64.wrap (x.tdiv g)
def dM (x : Int) (g : Nat) : Int := if x.tmod g < 0 then IntKind.i64.wrap (IntKind.i64.wrap (x.tdiv g) - 1) else IntKind.i64.wrap (x.tdiv g)
theorem normal_code {a b c d : Int} (h : chk a b c d = 0) : plane_normal_ok a b c d = true ∧ plane_normal_0 a b c d = nM a (gM a b c) ∧ plane_normal_1 a b c d = nM b (gM a b c) ∧ plane_normal_2 a b c d = nM c (gM a b c) ∧ plane_normal_3 a b c d = dM d (gM a b c) := by
  obtain ⟨ha, hb, hc, hd, hz⟩ := chk_zero h
  have hg := g_code ha hb hc
  have hp := gM_pos hz
  have hz' : (a == 0 && (b == 0 && (c == 0 && true))) = false := by
    rw [Bool.eq_false_iff]; simp only [Bool.and_true, ne_eq, Bool.and_eq_true, beq_iff_eq]; omega
  have hq : ((gM a b c : Int) == 0) = false := by rw [Bool.eq_false_iff]; simp only [ne_eq, beq_iff_eq]; omega
  unfold plane_normal_ok plane_normal_0 plane_normal_1 plane_normal_2 plane_normal_3 vector_Primitive_ok vector_Primitive_0 vector_Primitive_1 vector_Primitive_2 vector_Primitive_3 plane_dividedDown_ok plane_dividedDown_0 nM dM
  simp only [hg, hz', hq, decide_eq_true_eq, Bool.false_eq_true, if_false, show ¬ a < -1000000 by omega, show ¬ a > 1000000 by omega, show ¬ b < -1000000 by omega, show ¬ b > 1000000 by omega, show ¬ c < -1000000 by omega, show ¬ c > 1000000 by omega, if_true, and_self]
/-- Equality and inclusion of half-spaces, by their normal forms. -/
theorem equal_code {a b c d a2 b2 c2 d2 : Int} (h1 : chk a b c d = 0) (h2 : chk a2 b2 c2 d2 = 0) : plane_Equal_ok a b c d a2 b2 c2 d2 = true ∧ plane_Equal_1 a b c d a2 b2 c2 d2 = 0 ∧
    plane_Equal_0 a b c d a2 b2 c2 d2 = (nM a (gM a b c) == nM a2 (gM a2 b2 c2) && (nM b (gM a b c) == nM b2 (gM a2 b2 c2) && (nM c (gM a b c) == nM c2 (gM a2 b2 c2) && (dM d (gM a b c) == dM d2 (gM a2 b2 c2) && true)))) := by
  obtain ⟨k, n0, n1, n2, n3⟩ := normal_code h1
  obtain ⟨k', m0, m1, m2, m3⟩ := normal_code h2
  unfold plane_Equal_ok plane_Equal_1 plane_Equal_0
  simp [chk_plane, h1, h2, k, k', n0, n1, n2, n3, m0, m1, m2, m3]
  rfl
theorem mul_bd {a x A X : Int} (h1 : -A ≤ a ∧ a ≤ A) (h2 : -X ≤ x ∧ x ≤ X) : -(A * X) ≤ a * x ∧ a * x ≤ A * X := by
  have e1 := Int.mul_nonneg (a := A - a) (b := X + x) (by omega) (by omega)
  have e2 := Int.mul_nonneg (a := A + a) (b := X - x) (by omega) (by omega)
  have e3 := Int.mul_nonneg (a := A - a) (b := X - x) (by omega) (by omega)
  have e4 := Int.mul_nonneg (a := A + a) (b := X + x) (by omega) (by omega)
  simp only [Int.sub_mul, Int.mul_sub, Int.add_mul, Int.mul_add] at e1 e2 e3 e4
  omega
def outP (x y z : Int) : Prop := (x < -1000000 ∨ x > 1000000) ∨ (y < -1000000 ∨ y > 1000000) ∨ (z < -1000000 ∨ z > 1000000)
instance (x y z : Int) : Decidable (outP x y z) := by unfold outP; infer_instance
theorem dot_code {a b c x y z : Int} (ha : -1000 ≤ a ∧ a ≤ 1000) (hb : -1000 ≤ b ∧ b ≤ 1000) (hc : -1000 ≤ c ∧ c ≤ 1000) :
    vector_Dot_1 a b c x y z = (if outP x y z then 6 else 0) ∧ (¬ outP x y z → vector_Dot_0 a b c x y z = a * x + b * y + c * z ∧ (-3000000000 ≤ a * x + b * y + c * z ∧ a * x + b * y + c * z ≤ 3000000000)) := by
  constructor
  · by_cases h : outP x y z
    · rw [if_pos h]
      unfold outP at h
      unfold vector_Dot_1
      simp only [decide_eq_true_eq]
      rw [if_neg (by omega), if_neg (by omega), if_neg (by omega), if_neg (by omega), if_neg (by omega), if_neg (by omega)]
      (repeat' split) <;> first | rfl | omega
    · rw [if_neg h]
      unfold outP at h
      unfold vector_Dot_1
      simp only [decide_eq_true_eq]
      rw [if_neg (by omega), if_neg (by omega), if_neg (by omega), if_neg (by omega), if_neg (by omega), if_neg (by omega), if_neg (by omega), if_neg (by omega), if_neg (by omega), if_neg (by omega), if_neg (by omega), if_neg (by omega)]
  · intro h
    unfold outP at h
    have h1 := mul_bd (a := a) (x := x) (A := 1000) (X := 1000000) (by omega) (by omega)
    have h2 := mul_bd (a := b) (x := y) (A := 1000) (X := 1000000) (by omega) (by omega)
    have h3 := mul_bd (a := c) (x := z) (A := 1000) (X := 1000000) (by omega) (by omega)
    refine ⟨?_, by omega⟩
    unfold vector_Dot_0 vector_dot_0
    simp only [decide_eq_true_eq]
    rw [if_neg (by omega), if_neg (by omega), if_neg (by omega), if_neg (by omega), if_neg (by omega), if_neg (by omega), if_neg (by omega), if_neg (by omega), if_neg (by omega), if_neg (by omega), if_neg (by omega), if_neg (by omega)]
    rw [wid (x := a * x) (by omega), wid (x := b * y) (by omega), wid (x := c * z) (by omega), wid (x := 0 + a * x) (by omega), wid (x := 0 + a * x + b * y) (by omega), wid (by omega)]
    omega
theorem value_code {a b c d x y z : Int} (h : chk a b c d = 0) : plane_Value_1 a b c d x y z = (if outP x y z then 6 else 0) ∧ (¬ outP x y z → plane_Value_0 a b c d x y z = a * x + b * y + c * z - d) := by
  obtain ⟨ha, hb, hc, hd, _⟩ := chk_zero h
  obtain ⟨d1, d0⟩ := dot_code (x := x) (y := y) (z := z) ha hb hc
  constructor
  · unfold plane_Value_1
    simp only [chk_plane, h, d1]
    by_cases ho : outP x y z <;> simp [ho]
  · intro ho
    obtain ⟨d0, r⟩ := d0 ho
    unfold plane_Value_0
    simp only [chk_plane, h, d1, ho, if_false, d0]
    rw [wid (by omega)]
    simp
theorem nM_mul {g : Nat} (hg : 0 < g) {k : Int} (hk : -1000 ≤ k ∧ k ≤ 1000) : nM (g * k) g = k := by
  unfold nM
  rw [Int.mul_tdiv_cancel_left k (by omega), wid (by omega)]
theorem dM_eq {d : Int} {g : Nat} (hg : 0 < g) (hd : -4000000000 ≤ d ∧ d ≤ 4000000000) : dM d g = d / g ∧ (-4000000000 ≤ d / g ∧ d / g ≤ 4000000000) := by
  have hg' : (0 : Int) < g := by omega
  have b1 : d / (g : Int) ≤ 4000000000 := Int.ediv_le_of_le_mul hg' (by omega)
  have b2 : -4000000000 ≤ d / (g : Int) := Int.le_ediv_of_mul_le hg' (by omega)
  refine ⟨?_, b2, b1⟩
  unfold dM
  have m0 := Int.emod_nonneg d (show (g : Int) ≠ 0 by omega)
  have m1 := Int.emod_lt_of_pos d hg'
  rw [Int.tdiv_eq_ediv, Int.tmod_eq_emod]
  by_cases h : 0 ≤ d ∨ (g : Int) ∣ d
  · rw [if_pos h, if_pos h, if_neg (by omega), wid (by omega)]; omega
  · rw [if_neg h, if_neg h, if_pos (by omega), Int.sign_eq_one_of_pos hg', wid (x := d / g + 1) (by omega), wid (by omega)]; omega
theorem part_of {a : Int} {g : Nat} (h : g ∣ a.natAbs) (hg : 0 < g) (ha : -1000 ≤ a ∧ a ≤ 1000) : ∃ k : Int, a = g * k ∧ (-1000 ≤ k ∧ k ≤ 1000) := by
  obtain ⟨k, hk⟩ := Int.ofNat_dvd_left.2 h
  refine ⟨k, hk, ?_⟩
  have h1 : k.natAbs ≤ a.natAbs := by
    rw [hk, Int.natAbs_mul]
    exact Nat.le_mul_of_pos_left _ (by omega)
  omega
/-- A half-space and its normal form. -/
theorem parts {a b c d : Int} (h : chk a b c d = 0) : ∃ (g : Nat) (k l m : Int), 0 < g ∧ a = g * k ∧ b = g * l ∧ c = g * m ∧ chk k l m (d / g) = 0 ∧ gM a b c = g ∧ gM k l m = 1 ∧ nM a g = k ∧ nM b g = l ∧ nM c g = m ∧ dM d g = d / g ∧
    nM k 1 = k ∧ nM l 1 = l ∧ nM m 1 = m ∧ dM (d / g) 1 = d / g := by
  obtain ⟨ha, hb, hc, hd, hz⟩ := chk_zero h
  have hp := gM_pos hz
  have da : gM a b c ∣ a.natAbs := Nat.dvd_trans (Nat.gcd_dvd_left _ _) (Nat.gcd_dvd_left _ _)
  have db : gM a b c ∣ b.natAbs := Nat.dvd_trans (Nat.gcd_dvd_left _ _) (Nat.gcd_dvd_right _ _)
  have dc : gM a b c ∣ c.natAbs := Nat.gcd_dvd_right _ _
  obtain ⟨k, e1, k1⟩ := part_of da hp ha
  obtain ⟨l, e2, l1⟩ := part_of db hp hb
  obtain ⟨m, e3, m1⟩ := part_of dc hp hc
  have hg1 : gM k l m = 1 := by
    have : gM a b c = gM a b c * gM k l m := by
      have e : gM a b c = Nat.gcd (Nat.gcd (gM a b c * k.natAbs) (gM a b c * l.natAbs)) (gM a b c * m.natAbs) := by
        have f1 : a.natAbs = gM a b c * k.natAbs := by rw [e1, Int.natAbs_mul, ← e1, Int.natAbs_natCast]
        have f2 : b.natAbs = gM a b c * l.natAbs := by rw [e2, Int.natAbs_mul, ← e2, Int.natAbs_natCast]
        have f3 : c.natAbs = gM a b c * m.natAbs := by rw [e3, Int.natAbs_mul, ← e3, Int.natAbs_natCast]
        rw [← f1, ← f2, ← f3]; rfl
      rw [Nat.gcd_mul_left, Nat.gcd_mul_left] at e
      exact e
    exact Nat.eq_of_mul_eq_mul_left hp (by omega)
  generalize gM a b c = g at *
  obtain ⟨d1, d2⟩ := dM_eq hp hd
  have one : ∀ {x : Int}, -1000 ≤ x ∧ x ≤ 1000 → nM x 1 = x := fun {x} hx => by have := nM_mul (g := 1) (by omega) hx; simpa using this
  refine ⟨g, k, l, m, hp, e1, e2, e3, ?_, rfl, hg1, by rw [e1]; exact nM_mul hp k1, by rw [e2]; exact nM_mul hp l1, by rw [e3]; exact nM_mul hp m1, d1, one k1, one l1, one m1, ?_⟩
  · unfold chk
    rw [if_neg (by omega), if_neg]
    rintro ⟨rfl, rfl, rfl⟩
    exact hz ⟨by rw [e1]; simp, by rw [e2]; simp, by rw [e3]; simp⟩
  · have := (dM_eq (g := 1) (by omega) d2).1
    simpa using this
theorem side_same {g : Nat} (hg : 0 < g) (k l m x y z d : Int) : g * k * x + g * l * y + g * m * z - d ≤ 0 ↔ k * x + l * y + m * z - d / g ≤ 0 := by
  have e : g * k * x + g * l * y + g * m * z = (k * x + l * y + m * z) * g := by
    rw [Int.add_mul, Int.add_mul, Int.mul_assoc, Int.mul_assoc, Int.mul_assoc, Int.mul_comm (g : Int) (k * x), Int.mul_comm (g : Int) (l * y), Int.mul_comm (g : Int) (m * z)]
  rw [e]
  have := Int.le_ediv_iff_mul_le (a := k * x + l * y + m * z) (b := d) (c := (g : Int)) (by omega)
  omega
theorem within_is {a b c d a2 b2 c2 d2 : Int} (h1 : chk a b c d = 0) (h2 : chk a2 b2 c2 d2 = 0) : plane_Within_ok a b c d a2 b2 c2 d2 = true ∧ plane_Within_1 a b c d a2 b2 c2 d2 = 0 ∧
    plane_Within_0 a b c d a2 b2 c2 d2 = decide (nM a (gM a b c) = nM a2 (gM a2 b2 c2) ∧ nM b (gM a b c) = nM b2 (gM a2 b2 c2) ∧ nM c (gM a b c) = nM c2 (gM a2 b2 c2) ∧ dM d (gM a b c) ≤ dM d2 (gM a2 b2 c2)) := by
  obtain ⟨k, n0, n1, n2, n3⟩ := normal_code h1
  obtain ⟨k', m0, m1, m2, m3⟩ := normal_code h2
  unfold plane_Within_ok plane_Within_1 plane_Within_0
  simp only [chk_plane, h1, h2, k, k', n0, n1, n2, n3, m0, m1, m2, m3, bne_self_eq_false, Bool.false_eq_true, if_false, if_true, true_and, Bool.and_true, Bool.and_eq_true, beq_iff_eq, decide_eq_true_eq]
  (repeat' split) <;> (simp; omega)
theorem normal_is {a b c d : Int} (h : chk a b c d = 0) : plane_Normal_ok a b c d = true ∧ plane_Normal_0 a b c d = nM a (gM a b c) ∧ plane_Normal_1 a b c d = nM b (gM a b c) ∧ plane_Normal_2 a b c d = nM c (gM a b c) ∧ plane_Normal_3 a b c d = dM d (gM a b c) ∧ plane_Normal_4 a b c d = 0 := by
  obtain ⟨k, n0, n1, n2, n3⟩ := normal_code h
  unfold plane_Normal_ok plane_Normal_0 plane_Normal_1 plane_Normal_2 plane_Normal_3 plane_Normal_4
  simp [chk_plane, h, k, n0, n1, n2, n3]
set_option maxHeartbeats 2000000 in
theorem points_true (a b c d a2 b2 c2 d2 x y z : Int) : law07_PlanePoints_ok a b c d a2 b2 c2 d2 x y z = true ∧ law07_PlanePoints_0 a b c d a2 b2 c2 d2 x y z = true := by
  unfold law07_PlanePoints_ok law07_PlanePoints_0
  by_cases h1 : chk a b c d = 0
  case neg =>
    have hn : plane_Normal_ok a b c d = true ∧ plane_Normal_0 a b c d = 0 ∧ plane_Normal_1 a b c d = 0 ∧ plane_Normal_2 a b c d = 0 ∧ plane_Normal_3 a b c d = 0 ∧ plane_Normal_4 a b c d = chk a b c d := by
      unfold plane_Normal_ok plane_Normal_0 plane_Normal_1 plane_Normal_2 plane_Normal_3 plane_Normal_4
      simp [chk_plane, h1]
    obtain ⟨j, j0, j1, j2, j3, j4⟩ := hn
    simp [h1, j, j0, j1, j2, j3, j4]
  obtain ⟨g, k, l, m, hg, e1, e2, e3, hk, hgM, hg1, n0, n1, n2, n3, o0, o1, o2, o3⟩ := parts h1
  obtain ⟨j, j0, j1, j2, j3, j4⟩ := normal_is h1
  rw [hgM] at j0 j1 j2 j3
  rw [n0] at j0; rw [n1] at j1; rw [n2] at j2; rw [n3] at j3
  obtain ⟨i, i0, i1, i2, i3, i4⟩ := normal_is hk
  rw [hg1] at i0 i1 i2 i3
  rw [o0] at i0; rw [o1] at i1; rw [o2] at i2; rw [o3] at i3
  obtain ⟨v1, v0⟩ := value_code (x := x) (y := y) (z := z) h1
  obtain ⟨w1, w0⟩ := value_code (x := x) (y := y) (z := z) hk
  simp only [j, j0, j1, j2, j3, j4, i, i0, i1, i2, i3, i4, v1, w1]
  by_cases h2 : chk a2 b2 c2 d2 = 0
  case neg =>
    have e : plane_Within_ok a b c d a2 b2 c2 d2 = true ∧ plane_Within_1 a b c d a2 b2 c2 d2 = chk a2 b2 c2 d2 ∧ plane_Within_0 a b c d a2 b2 c2 d2 = false := by
      unfold plane_Within_ok plane_Within_1 plane_Within_0
      simp [chk_plane, h1, h2]
    obtain ⟨p, p1, p0⟩ := e
    by_cases ho : outP x y z
    · simp [ho, p, p1, p0, h2]
    · have hs := side_same hg k l m x y z d
      rw [v0 ho, w0 ho]
      have hs' : a * x + b * y + c * z - d ≤ 0 ↔ k * x + l * y + m * z - d / g ≤ 0 := by rw [e1, e2, e3]; exact hs
      by_cases hq : a * x + b * y + c * z - d ≤ 0
      · simp [ho, p, p1, p0, h2, hq, hs'.1 hq]
      · simp [ho, p, p1, p0, h2, hq, show ¬ (k * x + l * y + m * z - d / g ≤ 0) from fun h => hq (hs'.2 h)]
  obtain ⟨g2, k2, l2, m2, hg2, f1, f2, f3, hk2, hgM2, hg12, q0, q1, q2, q3, _⟩ := parts h2
  obtain ⟨p, p1, p0⟩ := within_is h1 h2
  obtain ⟨r, r1, r0⟩ := within_is h2 h1
  obtain ⟨s, s1, s0⟩ := equal_code h1 h2
  rw [hgM, hgM2, n0, n1, n2, n3, q0, q1, q2, q3] at p0
  rw [hgM, hgM2, n0, n1, n2, n3, q0, q1, q2, q3] at r0
  rw [hgM, hgM2, n0, n1, n2, n3, q0, q1, q2, q3] at s0
  obtain ⟨u1, u0⟩ := value_code (x := x) (y := y) (z := z) h2
  have hS : plane_Equal_0 a b c d a2 b2 c2 d2 = (plane_Within_0 a b c d a2 b2 c2 d2 && plane_Within_0 a2 b2 c2 d2 a b c d) := by
    rw [s0, p0, r0, Bool.eq_iff_iff]
    simp only [Bool.and_true, Bool.and_eq_true, beq_iff_eq, decide_eq_true_eq]
    omega
  by_cases ho : outP x y z
  · cases hw : plane_Within_0 a b c d a2 b2 c2 d2 <;> simp [ho, p, p1, u1]
  · have hs := side_same hg k l m x y z d
    have hs2 := side_same hg2 k2 l2 m2 x y z d2
    have hs' : a * x + b * y + c * z - d ≤ 0 ↔ k * x + l * y + m * z - d / g ≤ 0 := by rw [e1, e2, e3]; exact hs
    have hs2' : a2 * x + b2 * y + c2 * z - d2 ≤ 0 ↔ k2 * x + l2 * y + m2 * z - d2 / g2 ≤ 0 := by rw [f1, f2, f3]; exact hs2
    have hin : plane_Within_0 a b c d a2 b2 c2 d2 = true → a * x + b * y + c * z - d ≤ 0 → a2 * x + b2 * y + c2 * z - d2 ≤ 0 := fun hw hv => by
      rw [p0, decide_eq_true_eq] at hw
      obtain ⟨rfl, rfl, rfl, hd⟩ := hw
      have := hs'.1 hv
      exact hs2'.2 (by omega)
    rw [v0 ho, w0 ho, u0 ho]
    clear v0 w0 u0 s0 p0 r0
    have hiff : decide (k * x + l * y + m * z - d / g ≤ 0) = decide (a * x + b * y + c * z - d ≤ 0) := by simp only [decide_eq_decide]; exact hs'.symm
    have hgt : decide (a * x + b * y + c * z - d > 0) = !decide (a * x + b * y + c * z - d ≤ 0) := by rw [Bool.eq_iff_iff]; simp
    simp only [hiff, hgt, u1, ho, if_false, p, p1, r, r1, s, s1, hS]
    have hin2 : plane_Within_0 a b c d a2 b2 c2 d2 = true → decide (a * x + b * y + c * z - d ≤ 0) = true → decide (a2 * x + b2 * y + c2 * z - d2 ≤ 0) = true := fun hw hv => decide_eq_true (hin hw (of_decide_eq_true hv))
    generalize plane_Within_0 a b c d a2 b2 c2 d2 = W at *
    generalize plane_Within_0 a2 b2 c2 d2 a b c d = W2 at *
    generalize decide (a * x + b * y + c * z - d ≤ 0) = V at *
    generalize decide (a2 * x + b2 * y + c2 * z - d2 ≤ 0) = U at *
    clear hin hiff hgt hS hs hs2 hs' hs2'
    cases W <;> cases W2 <;> cases V <;> cases U <;> simp at hin2 ⊢

/-- The statement's own function answers true at all inputs. -/
theorem planePoints_any (a b c d a2 b2 c2 d2 x y z : Int) (w : World) : Calls Go.Proofs.Try.prog 8 #[.agg #[.int .i64 a, .int .i64 b, .int .i64 c, .int .i64 d], .agg #[.int .i64 a2, .int .i64 b2, .int .i64 c2, .int .i64 d2], .agg #[.int .i64 x, .int .i64 y, .int .i64 z]] w fun e w' => e = .returned (.bool true) ∧ Below w.heap.size w w' := by
  have h := tree8_res a b c d a2 b2 c2 d2 x y z
  obtain ⟨h1, h2⟩ := points_true a b c d a2 b2 c2 d2 x y z
  rw [h1, h2, if_pos rfl] at h
  exact fn_true mixed tab19_ok (L := 300) rfl (by rw [tree8_eq]; exact h) w
end Go.Proofs.Ytkllldhkikmbbaa.Vx
