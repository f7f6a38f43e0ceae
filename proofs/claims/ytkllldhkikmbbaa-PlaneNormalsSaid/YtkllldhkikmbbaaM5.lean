/- The numbers of half-spaces: PlaneNormals. -/
import Derived.Test.YtkllldhkikmbbaaT5
import Derived.IntWalk
namespace Go.Proofs.Ytkllldhkikmbbaa.Vx
open Go Go.RowKit
theorem wid {x : Int} (h : -9223372036854775808 ≤ x ∧ x ≤ 9223372036854775807) : IntKind.i64.wrap x = x := IntWalk.i64_in x (by omega)
theorem gcd_step (a b : Int) : Int.gcd b (a.tmod b) = Int.gcd a b := by
  unfold Int.gcd
  rw [Int.natAbs_tmod, Nat.gcd_comm a.natAbs b.natAbs, Nat.gcd_comm b.natAbs (a.natAbs % b.natAbs), ← Nat.gcd_rec]
theorem euclid_gcd : ∀ (k : Nat) (a b : Int), b.natAbs < k → (euclid k a b).natAbs = Int.gcd a b := by
  intro k
  induction k with
  | zero => intro a b h; omega
  | succ k ih =>
    intro a b h
    unfold euclid
    by_cases hb : b = 0
    · simp [hb]
    · simp only [hb, if_false]
      have h1 : (a.tmod b).natAbs = a.natAbs % b.natAbs := Int.natAbs_tmod ..
      have h2 := Nat.mod_lt a.natAbs (show b.natAbs > 0 by omega)
      rw [ih b (a.tmod b) (by omega), gcd_step]
theorem euclidB_gcd : ∀ (k : Nat) (a b : Int), b.toNat < k → 0 ≤ a → 0 ≤ b → (euclidB k a b).1 = Int.gcd a b := by
  intro k
  induction k with
  | zero => intro a b h; omega
  | succ k ih =>
    intro a b h ha hb
    unfold euclidB
    by_cases hb : b > 0
    · simp only [hb, if_true]
      have h1 : 0 ≤ a.tmod b := Int.tmod_nonneg _ ha
      have h2 : a.tmod b < b := Int.tmod_lt_of_pos _ hb
      rw [ih b (a.tmod b) (by omega) (by omega) h1, gcd_step]
    · have : b = 0 := by omega
      subst this
      simp
      omega
theorem divisor_code (a b : Int) (h : Int.gcd a b ≤ 9223372036854775807) : vector_divisor_0 a b = Int.gcd a b := by
  unfold vector_divisor_0 gcdA
  have he := euclid_gcd (b.natAbs + 1) a b (by omega)
  generalize euclid (b.natAbs + 1) a b = g at he
  rw [wid (by omega), imax_eq]
  omega
theorem divisor_ref (a b : Int) (ha : 0 ≤ a) (hb : 0 ≤ b) : ref03_Divisor_0 a b = Int.gcd a b := by
  unfold ref03_Divisor_0 gcdB
  exact euclidB_gcd _ a b (by omega) ha hb
/-- The half-space's error. -/
def chk (a b c d : Int) : Int := if (a < -1000 ∨ 1000 < a) ∨ (b < -1000 ∨ 1000 < b) ∨ (c < -1000 ∨ 1000 < c) ∨ (d < -4000000000 ∨ 4000000000 < d) then 6 else if a = 0 ∧ b = 0 ∧ c = 0 then 1 else 0
theorem chk_plane (a b c d : Int) : plane_Check_0 a b c d = chk a b c d := by
  unfold plane_Check_0 chk
  simp only [decide_eq_true_eq, beq_iff_eq, Bool.and_true, Bool.and_eq_true]
  by_cases h : (a < -1000 ∨ 1000 < a) ∨ (b < -1000 ∨ 1000 < b) ∨ (c < -1000 ∨ 1000 < c) ∨ (d < -4000000000 ∨ 4000000000 < d)
  · rw [if_pos h]
    (repeat' split) <;> first | rfl | omega
  · rw [if_neg h]
    rw [if_neg (by omega), if_neg (by omega), if_neg (by omega), if_neg (by omega), if_neg (by omega), if_neg (by omega), if_neg (by omega), if_neg (by omega)]
theorem factor_ref (x : Int) : ref07_factor_0 x = decide (-1000 ≤ x ∧ x ≤ 1000) := by
  unfold ref07_factor_0
  simp only [decide_eq_true_eq]
  (repeat' split) <;> (simp; omega)
theorem chk_ref (a b c d : Int) : ref07_Check_0 a b c d = chk a b c d := by
  unfold ref07_Check_0 chk
  simp only [factor_ref, decide_eq_true_eq, beq_iff_eq]
  by_cases h : (a < -1000 ∨ 1000 < a) ∨ (b < -1000 ∨ 1000 < b) ∨ (c < -1000 ∨ 1000 < c) ∨ (d < -4000000000 ∨ 4000000000 < d)
  · rw [if_pos h]
    (repeat' split) <;> first | rfl | omega
  · rw [if_neg h, if_pos (by omega), if_pos (by omega), if_pos (by omega), if_neg (by omega), if_neg (by omega)]
    (repeat' split) <;> first | rfl | omega
theorem chk_zero {a b c d : Int} (h : chk a b c d = 0) : (-1000 ≤ a ∧ a ≤ 1000) ∧ (-1000 ≤ b ∧ b ≤ 1000) ∧ (-1000 ≤ c ∧ c ≤ 1000) ∧ (-4000000000 ≤ d ∧ d ≤ 4000000000) ∧ ¬ (a = 0 ∧ b = 0 ∧ c = 0) := by
  unfold chk at h
  split at h
  · cases h
  · split at h
    · cases h
    · omega
/-- The greatest common divisor of the coefficients. -/
def gM (a b c : Int) : Nat := Nat.gcd (Nat.gcd a.natAbs b.natAbs) c.natAbs
theorem gcd_le (m n k : Nat) (hm : m ≤ k) (hn : n ≤ k) : Nat.gcd m n ≤ k := by
  rcases Nat.eq_zero_or_pos m with h | h
  · subst h; simpa using hn
  · exact Nat.le_trans (Nat.gcd_le_left n h) hm
theorem gM_le {a b c : Int} (ha : -1000 ≤ a ∧ a ≤ 1000) (hb : -1000 ≤ b ∧ b ≤ 1000) (hc : -1000 ≤ c ∧ c ≤ 1000) : gM a b c ≤ 1000 := gcd_le _ _ _ (gcd_le _ _ _ (by omega) (by omega)) (by omega)
theorem gM_pos {a b c : Int} (h : ¬ (a = 0 ∧ b = 0 ∧ c = 0)) : 0 < gM a b c := by
  rcases Nat.eq_zero_or_pos (gM a b c) with h0 | h0
  · unfold gM at h0
    rw [Nat.gcd_eq_zero_iff, Nat.gcd_eq_zero_iff] at h0
    omega
  · exact h0
theorem g_code {a b c : Int} (ha : -1000 ≤ a ∧ a ≤ 1000) (hb : -1000 ≤ b ∧ b ≤ 1000) (hc : -1000 ≤ c ∧ c ≤ 1000) : vector_divisor_0 (vector_divisor_0 (vector_divisor_0 0 a) b) c = gM a b c := by
  have e1 : Int.gcd 0 a = a.natAbs := by simp
  have e2 : ∀ (m : Nat) (x : Int), Int.gcd (m : Int) x = Nat.gcd m x.natAbs := fun m x => by unfold Int.gcd; rw [Int.natAbs_natCast]
  have l1 : Nat.gcd a.natAbs b.natAbs ≤ 1000 := gcd_le _ _ _ (by omega) (by omega)
  have l2 := gM_le ha hb hc
  rw [divisor_code 0 a (by rw [e1]; omega), e1, divisor_code _ b (by rw [e2]; omega), e2, divisor_code _ c (by rw [e2]; unfold gM at l2; omega), e2]
  rfl
theorem abs_ref {x : Int} (h : -1000 ≤ x ∧ x ≤ 1000) : ref07_absolute_0 x = (x.natAbs : Int) := by
  unfold ref07_absolute_0
  rw [wid (by omega)]
  simp only [decide_eq_true_eq]
  split <;> omega
theorem g_ref {a b c : Int} (ha : -1000 ≤ a ∧ a ≤ 1000) (hb : -1000 ≤ b ∧ b ≤ 1000) (hc : -1000 ≤ c ∧ c ≤ 1000) : ref03_Divisor_0 (ref03_Divisor_0 (ref07_absolute_0 a) (ref07_absolute_0 b)) (ref07_absolute_0 c) = gM a b c := by
  have e2 : ∀ (m n : Nat), Int.gcd (m : Int) (n : Int) = Nat.gcd m n := fun m n => by unfold Int.gcd; rw [Int.natAbs_natCast, Int.natAbs_natCast]
  rw [abs_ref ha, abs_ref hb, abs_ref hc, divisor_ref (a.natAbs : Int) (b.natAbs : Int) (by omega) (by omega), e2, divisor_ref _ _ (by omega) (by omega), e2]
  rfl
/-- The coefficients of a half-space's normal form, and its bound. -/
def nM (x : Int) (g : Nat) : Int := IntKind.i64.wrap (x.tdiv g)
def dM (x : Int) (g : Nat) : Int := if x.tmod g < 0 then IntKind.i64.wrap (IntKind.i64.wrap (x.tdiv g) - 1) else IntKind.i64.wrap (x.tdiv g)
theorem normal_code {a b c d : Int} (h : chk a b c d = 0) : plane_normal_ok a b c d = true ∧ plane_normal_0 a b c d = nM a (gM a b c) ∧ plane_normal_1 a b c d = nM b (gM a b c) ∧ plane_normal_2 a b c d = nM c (gM a b c) ∧ plane_normal_3 a b c d = dM d (gM a b c) := by
  obtain ⟨ha, hb, hc, hd, hz⟩ := chk_zero h
  have hg := g_code ha hb hc
  have hp := gM_pos hz
  have hz' : (a == 0 && (b == 0 && (c == 0 && true))) = false := by
    rw [Bool.eq_false_iff]; simp only [Bool.and_true, ne_eq, Bool.and_eq_true, beq_iff_eq]; omega
  have hq : ((gM a b c : Int) == 0) = false := by rw [Bool.eq_false_iff]; simp only [ne_eq, beq_iff_eq]; omega
  unfold plane_normal_ok plane_normal_0 plane_normal_1 plane_normal_2 plane_normal_3 vector_Primitive_ok vector_Primitive_0 vector_Primitive_1 vector_Primitive_2 vector_Primitive_3 plane_dividedDown_ok plane_dividedDown_0 nM dM
  simp only [hg, hz', hq, decide_eq_true_eq, Bool.false_eq_true, if_false, show ¬ a < -1000000 by omega, show ¬ a > 1000000 by omega, show ¬ b < -1000000 by omega, show ¬ b > 1000000 by omega, show ¬ c < -1000000 by omega, show ¬ c > 1000000 by omega, if_true, and_self]
theorem normal_ref {a b c d : Int} (h : chk a b c d = 0) : ref07_Normal_ok a b c d = true ∧ ref07_Normal_0 a b c d = nM a (gM a b c) ∧ ref07_Normal_1 a b c d = nM b (gM a b c) ∧ ref07_Normal_2 a b c d = nM c (gM a b c) ∧ ref07_Normal_3 a b c d = dM d (gM a b c) := by
  obtain ⟨ha, hb, hc, hd, hz⟩ := chk_zero h
  have hg := g_ref ha hb hc
  have hp := gM_pos hz
  have hq : ((gM a b c : Int) == 0) = false := by rw [Bool.eq_false_iff]; simp only [ne_eq, beq_iff_eq]; omega
  unfold ref07_Normal_ok ref07_Normal_0 ref07_Normal_1 ref07_Normal_2 ref07_Normal_3 ref07_floor_ok ref07_floor_0 nM dM
  simp only [hg, hq, decide_eq_true_eq, Bool.false_eq_true, if_false, if_true, and_self]
/-- Equality and inclusion of half-spaces, by their normal forms. -/
theorem equal_code {a b c d a2 b2 c2 d2 : Int} (h1 : chk a b c d = 0) (h2 : chk a2 b2 c2 d2 = 0) : plane_Equal_ok a b c d a2 b2 c2 d2 = true ∧ plane_Equal_1 a b c d a2 b2 c2 d2 = 0 ∧
    plane_Equal_0 a b c d a2 b2 c2 d2 = (nM a (gM a b c) == nM a2 (gM a2 b2 c2) && (nM b (gM a b c) == nM b2 (gM a2 b2 c2) && (nM c (gM a b c) == nM c2 (gM a2 b2 c2) && (dM d (gM a b c) == dM d2 (gM a2 b2 c2) && true)))) := by
  obtain ⟨k, n0, n1, n2, n3⟩ := normal_code h1
  obtain ⟨k', m0, m1, m2, m3⟩ := normal_code h2
  unfold plane_Equal_ok plane_Equal_1 plane_Equal_0
  simp [chk_plane, h1, h2, k, k', n0, n1, n2, n3, m0, m1, m2, m3]
  rfl
theorem within_code {a b c d a2 b2 c2 d2 : Int} (h1 : chk a b c d = 0) (h2 : chk a2 b2 c2 d2 = 0) : plane_Within_ok a b c d a2 b2 c2 d2 = true ∧ plane_Within_1 a b c d a2 b2 c2 d2 = 0 ∧ ref07_Within_ok a b c d a2 b2 c2 d2 = true ∧
    plane_Within_0 a b c d a2 b2 c2 d2 = ref07_Within_0 a b c d a2 b2 c2 d2 := by
  obtain ⟨k, n0, n1, n2, n3⟩ := normal_code h1
  obtain ⟨k', m0, m1, m2, m3⟩ := normal_code h2
  obtain ⟨r, p0, p1, p2, p3⟩ := normal_ref h1
  obtain ⟨r', q0, q1, q2, q3⟩ := normal_ref h2
  unfold plane_Within_ok plane_Within_1 plane_Within_0 ref07_Within_ok ref07_Within_0
  simp only [chk_plane, h1, h2, k, k', n0, n1, n2, n3, m0, m1, m2, m3, r, r', p0, p1, p2, p3, q0, q1, q2, q3, bne_self_eq_false, Bool.false_eq_true, if_false, if_true, true_and]
  cases (nM a (gM a b c) == nM a2 (gM a2 b2 c2)) <;> cases (nM b (gM a b c) == nM b2 (gM a2 b2 c2)) <;> cases (nM c (gM a b c) == nM c2 (gM a2 b2 c2)) <;> rfl
theorem normals_true (a b c d a2 b2 c2 d2 : Int) : law07_PlaneNormals_ok a b c d a2 b2 c2 d2 = true ∧ law07_PlaneNormals_0 a b c d a2 b2 c2 d2 = true := by
  unfold law07_PlaneNormals_ok law07_PlaneNormals_0
  by_cases h1 : chk a b c d = 0
  · obtain ⟨k, n0, n1, n2, n3⟩ := normal_code h1
    obtain ⟨r, p0, p1, p2, p3⟩ := normal_ref h1
    have hn : plane_Normal_ok a b c d = true ∧ plane_Normal_0 a b c d = nM a (gM a b c) ∧ plane_Normal_1 a b c d = nM b (gM a b c) ∧ plane_Normal_2 a b c d = nM c (gM a b c) ∧ plane_Normal_3 a b c d = dM d (gM a b c) ∧ plane_Normal_4 a b c d = 0 := by
      unfold plane_Normal_ok plane_Normal_0 plane_Normal_1 plane_Normal_2 plane_Normal_3 plane_Normal_4
      simp [chk_plane, h1, k, n0, n1, n2, n3]
    obtain ⟨j, j0, j1, j2, j3, j4⟩ := hn
    by_cases h2 : chk a2 b2 c2 d2 = 0
    · obtain ⟨e, e1, e0⟩ := equal_code h1 h2
      obtain ⟨i, i1, i2, i0⟩ := within_code h1 h2
      obtain ⟨r', q0, q1, q2, q3⟩ := normal_ref h2
      simp only [chk_ref, h1, h2, j, j0, j1, j2, j3, j4, e, e1, e0, i, i1, i2, i0, r, r', p0, p1, p2, p3, q0, q1, q2, q3]
      cases (nM a (gM a b c) == nM a2 (gM a2 b2 c2) && (nM b (gM a b c) == nM b2 (gM a2 b2 c2) && (nM c (gM a b c) == nM c2 (gM a2 b2 c2) && (dM d (gM a b c) == dM d2 (gM a2 b2 c2) && true)))) <;>
        cases ref07_Within_0 a b c d a2 b2 c2 d2 <;> simp
    · have e : plane_Equal_ok a b c d a2 b2 c2 d2 = true ∧ plane_Equal_1 a b c d a2 b2 c2 d2 = chk a2 b2 c2 d2 ∧ plane_Equal_0 a b c d a2 b2 c2 d2 = false ∧ plane_Within_ok a b c d a2 b2 c2 d2 = true ∧ plane_Within_1 a b c d a2 b2 c2 d2 = chk a2 b2 c2 d2 ∧ plane_Within_0 a b c d a2 b2 c2 d2 = false := by
        unfold plane_Equal_ok plane_Equal_1 plane_Equal_0 plane_Within_ok plane_Within_1 plane_Within_0
        simp [chk_plane, h1, h2]
      obtain ⟨e, e1, e0, i, i1, i0⟩ := e
      simp [chk_ref, h1, h2, j, j0, j1, j2, j3, j4, e, e1, e0, i, i1, i0, r, p0, p1, p2, p3]
  · have hn : plane_Normal_ok a b c d = true ∧ plane_Normal_0 a b c d = 0 ∧ plane_Normal_1 a b c d = 0 ∧ plane_Normal_2 a b c d = 0 ∧ plane_Normal_3 a b c d = 0 ∧ plane_Normal_4 a b c d = chk a b c d := by
      unfold plane_Normal_ok plane_Normal_0 plane_Normal_1 plane_Normal_2 plane_Normal_3 plane_Normal_4
      simp [chk_plane, h1]
    obtain ⟨j, j0, j1, j2, j3, j4⟩ := hn
    have e : plane_Equal_ok a b c d a2 b2 c2 d2 = true ∧ plane_Equal_1 a b c d a2 b2 c2 d2 = chk a b c d ∧ plane_Equal_0 a b c d a2 b2 c2 d2 = false ∧ plane_Within_ok a b c d a2 b2 c2 d2 = true ∧ plane_Within_1 a b c d a2 b2 c2 d2 = chk a b c d ∧ plane_Within_0 a b c d a2 b2 c2 d2 = false := by
      unfold plane_Equal_ok plane_Equal_1 plane_Equal_0 plane_Within_ok plane_Within_1 plane_Within_0
      simp [chk_plane, h1]
    obtain ⟨e, e1, e0, i, i1, i0⟩ := e
    simp [chk_ref, h1, j, j0, j1, j2, j3, j4, e, e1, e0, i, i1, i0]

/-- The statement's own function answers true at all inputs. -/
theorem planeNormals_any (a b c d a2 b2 c2 d2 : Int) (w : World) : Calls Go.Proofs.Try.prog 5 #[.agg #[.int .i64 a, .int .i64 b, .int .i64 c, .int .i64 d], .agg #[.int .i64 a2, .int .i64 b2, .int .i64 c2, .int .i64 d2]] w fun e w' => e = .returned (.bool true) ∧ Below w.heap.size w w' := by
  have h := tree5_res a b c d a2 b2 c2 d2
  obtain ⟨h1, h2⟩ := normals_true a b c d a2 b2 c2 d2
  rw [h1, h2, if_pos rfl] at h
  exact fn_true mixed tab23_ok (L := 300) rfl (by rw [tree5_eq]; exact h) w
end Go.Proofs.Ytkllldhkikmbbaa.Vx
