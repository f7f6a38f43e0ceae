/- The numbers of boxes: BoxMakes. -/
import Derived.Test.YtgpcgcflmimnbaaT3
import Derived.IntWalk
import Derived.Laws.BitsLemmas
namespace Go.Proofs.Ytgpcgcflmimnbaa.Vx
open Go Go.RowKit
theorem wid {x : Int} (h : -9223372036854775808 ≤ x ∧ x ≤ 9223372036854775807) : IntKind.i64.wrap x = x := IntWalk.i64_in x (by omega)
/-- The box's error. -/
def bchk (x0 x1 x2 x3 x4 x5 : Int) : Int := if (x0 < -1000000 ∨ 1000000 < x0) ∨ (x1 < -1000000 ∨ 1000000 < x1) ∨ (x2 < -1000000 ∨ 1000000 < x2) ∨ (x3 < -1000000 ∨ 1000000 < x3) ∨ (x4 < -1000000 ∨ 1000000 < x4) ∨ (x5 < -1000000 ∨ 1000000 < x5) then 6 else if x0 ≥ x3 ∨ x1 ≥ x4 ∨ x2 ≥ x5 then 1 else 0
theorem imin_lt (a b c : Int) : imin a b < c ↔ a < c ∨ b < c := by rw [imin_eq]; omega
theorem imax_gt (a b c : Int) : imax a b > c ↔ a > c ∨ b > c := by rw [imax_eq]; omega
theorem empty_box (x0 x1 x2 x3 x4 x5 : Int) : box_empty_0 x0 x1 x2 x3 x4 x5 = decide (x0 ≥ x3 ∨ x1 ≥ x4 ∨ x2 ≥ x5) := by
  unfold box_empty_0
  simp only [decide_eq_true_eq]
  (repeat' split) <;> (simp; omega)
theorem bchk_box (x0 x1 x2 x3 x4 x5 : Int) : box_Check_0 x0 x1 x2 x3 x4 x5 = bchk x0 x1 x2 x3 x4 x5 := by
  unfold box_Check_0 bchk
  simp only [empty_box, decide_eq_true_eq, imin_lt, imax_gt]
  by_cases h : (x0 < -1000000 ∨ 1000000 < x0) ∨ (x1 < -1000000 ∨ 1000000 < x1) ∨ (x2 < -1000000 ∨ 1000000 < x2) ∨ (x3 < -1000000 ∨ 1000000 < x3) ∨ (x4 < -1000000 ∨ 1000000 < x4) ∨ (x5 < -1000000 ∨ 1000000 < x5)
  · rw [if_pos h]
    (repeat' split) <;> first | rfl | omega
  · rw [if_neg h, if_neg (by omega), if_neg (by omega), if_neg (by omega), if_neg (by omega), if_neg (by omega), if_neg (by omega)]
theorem at0 (x0 x1 x2 : Int) : ref06_At_0 x0 x1 x2 0 = x0 := by unfold ref06_At_0; simp
theorem at1 (x0 x1 x2 : Int) : ref06_At_0 x0 x1 x2 (IntKind.i64.wrap (0 + 1)) = x1 := by
  rw [wid (x := 0 + 1) (by omega)]; unfold ref06_At_0; simp
theorem at2 (x0 x1 x2 : Int) : ref06_At_0 x0 x1 x2 (IntKind.i64.wrap (IntKind.i64.wrap (0 + 1) + 1)) = x2 := by
  rw [wid (x := 0 + 1) (by omega), wid (by omega)]; unfold ref06_At_0; simp
theorem bchk_ref (x0 x1 x2 x3 x4 x5 : Int) : ref06_Check_0 x0 x1 x2 x3 x4 x5 = bchk x0 x1 x2 x3 x4 x5 := by
  unfold ref06_Check_0 bchk
  simp only [at0, at1, at2, decide_eq_true_eq]
  by_cases h : (x0 < -1000000 ∨ 1000000 < x0) ∨ (x1 < -1000000 ∨ 1000000 < x1) ∨ (x2 < -1000000 ∨ 1000000 < x2) ∨ (x3 < -1000000 ∨ 1000000 < x3) ∨ (x4 < -1000000 ∨ 1000000 < x4) ∨ (x5 < -1000000 ∨ 1000000 < x5)
  · rw [if_pos h]
    (repeat' split) <;> first | rfl | omega
  · rw [if_neg h, if_neg (by omega), if_neg (by omega), if_neg (by omega), if_neg (by omega), if_neg (by omega), if_neg (by omega), if_neg (by omega), if_neg (by omega), if_neg (by omega), if_neg (by omega), if_neg (by omega), if_neg (by omega)]
    (repeat' split) <;> first | rfl | omega
theorem bchk_zero {x0 x1 x2 x3 x4 x5 : Int} (h : bchk x0 x1 x2 x3 x4 x5 = 0) : (-1000000 ≤ x0 ∧ x0 ≤ 1000000) ∧ (-1000000 ≤ x1 ∧ x1 ≤ 1000000) ∧ (-1000000 ≤ x2 ∧ x2 ≤ 1000000) ∧ (-1000000 ≤ x3 ∧ x3 ≤ 1000000) ∧ (-1000000 ≤ x4 ∧ x4 ≤ 1000000) ∧ (-1000000 ≤ x5 ∧ x5 ≤ 1000000) ∧ x0 < x3 ∧ x1 < x4 ∧ x2 < x5 := by
  unfold bchk at h
  split at h
  · cases h
  · split at h
    · cases h
    · omega
theorem overlap_box (x0 x1 x2 x3 x4 x5 x6 x7 x8 x9 x10 x11 : Int) : box_Overlap_0 x0 x1 x2 x3 x4 x5 x6 x7 x8 x9 x10 x11 = ref06_full_0 (imax x0 x6) (imax x1 x7) (imax x2 x8) (imin x3 x9) (imin x4 x10) (imin x5 x11) := by
  unfold box_Overlap_0 ref06_full_0
  simp only [empty_box, decide_eq_true_eq]
  (repeat' split) <;> first | rfl | omega
theorem both_ref (x0 x1 x2 x3 x4 x5 x6 x7 x8 x9 x10 x11 : Int) : law06_both_0 x0 x1 x2 x3 x4 x5 x6 x7 x8 x9 x10 x11 = if bchk x0 x1 x2 x3 x4 x5 = 0 then bchk x6 x7 x8 x9 x10 x11 else bchk x0 x1 x2 x3 x4 x5 := by
  unfold law06_both_0
  simp only [bchk_ref, bne_iff_ne]
  by_cases h : bchk x0 x1 x2 x3 x4 x5 = 0 <;> simp [h]
/-- A vector that is too far moves no box into its range. -/
theorem far {x y : Int} (hx : -1000000 ≤ x ∧ x ≤ 1000000) (hy : -9223372036854775808 ≤ y ∧ y ≤ 9223372036854775807) (h : y < -2000000 ∨ y > 2000000) : IntKind.i64.wrap (x + y) < -1000000 ∨ 1000000 < IntKind.i64.wrap (x + y) := by
  rw [IntKind.wrap_i64]; omega
theorem moved_far {x0 x1 x2 x3 x4 x5 a b c : Int} (h : bchk x0 x1 x2 x3 x4 x5 = 0) (ha : -9223372036854775808 ≤ a ∧ a ≤ 9223372036854775807) (hb : -9223372036854775808 ≤ b ∧ b ≤ 9223372036854775807) (hc : -9223372036854775808 ≤ c ∧ c ≤ 9223372036854775807)
    (hf : (a < -2000000 ∨ a > 2000000) ∨ (b < -2000000 ∨ b > 2000000) ∨ (c < -2000000 ∨ c > 2000000)) :
    bchk (IntKind.i64.wrap (x0 + a)) (IntKind.i64.wrap (x1 + b)) (IntKind.i64.wrap (x2 + c)) (IntKind.i64.wrap (x3 + a)) (IntKind.i64.wrap (x4 + b)) (IntKind.i64.wrap (x5 + c)) = 6 := by
  obtain ⟨h0, h1, h2, h3, h4, h5, _⟩ := bchk_zero h
  unfold bchk
  rw [if_pos]
  rcases hf with hf | hf | hf
  · exact .inl (far h0 ha hf)
  · exact .inr (.inl (far h1 hb hf))
  · exact .inr (.inr (.inl (far h2 hc hf)))
theorem makes_true (x0 x1 x2 x3 x4 x5 x6 x7 x8 x9 x10 x11 a b c : Int) (ha : -9223372036854775808 ≤ a ∧ a ≤ 9223372036854775807) (hb : -9223372036854775808 ≤ b ∧ b ≤ 9223372036854775807) (hc : -9223372036854775808 ≤ c ∧ c ≤ 9223372036854775807) :
    law06_BoxMakes_0 x0 x1 x2 x3 x4 x5 x6 x7 x8 x9 x10 x11 a b c = true := by
  unfold law06_BoxMakes_0 box_Volume_0 box_Volume_1 box_volume_0 ref06_Volume_0
  simp only [both_ref, bchk_box, bchk_ref]
  have hI : ∀ {α : Type} (p q : α), (if ref06_full_0 (imax x0 x6) (imax x1 x7) (imax x2 x8) (imin x3 x9) (imin x4 x10) (imin x5 x11) = true then p else q) = if box_Overlap_0 x0 x1 x2 x3 x4 x5 x6 x7 x8 x9 x10 x11 = true then p else q := fun p q => by rw [overlap_box]
  by_cases h1 : bchk x0 x1 x2 x3 x4 x5 = 0
  · have mv : ∀ {α : Type} (p q r : α), (if a < -2000000 then p else if a > 2000000 then p else if b < -2000000 then p else if b > 2000000 then p else if c < -2000000 then p else if c > 2000000 then p else
        if bchk (IntKind.i64.wrap (x0 + a)) (IntKind.i64.wrap (x1 + b)) (IntKind.i64.wrap (x2 + c)) (IntKind.i64.wrap (x3 + a)) (IntKind.i64.wrap (x4 + b)) (IntKind.i64.wrap (x5 + c)) ≠ 0 then q else r) =
        if (a < -2000000 ∨ a > 2000000) ∨ (b < -2000000 ∨ b > 2000000) ∨ (c < -2000000 ∨ c > 2000000) then p else if bchk (IntKind.i64.wrap (x0 + a)) (IntKind.i64.wrap (x1 + b)) (IntKind.i64.wrap (x2 + c)) (IntKind.i64.wrap (x3 + a)) (IntKind.i64.wrap (x4 + b)) (IntKind.i64.wrap (x5 + c)) ≠ 0 then q else r := fun p q r => by
      (repeat' split) <;> first | rfl | omega
    have hm : ∀ (p : Int), (if (a < -2000000 ∨ a > 2000000) ∨ (b < -2000000 ∨ b > 2000000) ∨ (c < -2000000 ∨ c > 2000000) then 0 else if bchk (IntKind.i64.wrap (x0 + a)) (IntKind.i64.wrap (x1 + b)) (IntKind.i64.wrap (x2 + c)) (IntKind.i64.wrap (x3 + a)) (IntKind.i64.wrap (x4 + b)) (IntKind.i64.wrap (x5 + c)) ≠ 0 then 0 else p) =
        if bchk (IntKind.i64.wrap (x0 + a)) (IntKind.i64.wrap (x1 + b)) (IntKind.i64.wrap (x2 + c)) (IntKind.i64.wrap (x3 + a)) (IntKind.i64.wrap (x4 + b)) (IntKind.i64.wrap (x5 + c)) ≠ 0 then 0 else p := fun p => by
      by_cases hf : (a < -2000000 ∨ a > 2000000) ∨ (b < -2000000 ∨ b > 2000000) ∨ (c < -2000000 ∨ c > 2000000)
      · rw [if_pos hf, moved_far h1 ha hb hc hf, if_pos (by decide)]
      · rw [if_neg hf]
    have hm6 : ∀ (X : Int), X = bchk (IntKind.i64.wrap (x0 + a)) (IntKind.i64.wrap (x1 + b)) (IntKind.i64.wrap (x2 + c)) (IntKind.i64.wrap (x3 + a)) (IntKind.i64.wrap (x4 + b)) (IntKind.i64.wrap (x5 + c)) →
        (if (a < -2000000 ∨ a > 2000000) ∨ (b < -2000000 ∨ b > 2000000) ∨ (c < -2000000 ∨ c > 2000000) then 6 else if X ≠ 0 then X else 0) = if X ≠ 0 then X else 0 := fun X hX => by
      by_cases hf : (a < -2000000 ∨ a > 2000000) ∨ (b < -2000000 ∨ b > 2000000) ∨ (c < -2000000 ∨ c > 2000000)
      · rw [if_pos hf, hX, moved_far h1 ha hb hc hf, if_pos (by decide)]
      · rw [if_neg hf]
    have hM : box_Move_6 x0 x1 x2 x3 x4 x5 a b c = ref06_Move_6 x0 x1 x2 x3 x4 x5 a b c ∧ box_Move_0 x0 x1 x2 x3 x4 x5 a b c = ref06_Move_0 x0 x1 x2 x3 x4 x5 a b c ∧ box_Move_1 x0 x1 x2 x3 x4 x5 a b c = ref06_Move_1 x0 x1 x2 x3 x4 x5 a b c ∧
        box_Move_2 x0 x1 x2 x3 x4 x5 a b c = ref06_Move_2 x0 x1 x2 x3 x4 x5 a b c ∧ box_Move_3 x0 x1 x2 x3 x4 x5 a b c = ref06_Move_3 x0 x1 x2 x3 x4 x5 a b c ∧ box_Move_4 x0 x1 x2 x3 x4 x5 a b c = ref06_Move_4 x0 x1 x2 x3 x4 x5 a b c ∧ box_Move_5 x0 x1 x2 x3 x4 x5 a b c = ref06_Move_5 x0 x1 x2 x3 x4 x5 a b c := by
      unfold box_Move_6 box_Move_0 box_Move_1 box_Move_2 box_Move_3 box_Move_4 box_Move_5 ref06_Move_6 ref06_Move_0 ref06_Move_1 ref06_Move_2 ref06_Move_3 ref06_Move_4 ref06_Move_5
      simp only [bchk_box, bchk_ref, at0, at1, at2, decide_eq_true_eq, bne_iff_ne, mv, hm, h1, ne_eq, not_true_eq_false, if_false, and_true]
      exact (hm6 _ rfl).symm
    obtain ⟨m6, m0, m1, m2, m3, m4, m5⟩ := hM
    have hI6 : box_Intersect_6 x0 x1 x2 x3 x4 x5 x6 x7 x8 x9 x10 x11 = if bchk x6 x7 x8 x9 x10 x11 = 0 then (if box_Overlap_0 x0 x1 x2 x3 x4 x5 x6 x7 x8 x9 x10 x11 = true then 0 else 9) else bchk x6 x7 x8 x9 x10 x11 := by
      unfold box_Intersect_6; simp only [bchk_box, h1]
      by_cases h2 : bchk x6 x7 x8 x9 x10 x11 = 0 <;> simp [h2]
    by_cases h2 : bchk x6 x7 x8 x9 x10 x11 = 0
    · cases ho : box_Overlap_0 x0 x1 x2 x3 x4 x5 x6 x7 x8 x9 x10 x11 <;>
        simp [m6, m0, m1, m2, m3, m4, m5, h1, h2, ho, hI6, hI, box_Hull_0, box_Hull_1, box_Hull_2, box_Hull_3, box_Hull_4, box_Hull_5, box_Hull_6, bchk_box, box_Intersect_0, box_Intersect_1, box_Intersect_2, box_Intersect_3, box_Intersect_4, box_Intersect_5,
          ref06_Intersect_0, ref06_Intersect_1, ref06_Intersect_2, ref06_Intersect_3, ref06_Intersect_4, ref06_Intersect_5, ref06_Intersect_6]
    · simp [m6, m0, m1, m2, m3, m4, m5, h1, h2, hI6, box_Hull_0, box_Hull_1, box_Hull_2, box_Hull_3, box_Hull_4, box_Hull_5, box_Hull_6, bchk_box, box_Intersect_0, box_Intersect_1, box_Intersect_2, box_Intersect_3, box_Intersect_4, box_Intersect_5]
  · simp [h1, box_Move_6, box_Move_0, box_Move_1, box_Move_2, box_Move_3, box_Move_4, box_Move_5, bchk_box, box_Hull_0, box_Hull_1, box_Hull_2, box_Hull_3, box_Hull_4, box_Hull_5, box_Hull_6, box_Intersect_0, box_Intersect_1, box_Intersect_2, box_Intersect_3, box_Intersect_4, box_Intersect_5, box_Intersect_6]

/-- The statement's own function answers true at all inputs. -/
theorem boxMakes_any (x0 x1 x2 x3 x4 x5 x6 x7 x8 x9 x10 x11 a b c : Int) (w : World) (_ : (Lit.int .i64 x0).wf = true) (_ : (Lit.int .i64 x1).wf = true) (_ : (Lit.int .i64 x2).wf = true) (_ : (Lit.int .i64 x3).wf = true) (_ : (Lit.int .i64 x4).wf = true) (_ : (Lit.int .i64 x5).wf = true) (_ : (Lit.int .i64 x6).wf = true) (_ : (Lit.int .i64 x7).wf = true) (_ : (Lit.int .i64 x8).wf = true) (_ : (Lit.int .i64 x9).wf = true) (_ : (Lit.int .i64 x10).wf = true) (_ : (Lit.int .i64 x11).wf = true) (ha : (Lit.int .i64 a).wf = true) (hb : (Lit.int .i64 b).wf = true) (hc : (Lit.int .i64 c).wf = true) :
    Calls Go.Proofs.Try.prog 3 #[.agg #[.int .i64 x0, .int .i64 x1, .int .i64 x2, .int .i64 x3, .int .i64 x4, .int .i64 x5], .agg #[.int .i64 x6, .int .i64 x7, .int .i64 x8, .int .i64 x9, .int .i64 x10, .int .i64 x11], .agg #[.int .i64 a, .int .i64 b, .int .i64 c]] w fun e w' => e = .returned (.bool true) ∧ Below w.heap.size w w' := by
  have h := tree3_res x0 x1 x2 x3 x4 x5 x6 x7 x8 x9 x10 x11 a b c
  have w64 : ∀ {x : Int}, (Lit.int .i64 x).wf = true → -9223372036854775808 ≤ x ∧ x ≤ 9223372036854775807 := fun {x} h => by
    simp only [Lit.wf, Bool.and_eq_true, decide_eq_true_eq] at h
    have e1 : IntKind.i64.min = -9223372036854775808 := rfl
    have e2 : IntKind.i64.max = 9223372036854775807 := rfl
    omega
  rw [makes_true _ _ _ _ _ _ _ _ _ _ _ _ _ _ _ (w64 ha) (w64 hb) (w64 hc)] at h
  exact fn_true mixed tab27_ok (L := 300) rfl (by rw [tree3_eq]; exact h) w
end Go.Proofs.Ytgpcgcflmimnbaa.Vx
