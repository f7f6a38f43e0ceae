/- Names and labels: the program's tests of bytes and the reference's. -/
import Derived.Test.YtgcmejgiodhldaaDoorT1
import Derived.Test.YtgcmejgiodhldaaDoorXL
namespace Go.Proofs.YtgcmejgiodhldaaDoor.Vx
open Go Go.RowKit
set_option linter.unusedVariables false
set_option linter.unusedSimpArgs false
theorem empty_list (x : ByteArray) : (x.toList == (ByteArray.mk #[]).toList) = decide (x.size = 0) := by
  have h0 : (ByteArray.mk #[]).toList = [] := by rw [ByteArray.toList_eq]
  rw [h0]
  have hx : x.toList.length = x.size := by rw [ByteArray.toList_eq]; simp
  cases hq : x.toList with
  | nil => rw [hq] at hx; simp only [List.length_nil] at hx; simp [← hx]
  | cons a l => rw [hq] at hx; simp only [List.length_cons] at hx; rw [show decide (x.size = 0) = false from decide_eq_false (by omega)]; rfl
/-- The bytes of a name; those of a label. -/
def nameB (x : ByteArray) (i : Int) : Bool := lexer_isOfName_0 (byteAt x i)
def labelB (x : ByteArray) (i : Int) : Bool := lexer_isOfLabel_0 (byteAt x i)
theorem run_a (x : ByteArray) (h : x.size ≤ 100) : lexer_run_a_ok x = true ∧ 0 ≤ lexer_run_a_0 x ∧ (lexer_run_a_0 x = x.size ↔ ∀ m, 0 ≤ m → m < (x.size : Int) → nameB x m = true) := by
  obtain ⟨j, h1, h2, h3, h4, h5⟩ := scan_all (next := nx29_2a x x.size) S29_2a.mk (nameB x) x.size (by omega)
    (fun i h0 hi => by
      unfold nx29_2a
      rw [show Decidable.decide ((S29_2a.mk i).v8 < (x.size : Int)) = true from decide_eq_true hi, if_pos rfl, show Decidable.decide ((0 : Int) ≤ (S29_2a.mk i).v8 ∧ (S29_2a.mk i).v8 < (x.size : Int)) = true from decide_eq_true ⟨h0, hi⟩, if_pos rfl, wid (by simp only; omega)]
      unfold nameB
      simp only
      cases lexer_isOfName_0 (byteAt x i) <;> rfl)
    (by unfold nx29_2a; rw [show Decidable.decide ((S29_2a.mk (x.size : Int)).v8 < (x.size : Int)) = false from decide_eq_false (by simp), if_neg (by simp)])
    (k := ((x.size : Int) - (S29_2a.mk 0).v8).toNat) (by simp only; omega)
  have hf : fin29_2a x x.size (S29_2a.mk 0) = S29_2a.mk j := h1
  unfold lexer_run_a_ok lexer_run_a_0
  rw [hf]
  simp only
  by_cases hj : j < (x.size : Int)
  · have := h4 hj
    unfold nameB at this
    simp only [hj, decide_true, if_true, this, Bool.not_false, h2, and_self]
    refine ⟨trivial, trivial, fun he => by omega, fun ha => ?_⟩
    exact absurd (h5.1 ha) (by omega)
  · have : j = x.size := by omega
    simp only [hj, decide_false, Bool.false_eq_true, if_false, true_and]
    exact ⟨by omega, ⟨fun _ => h5.2 this, fun _ => trivial⟩⟩
theorem run_b (x : ByteArray) (h : x.size ≤ 100) : lexer_run_b_ok x = true ∧ 0 ≤ lexer_run_b_0 x ∧ (lexer_run_b_0 x = x.size ↔ ∀ m, 0 ≤ m → m < (x.size : Int) → labelB x m = true) := by
  obtain ⟨j, h1, h2, h3, h4, h5⟩ := scan_all (next := nx29_2b x x.size) S29_2b.mk (labelB x) x.size (by omega)
    (fun i h0 hi => by
      unfold nx29_2b
      rw [show Decidable.decide ((S29_2b.mk i).v8 < (x.size : Int)) = true from decide_eq_true hi, if_pos rfl, show Decidable.decide ((0 : Int) ≤ (S29_2b.mk i).v8 ∧ (S29_2b.mk i).v8 < (x.size : Int)) = true from decide_eq_true ⟨h0, hi⟩, if_pos rfl, wid (by simp only; omega)]
      unfold labelB
      simp only
      cases lexer_isOfLabel_0 (byteAt x i) <;> rfl)
    (by unfold nx29_2b; rw [show Decidable.decide ((S29_2b.mk (x.size : Int)).v8 < (x.size : Int)) = false from decide_eq_false (by simp), if_neg (by simp)])
    (k := ((x.size : Int) - (S29_2b.mk 0).v8).toNat) (by simp only; omega)
  have hf : fin29_2b x x.size (S29_2b.mk 0) = S29_2b.mk j := h1
  unfold lexer_run_b_ok lexer_run_b_0
  rw [hf]
  simp only
  by_cases hj : j < (x.size : Int)
  · have := h4 hj
    unfold labelB at this
    simp only [hj, decide_true, if_true, this, Bool.not_false, h2, and_self]
    refine ⟨trivial, trivial, fun he => by omega, fun ha => ?_⟩
    exact absurd (h5.1 ha) (by omega)
  · have : j = x.size := by omega
    simp only [hj, decide_false, Bool.false_eq_true, if_false, true_and]
    exact ⟨by omega, ⟨fun _ => h5.2 this, fun _ => trivial⟩⟩
/-- The reference's test of a byte of a name, and of one of a label. -/
def nameR (x : ByteArray) (i : Int) : Bool := ref09_part_0 (byteAt x i) && !(decide (byteAt x i ≥ 65) && decide (byteAt x i ≤ 90)) && !(i == 0 && !ref09_letter_0 (byteAt x i))
def labelR (x : ByteArray) (i : Int) : Bool := !(decide (byteAt x i < 32) || decide (byteAt x i > 126) || byteAt x i == 34)
theorem ref_name (x : ByteArray) (h : x.size ≤ 100) : ref09_Name_ok x = true ∧ (ref09_Name_0 x = true ↔ (∀ m, 0 ≤ m → m < (x.size : Int) → nameR x m = true) ∧ 1 ≤ (x.size : Int) ∧ (x.size : Int) ≤ 24) := by
  obtain ⟨j, h1, h2, h3, h4, h5⟩ := scan_all (next := nx14_2 x) S14_2.mk (nameR x) x.size (by omega)
    (fun i h0 hi => by
      unfold nx14_2
      simp only [hi, h0, and_self, decide_true, if_true, Bool.or_true, wid (show -9223372036854775808 ≤ i + 1 ∧ i + 1 ≤ 9223372036854775807 by omega)]
      unfold nameR
      cases ref09_part_0 (byteAt x i) <;> cases decide (byteAt x i ≥ 65) <;> cases decide (byteAt x i ≤ 90) <;> cases (i == 0) <;> cases ref09_letter_0 (byteAt x i) <;> rfl)
    (by unfold nx14_2; rw [show Decidable.decide ((S14_2.mk (x.size : Int)).v3 < (x.size : Int)) = false from decide_eq_false (by simp), if_neg (by simp)])
    (k := ((x.size : Int) - (S14_2.mk 0).v3).toNat) (by simp only; omega)
  have hf : fin14_2 x (S14_2.mk 0) = S14_2.mk j := h1
  unfold ref09_Name_ok ref09_Name_0
  rw [hf]
  simp only
  by_cases hj : j < (x.size : Int)
  · have := h4 hj
    simp only [hj, h2, and_self, decide_true, if_true, Bool.or_true]
    refine ⟨?_, fun hh => (by cases hh), fun ⟨ha, _⟩ => absurd (h5.1 ha) (by omega)⟩
    unfold nameR at this
    revert this
    cases ref09_part_0 (byteAt x j) <;> cases decide (byteAt x j ≥ 65) <;> cases decide (byteAt x j ≤ 90) <;> cases (j == 0) <;> cases ref09_letter_0 (byteAt x j) <;> simp
  · have hj2 : j = x.size := by omega
    simp only [hj, decide_false, Bool.false_eq_true, if_false, true_and]
    constructor
    · intro hh
      refine ⟨h5.2 hj2, ?_⟩
      revert hh
      by_cases ha : (x.size : Int) ≥ 1 <;> by_cases hb : (x.size : Int) ≤ 24 <;> simp [ha, hb] <;> omega
    · rintro ⟨_, ha, hb⟩
      simp [ha, hb]
theorem ref_label (x : ByteArray) (h : x.size ≤ 100) : ref09_Label_ok x = true ∧ (ref09_Label_0 x = true ↔ (∀ m, 0 ≤ m → m < (x.size : Int) → labelR x m = true) ∧ 1 ≤ (x.size : Int) ∧ (x.size : Int) ≤ 40 ∧ byteAt x 0 ≠ 32 ∧ byteAt x (x.size - 1) ≠ 32) := by
  obtain ⟨j, h1, h2, h3, h4, h5⟩ := scan_all (next := nx16_2 x) S16_2.mk (labelR x) x.size (by omega)
    (fun i h0 hi => by
      unfold nx16_2
      simp only [hi, h0, and_self, decide_true, if_true, Bool.or_true, wid (show -9223372036854775808 ≤ i + 1 ∧ i + 1 ≤ 9223372036854775807 by omega)]
      unfold labelR
      cases decide (byteAt x i < 32) <;> cases decide (byteAt x i > 126) <;> cases (byteAt x i == 34) <;> rfl)
    (by unfold nx16_2; rw [show Decidable.decide ((S16_2.mk (x.size : Int)).v3 < (x.size : Int)) = false from decide_eq_false (by simp), if_neg (by simp)])
    (k := ((x.size : Int) - (S16_2.mk 0).v3).toNat) (by simp only; omega)
  have hf : fin16_2 x (S16_2.mk 0) = S16_2.mk j := h1
  unfold ref09_Label_ok ref09_Label_0
  rw [hf]
  simp only
  by_cases hj : j < (x.size : Int)
  · have := h4 hj
    simp only [hj, h2, and_self, decide_true, if_true, Bool.or_true]
    refine ⟨?_, fun hh => (by cases hh), fun ⟨ha, _⟩ => absurd (h5.1 ha) (by omega)⟩
    unfold labelR at this
    revert this
    cases decide (byteAt x j < 32) <;> cases decide (byteAt x j > 126) <;> cases (byteAt x j == 34) <;> simp
  · have hj2 : j = x.size := by omega
    simp only [hj, decide_false, Bool.false_eq_true, if_false]
    rw [wid (show -9223372036854775808 ≤ (x.size : Int) - 1 ∧ (x.size : Int) - 1 ≤ 9223372036854775807 by omega)]
    by_cases ha : (x.size : Int) ≥ 1
    · by_cases hb : (x.size : Int) ≤ 40
      · have e1 : (0 : Int) < x.size := by omega
        have e2 : (0 : Int) ≤ x.size - 1 := by omega
        have e3 : (x.size : Int) - 1 < x.size := by omega
        simp only [ha, hb, e1, e2, e3, decide_true, cond_true, cond_false, Bool.not_true, Bool.false_or, Int.le_refl, and_self, if_true, Bool.or_true]
        refine ⟨by simp, ?_⟩
        constructor
        · intro hh
          refine ⟨h5.2 hj2, trivial, trivial, ?_⟩
          revert hh
          cases hq : (byteAt x 0 != 32) <;> cases hr : (byteAt x ((x.size : Int) - 1) != 32) <;> simp
          simp at hq hr
          exact ⟨hq, hr⟩
        · rintro ⟨_, _, _, hq, hr⟩
          have hq : (byteAt x 0 != 32) = true := by simpa using hq
          have hr : (byteAt x ((x.size : Int) - 1) != 32) = true := by simpa using hr
          rw [hq, hr]; rfl
      · simp only [ha, hb, decide_true, decide_false, cond_true, cond_false]
        exact ⟨by simp, fun hh => (by cases hh), fun ⟨_, _, hh, _⟩ => absurd hh (by simp)⟩
    · simp only [ha, decide_false, cond_false]
      exact ⟨by simp, fun hh => (by cases hh), fun ⟨_, hh, _⟩ => absurd hh (by simp)⟩
theorem name_byte (x : ByteArray) (m : Int) (h : m ≠ 0 ∨ lexer_isSmall_0 (byteAt x m) = true) : nameR x m = nameB x m := by
  unfold nameR nameB lexer_isOfName_0 ref09_part_0 ref09_letter_0 ref09_digit_0 lexer_isSmall_0 lexer_isDigit_0 at *
  generalize byteAt x m = b at *
  rw [Bool.eq_iff_iff]
  simp only [cand, cor, Bool.and_eq_true, Bool.or_eq_true, Bool.not_eq_true', Bool.or_eq_false_iff, Bool.and_eq_false_iff, Bool.not_eq_false', decide_eq_true_eq, decide_eq_false_iff_not, beq_iff_eq, bne_iff_ne, beq_eq_false_iff_ne, ne_eq] at h ⊢
  omega
theorem label_byte (x : ByteArray) (m : Int) : labelR x m = labelB x m := by
  unfold labelR labelB lexer_isOfLabel_0
  generalize byteAt x m = b
  rw [Bool.eq_iff_iff]
  simp only [cand, cor, Bool.and_eq_true, Bool.or_eq_true, Bool.not_eq_true', Bool.or_eq_false_iff, Bool.and_eq_false_iff, Bool.not_eq_false', decide_eq_true_eq, decide_eq_false_iff_not, beq_iff_eq, bne_iff_ne, beq_eq_false_iff_ne, ne_eq]
  omega
theorem names_true (x : ByteArray) : law09_LexerNames_ok x = true ∧ law09_LexerNames_0 x = true := by
  unfold law09_LexerNames_ok law09_LexerNames_0
  by_cases h : (x.size : Int) > 100
  · simp [h]
  have hs : x.size ≤ 100 := by omega
  obtain ⟨a1, a2, a3⟩ := run_a x hs
  obtain ⟨b1, b2, b3⟩ := run_b x hs
  obtain ⟨c1, c2⟩ := ref_name x hs
  obtain ⟨d1, d2⟩ := ref_label x hs
  have e0 := empty_list x
  have hn : lexer_Name_ok x = true := by
    unfold lexer_Name_ok
    rw [e0, a1]
    by_cases hz : x.size = 0
    · simp [hz]
    · have : (0 : Int) < x.size := by omega
      have q0 : 0 < x.size := by omega
      simp [this, q0]
  have hl : lexer_Label_ok x = true := by
    unfold lexer_Label_ok
    rw [e0, b1, wid (show -9223372036854775808 ≤ (x.size : Int) - 1 ∧ (x.size : Int) - 1 ≤ 9223372036854775807 by omega)]
    by_cases hz : x.size = 0
    · simp [hz]
    · have q1 : (0 : Int) < x.size := by omega
      have q2 : (0 : Int) ≤ x.size - 1 := by omega
      have q3 : (x.size : Int) - 1 < x.size := by omega
      have q0 : 0 < x.size := by omega
      have q4 : (1 : Int) ≤ x.size := by omega
      simp [q1, q2, q3, q0, q4]
  have key1 : lexer_Name_0 x = ref09_Name_0 x := by
    rw [Bool.eq_iff_iff, c2]
    unfold lexer_Name_0
    rw [e0]
    by_cases hz : x.size = 0
    · simp [hz]
    · have q1 : 1 ≤ (x.size : Int) := by omega
      by_cases hb : (x.size : Int) ≤ 24
      · by_cases hsm : lexer_isSmall_0 (byteAt x 0) = true
        · simp only [hz, hb, hsm, q1, decide_true, decide_false, cond_true, Bool.not_false, beq_iff_eq, and_true]
          rw [a3]
          constructor
          · intro hh m h0 h1
            rw [name_byte x m (by by_cases hm : m = 0; · subst hm; exact .inr hsm
                                  · exact .inl hm)]
            exact hh m h0 h1
          · intro hh m h0 h1
            rw [← name_byte x m (by by_cases hm : m = 0; · subst hm; exact .inr hsm
                                    · exact .inl hm)]
            exact hh m h0 h1
        · have hsm : lexer_isSmall_0 (byteAt x 0) = false := by simpa using hsm
          simp only [hz, hb, hsm, decide_true, decide_false, cond_true, cond_false, Bool.not_false]
          constructor
          · intro hh; cases hh
          · rintro ⟨hh, _⟩
            have := hh 0 (Int.le_refl _) (by omega)
            revert this hsm
            unfold nameR ref09_part_0 ref09_letter_0 ref09_digit_0 lexer_isSmall_0
            generalize byteAt x 0 = b
            by_cases h97 : 97 ≤ b <;> by_cases h122 : b ≤ 122 <;> by_cases h65 : 65 ≤ b <;> by_cases h90 : b ≤ 90 <;> by_cases h48 : 48 ≤ b <;> by_cases h57 : b ≤ 57 <;> simp_all
      · simp [hb]
  have key2 : lexer_Label_0 x = ref09_Label_0 x := by
    rw [Bool.eq_iff_iff, d2]
    unfold lexer_Label_0
    rw [e0, wid (show -9223372036854775808 ≤ (x.size : Int) - 1 ∧ (x.size : Int) - 1 ≤ 9223372036854775807 by omega)]
    by_cases hz : x.size = 0
    · simp [hz]
    · have q1 : 1 ≤ (x.size : Int) := by omega
      have hall : (∀ m, 0 ≤ m → m < (x.size : Int) → labelR x m = true) ↔ (∀ m, 0 ≤ m → m < (x.size : Int) → labelB x m = true) := by
        constructor <;> intro hh m h0 h1
        · rw [← label_byte]; exact hh m h0 h1
        · rw [label_byte]; exact hh m h0 h1
      rw [hall, ← b3]
      by_cases hb : (x.size : Int) ≤ 40 <;> by_cases h2 : byteAt x 0 = 32 <;> by_cases h3 : byteAt x ((x.size : Int) - 1) = 32 <;> simp [hz, hb, h2, h3, q1]
  rw [hn, hl, c1, d1, key1, key2]
  simp [h]
/-- The statement's own function answers true at all inputs. -/
theorem lexerNames_any (x : ByteArray) (w : World) (hgl : GlobOk w) : Calls Go.Proofs.Tryd.prog 4 #[.string x] w fun e w' => e = .returned (.bool true) ∧ Below w.heap.size w w' := by
  have h := tree4_res x
  obtain ⟨h1, h2⟩ := names_true x
  rw [h1, h2, if_pos rfl] at h
  exact fn_true mixed tab13_ok (L := 300) rfl (by rw [tree4_eq]; exact h) w hgl
end Go.Proofs.YtgcmejgiodhldaaDoor.Vx
