/- The answers of the functions of the package and of its reference, read off their texts. -/
import Derived.Test.YtfpcmckachpnpaaDoorT2
namespace Go.Proofs.YtfpcmckachpnpaaDoor.Vx
open Go Go.RowKit Go.Proofs
set_option maxRecDepth 100000
set_option linter.unusedVariables false
set_option linter.unusedSimpArgs false

/- gangsaw/gangsawref04.Cmp -/
def ans28t : Ans := fun args => match args.toList with
  | [.agg c0, .agg c1] => match c0.toList, c1.toList with
    | [.int .i64 x0, .int .i64 x1], [.int .i64 x2, .int .i64 x3] => some (.int .i64 (ref04_Cmp_0 x0 x1 x2 x3))
    | _, _ => none
  | _ => none
def tab26 : Tab := (28, .ans ans28t) :: tab25
theorem m64_eq : Go.Extern.MathBitsCarry.m64 = 18446744073709551616 := rfl
theorem lo_in (x0 x1 : Int) : 0 ≤ ref04_times_1 x0 x1 ∧ ref04_times_1 x0 x1 < 18446744073709551616 := by
  unfold ref04_times_1; exact ⟨Int.emod_nonneg _ (by decide), Int.emod_lt_of_pos _ (by decide)⟩
theorem ok28 (x0 x1 x2 x3 : Int) : ref04_Cmp_ok x0 x1 x2 x3 = true := by
  have h1 := lo_in x0 x3
  have h2 := lo_in x2 x1
  unfold ref04_Cmp_ok
  rw [m64_eq]
  generalize ref04_times_1 x0 x3 = A at *
  generalize ref04_times_1 x2 x1 = B at *
  simp only [beq_iff_eq, Int.ofNat_eq_natCast]
  have hc : (A.toNat + B.toNat + 0) / 18446744073709551616 = 0 ∨ (A.toNat + B.toNat + 0) / 18446744073709551616 = 1 := by omega
  have d1 : ∀ n : Nat, n = 0 ∨ n = 1 → (if (n : Int) = 0 then true else if (n : Int) = 0 + 1 then true else false) = true := by
    rintro n (rfl | rfl) <;> rfl
  have d2 : ∀ (c : Prop) [Decidable c], (if c then 1 else 0 : Nat) = 0 ∨ (if c then 1 else 0 : Nat) = 1 := fun c _ => by split <;> simp
  rw [d1 _ hc, d1 _ (d2 _), d1 _ (d2 _)]
  (repeat' split) <;> rfl
theorem tab26_ok : TabOk Tryd.prog tab26 := tab_over tab25_ok fun args v h H => by
  unfold ans28t at h
  split at h
  · rename_i c0 c1 h0
    split at h
    · rename_i x0 x1 x2 x3 h1 h2
      injection h with h; subst h
      obtain rfl : c0 = #[.int .i64 x0, .int .i64 x1] := by rw [← Array.toArray_toList (xs := c0), h1]
      obtain rfl : c1 = #[.int .i64 x2, .int .i64 x3] := by rw [← Array.toArray_toList (xs := c1), h2]
      obtain rfl : args = #[.agg #[.int .i64 x0, .int .i64 x1], .agg #[.int .i64 x2, .int .i64 x3]] := by rw [← Array.toArray_toList (xs := args), h0]
      show (if ref04_Cmp_ok x0 x1 x2 x3 = true then some (_, H) else none) = _
      rw [if_pos (ok28 x0 x1 x2 x3)]
    · cases h
  · cases h

/- gangsaw/fraction.Floor -/
def ans29t : Ans := fun args => match args.toList with
  | [.agg c0] => match c0.toList with
    | [.int .i64 x0, .int .i64 x1] => some (.int .i64 (fraction_Floor_0 x0 x1))
    | _ => none
  | _ => none
def tab27 : Tab := (29, .ans ans29t) :: tab26
theorem ok29 (x0 x1 : Int) : fraction_Floor_ok x0 x1 = true := by
  unfold fraction_Floor_ok
  by_cases h : fraction_Valid_0 x0 x1 = true
  · have h1 : ¬ x1 = 0 := by
      unfold fraction_Valid_0 at h
      split at h
      · rename_i h2; simp only [decide_eq_true_eq] at h2; omega
      · cases h
    simp [h, h1]
  · simp [h]
theorem tab27_ok : TabOk Tryd.prog tab27 := tab_over tab26_ok fun args v h H => by
  unfold ans29t at h
  split at h
  · rename_i c0 h0
    split at h
    · rename_i x0 x1 h1
      injection h with h; subst h
      obtain rfl : c0 = #[.int .i64 x0, .int .i64 x1] := by rw [← Array.toArray_toList (xs := c0), h1]
      obtain rfl : args = #[.agg #[.int .i64 x0, .int .i64 x1]] := by rw [← Array.toArray_toList (xs := args), h0]
      show (if fraction_Floor_ok x0 x1 = true then some (_, H) else none) = _
      rw [if_pos (ok29 x0 x1)]
    · cases h
  · cases h

/- gangsaw/fraction.Round -/
def ans30t : Ans := fun args => match args.toList with
  | [.agg c0] => match c0.toList with
    | [.int .i64 x0, .int .i64 x1] => some (.int .i64 (fraction_Round_0 x0 x1))
    | _ => none
  | _ => none
def tab28 : Tab := (30, .ans ans30t) :: tab27
theorem ok30 (x0 x1 : Int) : fraction_Round_ok x0 x1 = true := by
  unfold fraction_Round_ok
  by_cases h : fraction_Valid_0 x0 x1 = true
  · have h1 : ¬ x1 = 0 := by
      unfold fraction_Valid_0 at h
      split at h
      · rename_i h2; simp only [decide_eq_true_eq] at h2; omega
      · cases h
    simp [h, h1]
  · simp [h]
theorem tab28_ok : TabOk Tryd.prog tab28 := tab_over tab27_ok fun args v h H => by
  unfold ans30t at h
  split at h
  · rename_i c0 h0
    split at h
    · rename_i x0 x1 h1
      injection h with h; subst h
      obtain rfl : c0 = #[.int .i64 x0, .int .i64 x1] := by rw [← Array.toArray_toList (xs := c0), h1]
      obtain rfl : args = #[.agg #[.int .i64 x0, .int .i64 x1]] := by rw [← Array.toArray_toList (xs := args), h0]
      show (if fraction_Round_ok x0 x1 = true then some (_, H) else none) = _
      rw [if_pos (ok30 x0 x1)]
    · cases h
  · cases h

/- gangsaw/fraction.Cmp -/
def fraction_Cmp_ok (x0 x1 x2 x3 : Int) : Bool :=
  if !fraction_Valid_0 x0 x1 then (Bool.true) else if !fraction_Valid_0 x2 x3 then (Bool.true) else if fraction_compare_ok x0 x1 x2 x3 then (Bool.true) else (Bool.false)
def fraction_Cmp_0 (x0 x1 x2 x3 : Int) : Int :=
  if !fraction_Valid_0 x0 x1 then (0) else if !fraction_Valid_0 x2 x3 then (0) else (fraction_compare_0 x0 x1 x2 x3)
def ans27 : Array Value → Option (Bool × Value) := fun args => match args.toList with
  | [.agg c0, .agg c1] => match c0.toList, c1.toList with
    | [.int .i64 x0, .int .i64 x1], [.int .i64 x2, .int .i64 x3] => some (fraction_Cmp_ok x0 x1 x2 x3, .int .i64 (fraction_Cmp_0 x0 x1 x2 x3))
    | _, _ => none
  | _ => none
def tab29 : Tab := (27, .cond ans27) :: tab28
def tree27 (x0 x1 x2 x3 : Int) : Tr Value :=
  .node 13 (!fraction_Valid_0 x0 x1)
  (.leaf (some (.int .i64 (0))))
  (.node 13 (!fraction_Valid_0 x2 x3)
   (.leaf (some (.int .i64 (0))))
   (.node 0 (fraction_compare_ok x0 x1 x2 x3)
    (.leaf (some (.int .i64 (fraction_compare_0 x0 x1 x2 x3))))
    (.leaf none)))
theorem tree27_eq (x0 x1 x2 x3 : Int) : vals (evFnT Tryd.prog (tb Tryd.prog tab28) (tbT Tryd.prog tab28) ⟨[], [], []⟩ noLoops 300 27 #[.agg #[.int .i64 x0, .int .i64 x1], .agg #[.int .i64 x2, .int .i64 x3]] []) = tree27 x0 x1 x2 x3 := by kernel_rfl
theorem tree27_res (x0 x1 x2 x3 : Int) : (tree27 x0 x1 x2 x3).res = if fraction_Cmp_ok x0 x1 x2 x3 = true then some (.int .i64 (fraction_Cmp_0 x0 x1 x2 x3)) else none := by
  unfold tree27 fraction_Cmp_ok fraction_Cmp_0
  simp only [Tr.res]
  generalize (!fraction_Valid_0 x0 x1) = b0
  generalize (!fraction_Valid_0 x2 x3) = b1
  generalize (fraction_compare_ok x0 x1 x2 x3) = b2
  cases b0 with
  | true =>
   first | (simp only [if_true, Bool.false_eq_true, if_false]; done) | rfl
  | false =>
   cases b1 with
   | true =>
    first | (simp only [if_true, Bool.false_eq_true, if_false]; done) | rfl
   | false =>
    cases b2 with
    | true =>
     first | (simp only [if_true, Bool.false_eq_true, if_false]; done) | rfl
    | false =>
     first | (simp only [if_true, Bool.false_eq_true, if_false]; done) | rfl
theorem tab29_ok : TabOk Tryd.prog tab29 := tab_cond mixed tab28_ok (by decide) fun args b v h hb => by
  unfold ans27 at h
  split at h
  · rename_i c0 c1 h0
    split at h
    · rename_i x0 x1 x2 x3 k1 k2
      injection h with h; injection h with h1 h2; subst h1 h2
      obtain rfl : c0 = #[.int .i64 x0, .int .i64 x1] := by rw [← Array.toArray_toList (xs := c0), k1]
      obtain rfl : c1 = #[.int .i64 x2, .int .i64 x3] := by rw [← Array.toArray_toList (xs := c1), k2]
      obtain rfl : args = #[.agg #[.int .i64 x0, .int .i64 x1], .agg #[.int .i64 x2, .int .i64 x3]] := by rw [← Array.toArray_toList (xs := args), h0]
      exact ⟨rfl, rfl, ⟨[], [], []⟩, 300, by rw [tree27_eq, tree27_res, if_pos hb]⟩
    · cases h
  · cases h

/- gangsaw/gangsawref04.Round -/
def ref04_RoundP_ok (x0 x1 : Int) : Bool :=
  if Decidable.decide (x0 < 0) then (Bool.false) else if x1 == 0 then (Bool.false) else if x1 == 0 then (Bool.false) else (Bool.true)
def ref04_RoundP_0 (x0 x1 : Int) : Int :=
  if Decidable.decide (IntKind.i64.wrap (2 * x0.tmod x1) ≥ x1) then (IntKind.i64.wrap (IntKind.i64.wrap (x0.tdiv x1) + 1)) else (IntKind.i64.wrap (x0.tdiv x1))
def ans32p : Array Value → Option (Bool × Value) := fun args => match args.toList with
  | [.agg c0] => match c0.toList with
    | [.int .i64 x0, .int .i64 x1] => some (ref04_RoundP_ok x0 x1, .int .i64 (ref04_RoundP_0 x0 x1))
    | _ => none
  | _ => none
def tab30 : Tab := (32, .cond ans32p) :: tab29
def tree32p (x0 x1 : Int) : Tr Value :=
  .node 7 (Decidable.decide (x0 < 0))
  (.leaf none)
  (.node 20 (x1 == 0)
   (.leaf none)
   (.node 25 (x1 == 0)
    (.leaf none)
    (.node 30 (Decidable.decide (IntKind.i64.wrap (2 * x0.tmod x1) ≥ x1))
     (.leaf (some (.int .i64 (IntKind.i64.wrap (IntKind.i64.wrap (x0.tdiv x1) + 1)))))
     (.leaf (some (.int .i64 (IntKind.i64.wrap (x0.tdiv x1))))))))
theorem tree32p_eq (x0 x1 : Int) : vals (evFnT Tryd.prog (tb Tryd.prog tab29) (tbT Tryd.prog tab29) ⟨[(7, 0), (20, 0), (25, 0), (30, 0)], [], []⟩ noLoops 300 32 #[.agg #[.int .i64 x0, .int .i64 x1]] []) = tree32p x0 x1 := by kernel_rfl
theorem tree32p_res (x0 x1 : Int) : (tree32p x0 x1).res = if ref04_RoundP_ok x0 x1 = true then some (.int .i64 (ref04_RoundP_0 x0 x1)) else none := by
  unfold tree32p ref04_RoundP_ok ref04_RoundP_0
  simp only [Tr.res]
  generalize (Decidable.decide (x0 < 0)) = b0
  generalize (x1 == 0) = b1
  generalize (Decidable.decide (IntKind.i64.wrap (2 * x0.tmod x1) ≥ x1)) = b2
  cases b0 with
  | true =>
   first | (simp only [if_true, Bool.false_eq_true, if_false]; done) | rfl
  | false =>
   cases b1 with
   | true =>
    first | (simp only [if_true, Bool.false_eq_true, if_false]; done) | rfl
   | false =>
    cases b2 with
    | true =>
     first | (simp only [if_true, Bool.false_eq_true, if_false]; done) | rfl
    | false =>
     first | (simp only [if_true, Bool.false_eq_true, if_false]; done) | rfl
theorem tab30_ok : TabOk Tryd.prog tab30 := tab_cond mixed tab29_ok (by decide) fun args b v h hb => by
  unfold ans32p at h
  split at h
  · rename_i c0 h0
    split at h
    · rename_i x0 x1 k1
      injection h with h; injection h with h1 h2; subst h1 h2
      obtain rfl : c0 = #[.int .i64 x0, .int .i64 x1] := by rw [← Array.toArray_toList (xs := c0), k1]
      obtain rfl : args = #[.agg #[.int .i64 x0, .int .i64 x1]] := by rw [← Array.toArray_toList (xs := args), h0]
      exact ⟨rfl, rfl, ⟨[(7, 0), (20, 0), (25, 0), (30, 0)], [], []⟩, 300, by rw [tree32p_eq, tree32p_res, if_pos hb]⟩
    · cases h
  · cases h
end Go.Proofs.YtfpcmckachpnpaaDoor.Vx
