/- The answers of the functions of the package and of its reference, read off their texts. -/
import Derived.Test.YtfpcmckachpnpaaDoorT3
namespace Go.Proofs.YtfpcmckachpnpaaDoor.Vx
open Go Go.RowKit Go.Proofs
set_option maxRecDepth 100000
set_option linter.unusedVariables false
set_option linter.unusedSimpArgs false

/- gangsaw/gangsawref04.Round -/
def ref04_Round_ok (x0 x1 : Int) : Bool :=
  if Decidable.decide (x0 < 0) then (if ref04_RoundP_ok (IntKind.i64.wrap (0 - x0)) x1 then (Bool.true) else (Bool.false)) else if x1 == 0 then (Bool.false) else if x1 == 0 then (Bool.false) else (Bool.true)
def ref04_Round_0 (x0 x1 : Int) : Int :=
  if Decidable.decide (x0 < 0) then (IntKind.i64.wrap (0 - ref04_RoundP_0 (IntKind.i64.wrap (0 - x0)) x1)) else if Decidable.decide (IntKind.i64.wrap (2 * x0.tmod x1) ≥ x1) then (IntKind.i64.wrap (IntKind.i64.wrap (x0.tdiv x1) + 1)) else (IntKind.i64.wrap (x0.tdiv x1))
def ans32 : Array Value → Option (Bool × Value) := fun args => match args.toList with
  | [.agg c0] => match c0.toList with
    | [.int .i64 x0, .int .i64 x1] => some (ref04_Round_ok x0 x1, .int .i64 (ref04_Round_0 x0 x1))
    | _ => none
  | _ => none
def tab31 : Tab := (32, .cond ans32) :: tab30
def tree32 (x0 x1 : Int) : Tr Value :=
  .node 7 (Decidable.decide (x0 < 0))
  (.node 0 (ref04_RoundP_ok (IntKind.i64.wrap (0 - x0)) x1)
   (.leaf (some (.int .i64 (IntKind.i64.wrap (0 - ref04_RoundP_0 (IntKind.i64.wrap (0 - x0)) x1)))))
   (.leaf none))
  (.node 20 (x1 == 0)
   (.leaf none)
   (.node 25 (x1 == 0)
    (.leaf none)
    (.node 30 (Decidable.decide (IntKind.i64.wrap (2 * x0.tmod x1) ≥ x1))
     (.leaf (some (.int .i64 (IntKind.i64.wrap (IntKind.i64.wrap (x0.tdiv x1) + 1)))))
     (.leaf (some (.int .i64 (IntKind.i64.wrap (x0.tdiv x1))))))))
theorem tree32_eq (x0 x1 : Int) : vals (evFnT Tryd.prog (tb Tryd.prog tab30) (tbT Tryd.prog tab30) ⟨[(7, 0), (20, 0), (25, 0), (30, 0)], [], []⟩ noLoops 300 32 #[.agg #[.int .i64 x0, .int .i64 x1]] []) = tree32 x0 x1 := by kernel_rfl
theorem tree32_res (x0 x1 : Int) : (tree32 x0 x1).res = if ref04_Round_ok x0 x1 = true then some (.int .i64 (ref04_Round_0 x0 x1)) else none := by
  unfold tree32 ref04_Round_ok ref04_Round_0
  simp only [Tr.res]
  generalize (Decidable.decide (x0 < 0)) = b0
  generalize (ref04_RoundP_ok (IntKind.i64.wrap (0 - x0)) x1) = b1
  generalize (x1 == 0) = b2
  generalize (Decidable.decide (IntKind.i64.wrap (2 * x0.tmod x1) ≥ x1)) = b3
  cases b0 with
  | true =>
   cases b1 with
   | true =>
    first | (simp only [if_true, Bool.false_eq_true, if_false]; done) | rfl
   | false =>
    first | (simp only [if_true, Bool.false_eq_true, if_false]; done) | rfl
  | false =>
   cases b2 with
   | true =>
    first | (simp only [if_true, Bool.false_eq_true, if_false]; done) | rfl
   | false =>
    cases b3 with
    | true =>
     first | (simp only [if_true, Bool.false_eq_true, if_false]; done) | rfl
    | false =>
     first | (simp only [if_true, Bool.false_eq_true, if_false]; done) | rfl
theorem tab31_ok : TabOk Tryd.prog tab31 := tab_cond mixed tab30_ok (by decide) fun args b v h hb => by
  unfold ans32 at h
  split at h
  · rename_i c0 h0
    split at h
    · rename_i x0 x1 k1
      injection h with h; injection h with h1 h2; subst h1 h2
      obtain rfl : c0 = #[.int .i64 x0, .int .i64 x1] := by rw [← Array.toArray_toList (xs := c0), k1]
      obtain rfl : args = #[.agg #[.int .i64 x0, .int .i64 x1]] := by rw [← Array.toArray_toList (xs := args), h0]
      exact ⟨rfl, rfl, ⟨[(7, 0), (20, 0), (25, 0), (30, 0)], [], []⟩, 300, by rw [tree32_eq, tree32_res, if_pos hb]⟩
    · cases h
  · cases h

/- gangsaw/gangsawlaw04.FractionCompares -/
def law04_FractionCompares_ok (x0 x1 x2 x3 : Int) : Bool :=
  if fraction_Cmp_ok x0 x1 x2 x3 then (if bif bif law04_two_0 x0 x1 x2 x3 then fraction_Cmp_0 x0 x1 x2 x3 != ref04_Cmp_0 x0 x1 x2 x3 else Bool.false then Bool.true else bif !law04_two_0 x0 x1 x2 x3 then fraction_Cmp_0 x0 x1 x2 x3 != 0 else Bool.false then (Bool.true) else if !ref04_Valid_0 x0 x1 then (Bool.true) else if ref04_Floor_ok x0 x1 then (if fraction_Floor_0 x0 x1 == ref04_Floor_0 x0 x1 then (if ref04_Round_ok x0 x1 then (Bool.true) else (Bool.false)) else (Bool.true)) else (Bool.false)) else (Bool.false)
def law04_FractionCompares_0 (x0 x1 x2 x3 : Int) : Bool :=
  if bif bif law04_two_0 x0 x1 x2 x3 then fraction_Cmp_0 x0 x1 x2 x3 != ref04_Cmp_0 x0 x1 x2 x3 else Bool.false then Bool.true else bif !law04_two_0 x0 x1 x2 x3 then fraction_Cmp_0 x0 x1 x2 x3 != 0 else Bool.false then (Bool.false) else if !ref04_Valid_0 x0 x1 then (bif bif Bool.true then fraction_Floor_0 x0 x1 == 0 else Bool.false then fraction_Round_0 x0 x1 == 0 else Bool.false) else if fraction_Floor_0 x0 x1 == ref04_Floor_0 x0 x1 then (if fraction_Round_0 x0 x1 == ref04_Round_0 x0 x1 then (Bool.true) else (Bool.false)) else (Bool.false)
def ans6 : Array Value → Option (Bool × Value) := fun args => match args.toList with
  | [.agg c0, .agg c1] => match c0.toList, c1.toList with
    | [.int .i64 x0, .int .i64 x1], [.int .i64 x2, .int .i64 x3] => some (law04_FractionCompares_ok x0 x1 x2 x3, .bool (law04_FractionCompares_0 x0 x1 x2 x3))
    | _, _ => none
  | _ => none
def tab32 : Tab := (6, .cond ans6) :: tab31
def tree6 (x0 x1 x2 x3 : Int) : Tr Value :=
  .node 0 (fraction_Cmp_ok x0 x1 x2 x3)
  (.node 28 (bif bif law04_two_0 x0 x1 x2 x3 then fraction_Cmp_0 x0 x1 x2 x3 != ref04_Cmp_0 x0 x1 x2 x3 else Bool.false then Bool.true else bif !law04_two_0 x0 x1 x2 x3 then fraction_Cmp_0 x0 x1 x2 x3 != 0 else Bool.false)
   (.leaf (some (.bool (Bool.false))))
   (.node 31 (!ref04_Valid_0 x0 x1)
    (.leaf (some (.bool (bif bif Bool.true then fraction_Floor_0 x0 x1 == 0 else Bool.false then fraction_Round_0 x0 x1 == 0 else Bool.false))))
    (.node 0 (ref04_Floor_ok x0 x1)
     (.node 49 (fraction_Floor_0 x0 x1 == ref04_Floor_0 x0 x1)
      (.node 0 (ref04_Round_ok x0 x1)
       (.node 56 (fraction_Round_0 x0 x1 == ref04_Round_0 x0 x1)
        (.leaf (some (.bool (Bool.true))))
        (.leaf (some (.bool (Bool.false)))))
       (.leaf none))
      (.leaf (some (.bool (Bool.false)))))
     (.leaf none))))
  (.leaf none)
theorem tree6_eq (x0 x1 x2 x3 : Int) : vals (evFnT Tryd.prog (tb Tryd.prog tab31) (tbT Tryd.prog tab31) ⟨[(28, 0), (31, 0), (49, 0), (56, 0), (2000002, 0), (2000005, 0)], [], []⟩ noLoops 300 6 #[.agg #[.int .i64 x0, .int .i64 x1], .agg #[.int .i64 x2, .int .i64 x3]] []) = tree6 x0 x1 x2 x3 := by kernel_rfl
theorem tree6_res (x0 x1 x2 x3 : Int) : (tree6 x0 x1 x2 x3).res = if law04_FractionCompares_ok x0 x1 x2 x3 = true then some (.bool (law04_FractionCompares_0 x0 x1 x2 x3)) else none := by
  unfold tree6 law04_FractionCompares_ok law04_FractionCompares_0
  simp only [Tr.res]
  generalize (fraction_Cmp_ok x0 x1 x2 x3) = b0
  generalize (bif bif law04_two_0 x0 x1 x2 x3 then fraction_Cmp_0 x0 x1 x2 x3 != ref04_Cmp_0 x0 x1 x2 x3 else Bool.false then Bool.true else bif !law04_two_0 x0 x1 x2 x3 then fraction_Cmp_0 x0 x1 x2 x3 != 0 else Bool.false) = b1
  generalize (!ref04_Valid_0 x0 x1) = b2
  generalize (ref04_Floor_ok x0 x1) = b3
  generalize (fraction_Floor_0 x0 x1 == ref04_Floor_0 x0 x1) = b4
  generalize (ref04_Round_ok x0 x1) = b5
  generalize (fraction_Round_0 x0 x1 == ref04_Round_0 x0 x1) = b6
  cases b0 with
  | true =>
   cases b1 with
   | true =>
    first | (simp only [if_true, Bool.false_eq_true, if_false]; done) | rfl
   | false =>
    cases b2 with
    | true =>
     first | (simp only [if_true, Bool.false_eq_true, if_false]; done) | rfl
    | false =>
     cases b3 with
     | true =>
      cases b4 with
      | true =>
       cases b5 with
       | true =>
        cases b6 with
        | true =>
         first | (simp only [if_true, Bool.false_eq_true, if_false]; done) | rfl
        | false =>
         first | (simp only [if_true, Bool.false_eq_true, if_false]; done) | rfl
       | false =>
        first | (simp only [if_true, Bool.false_eq_true, if_false]; done) | rfl
      | false =>
       first | (simp only [if_true, Bool.false_eq_true, if_false]; done) | rfl
     | false =>
      first | (simp only [if_true, Bool.false_eq_true, if_false]; done) | rfl
  | false =>
   first | (simp only [if_true, Bool.false_eq_true, if_false]; done) | rfl
theorem tab32_ok : TabOk Tryd.prog tab32 := tab_cond mixed tab31_ok (by decide) fun args b v h hb => by
  unfold ans6 at h
  split at h
  · rename_i c0 c1 h0
    split at h
    · rename_i x0 x1 x2 x3 k1 k2
      injection h with h; injection h with h1 h2; subst h1 h2
      obtain rfl : c0 = #[.int .i64 x0, .int .i64 x1] := by rw [← Array.toArray_toList (xs := c0), k1]
      obtain rfl : c1 = #[.int .i64 x2, .int .i64 x3] := by rw [← Array.toArray_toList (xs := c1), k2]
      obtain rfl : args = #[.agg #[.int .i64 x0, .int .i64 x1], .agg #[.int .i64 x2, .int .i64 x3]] := by rw [← Array.toArray_toList (xs := args), h0]
      exact ⟨rfl, rfl, ⟨[(28, 0), (31, 0), (49, 0), (56, 0), (2000002, 0), (2000005, 0)], [], []⟩, 300, by rw [tree6_eq, tree6_res, if_pos hb]⟩
    · cases h
  · cases h
end Go.Proofs.YtfpcmckachpnpaaDoor.Vx
