/- The answers of the functions of the package and of its reference, read off their texts. -/
import Derived.Test.YtkllldhkikmbbaaTA
namespace Go.Proofs.Ytkllldhkikmbbaa.Vx
open Go Go.RowKit Go.Proofs
set_option maxRecDepth 100000
set_option linter.unusedVariables false
set_option linter.unusedSimpArgs false

/- gangsaw/plane.vectorOf -/
def ans48 : Ans := fun args => match args.toList with
  | [.agg c0] => match c0.toList with
    | [.int .i64 x0, .int .i64 x1, .int .i64 x2] => some (.agg #[.int .i64 (x0), .int .i64 (x1), .int .i64 (x2)])
    | _ => none
  | _ => none
def tab22 : Tab := (48, .ans ans48) :: tab21
def tree48 (x0 x1 x2 : Int) : Tr Value :=
  .leaf (some (.agg #[.int .i64 (x0), .int .i64 (x1), .int .i64 (x2)]))
theorem tree48_eq (x0 x1 x2 : Int) : vals (evFnT Try.prog (tb Try.prog tab21) (tbT Try.prog tab21) ⟨[], [], []⟩ noLoops 300 48 #[.agg #[.int .i64 x0, .int .i64 x1, .int .i64 x2]] []) = tree48 x0 x1 x2 := by kernel_rfl
theorem tree48_res (x0 x1 x2 : Int) : (tree48 x0 x1 x2).res = some (.agg #[.int .i64 (x0), .int .i64 (x1), .int .i64 (x2)]) := by
  rfl
theorem tab22_ok : TabOk Try.prog tab22 := tab_cons mixed tab21_ok (by decide) fun args v h => by
  unfold ans48 at h
  split at h
  · rename_i c0 h0
    split at h
    · rename_i x0 x1 x2 h1
      injection h with h; subst h
      obtain rfl : c0 = #[.int .i64 x0, .int .i64 x1, .int .i64 x2] := by rw [← Array.toArray_toList (xs := c0), h1]
      obtain rfl : args = #[.agg #[.int .i64 x0, .int .i64 x1, .int .i64 x2]] := by rw [← Array.toArray_toList (xs := args), h0]
      exact ⟨rfl, rfl, ⟨[], [], []⟩, 300, by rw [tree48_eq]; exact tree48_res _ _ _⟩
    · cases h
  · cases h

/- gangsaw/plane.Hull -/
def plane_Hull_ok (x0 x1 x2 x3 x4 x5 x6 x7 x8 x9 : Int) : Bool :=
  if plane_checkBoth_0 x0 x1 x2 x3 x4 x5 x6 x7 x8 x9 != 0 then (Bool.true) else if Decidable.decide (IntKind.i64.wrap (IntKind.i64.wrap (IntKind.i64.wrap (IntKind.i64.wrap (0 - plane_extremes_0 x0 x1 x2 x3 x4 x5 x6 x7 x8 x9) - imax x0 (IntKind.i64.wrap (0 - x0))) - imax x1 (IntKind.i64.wrap (0 - x1))) - imax x2 (IntKind.i64.wrap (0 - x2))) < 0) then (Bool.true) else if Decidable.decide (x0 > 0) then (if x0 == 0 then (Bool.false) else if Decidable.decide (x1 > 0) then (if x1 == 0 then (Bool.false) else if Decidable.decide (x2 > 0) then (if x2 == 0 then (Bool.false) else (Bool.true)) else if Decidable.decide (x2 < 0) then (if IntKind.i64.wrap (0 - x2) == 0 then (Bool.false) else (Bool.true)) else (Bool.true)) else if Decidable.decide (x1 < 0) then (if IntKind.i64.wrap (0 - x1) == 0 then (Bool.false) else if Decidable.decide (x2 > 0) then (if x2 == 0 then (Bool.false) else (Bool.true)) else if Decidable.decide (x2 < 0) then (if IntKind.i64.wrap (0 - x2) == 0 then (Bool.false) else (Bool.true)) else (Bool.true)) else if Decidable.decide (x2 > 0) then (if x2 == 0 then (Bool.false) else (Bool.true)) else if Decidable.decide (x2 < 0) then (if IntKind.i64.wrap (0 - x2) == 0 then (Bool.false) else (Bool.true)) else (Bool.true)) else if Decidable.decide (x0 < 0) then (if IntKind.i64.wrap (0 - x0) == 0 then (Bool.false) else if Decidable.decide (x1 > 0) then (if x1 == 0 then (Bool.false) else if Decidable.decide (x2 > 0) then (if x2 == 0 then (Bool.false) else (Bool.true)) else if Decidable.decide (x2 < 0) then (if IntKind.i64.wrap (0 - x2) == 0 then (Bool.false) else (Bool.true)) else (Bool.true)) else if Decidable.decide (x1 < 0) then (if IntKind.i64.wrap (0 - x1) == 0 then (Bool.false) else if Decidable.decide (x2 > 0) then (if x2 == 0 then (Bool.false) else (Bool.true)) else if Decidable.decide (x2 < 0) then (if IntKind.i64.wrap (0 - x2) == 0 then (Bool.false) else (Bool.true)) else (Bool.true)) else if Decidable.decide (x2 > 0) then (if x2 == 0 then (Bool.false) else (Bool.true)) else if Decidable.decide (x2 < 0) then (if IntKind.i64.wrap (0 - x2) == 0 then (Bool.false) else (Bool.true)) else (Bool.true)) else if Decidable.decide (x1 > 0) then (if x1 == 0 then (Bool.false) else if Decidable.decide (x2 > 0) then (if x2 == 0 then (Bool.false) else (Bool.true)) else if Decidable.decide (x2 < 0) then (if IntKind.i64.wrap (0 - x2) == 0 then (Bool.false) else (Bool.true)) else (Bool.true)) else if Decidable.decide (x1 < 0) then (if IntKind.i64.wrap (0 - x1) == 0 then (Bool.false) else if Decidable.decide (x2 > 0) then (if x2 == 0 then (Bool.false) else (Bool.true)) else if Decidable.decide (x2 < 0) then (if IntKind.i64.wrap (0 - x2) == 0 then (Bool.false) else (Bool.true)) else (Bool.true)) else if Decidable.decide (x2 > 0) then (if x2 == 0 then (Bool.false) else (Bool.true)) else if Decidable.decide (x2 < 0) then (if IntKind.i64.wrap (0 - x2) == 0 then (Bool.false) else (Bool.true)) else (Bool.true)
def plane_Hull_0 (x0 x1 x2 x3 x4 x5 x6 x7 x8 x9 : Int) : Int :=
  if plane_checkBoth_0 x0 x1 x2 x3 x4 x5 x6 x7 x8 x9 != 0 then (0) else if Decidable.decide (IntKind.i64.wrap (IntKind.i64.wrap (IntKind.i64.wrap (IntKind.i64.wrap (0 - plane_extremes_0 x0 x1 x2 x3 x4 x5 x6 x7 x8 x9) - imax x0 (IntKind.i64.wrap (0 - x0))) - imax x1 (IntKind.i64.wrap (0 - x1))) - imax x2 (IntKind.i64.wrap (0 - x2))) < 0) then (0) else if Decidable.decide (x0 > 0) then (x4) else if Decidable.decide (x0 < 0) then (imax x4 (IntKind.i64.wrap (IntKind.i64.wrap (x7 - 1) - IntKind.i64.wrap ((IntKind.i64.wrap (IntKind.i64.wrap (IntKind.i64.wrap (IntKind.i64.wrap (0 - plane_extremes_0 x0 x1 x2 x3 x4 x5 x6 x7 x8 x9) - imax x0 (IntKind.i64.wrap (0 - x0))) - imax x1 (IntKind.i64.wrap (0 - x1))) - imax x2 (IntKind.i64.wrap (0 - x2)))).tdiv (IntKind.i64.wrap (0 - x0)))))) else (x4)
def plane_Hull_1 (x0 x1 x2 x3 x4 x5 x6 x7 x8 x9 : Int) : Int :=
  if plane_checkBoth_0 x0 x1 x2 x3 x4 x5 x6 x7 x8 x9 != 0 then (0) else if Decidable.decide (IntKind.i64.wrap (IntKind.i64.wrap (IntKind.i64.wrap (IntKind.i64.wrap (0 - plane_extremes_0 x0 x1 x2 x3 x4 x5 x6 x7 x8 x9) - imax x0 (IntKind.i64.wrap (0 - x0))) - imax x1 (IntKind.i64.wrap (0 - x1))) - imax x2 (IntKind.i64.wrap (0 - x2))) < 0) then (0) else if Decidable.decide (x1 > 0) then (x5) else if Decidable.decide (x1 < 0) then (imax x5 (IntKind.i64.wrap (IntKind.i64.wrap (x8 - 1) - IntKind.i64.wrap ((IntKind.i64.wrap (IntKind.i64.wrap (IntKind.i64.wrap (IntKind.i64.wrap (0 - plane_extremes_0 x0 x1 x2 x3 x4 x5 x6 x7 x8 x9) - imax x0 (IntKind.i64.wrap (0 - x0))) - imax x1 (IntKind.i64.wrap (0 - x1))) - imax x2 (IntKind.i64.wrap (0 - x2)))).tdiv (IntKind.i64.wrap (0 - x1)))))) else (x5)
def plane_Hull_2 (x0 x1 x2 x3 x4 x5 x6 x7 x8 x9 : Int) : Int :=
  if plane_checkBoth_0 x0 x1 x2 x3 x4 x5 x6 x7 x8 x9 != 0 then (0) else if Decidable.decide (IntKind.i64.wrap (IntKind.i64.wrap (IntKind.i64.wrap (IntKind.i64.wrap (0 - plane_extremes_0 x0 x1 x2 x3 x4 x5 x6 x7 x8 x9) - imax x0 (IntKind.i64.wrap (0 - x0))) - imax x1 (IntKind.i64.wrap (0 - x1))) - imax x2 (IntKind.i64.wrap (0 - x2))) < 0) then (0) else if Decidable.decide (x2 > 0) then (x6) else if Decidable.decide (x2 < 0) then (imax x6 (IntKind.i64.wrap (IntKind.i64.wrap (x9 - 1) - IntKind.i64.wrap ((IntKind.i64.wrap (IntKind.i64.wrap (IntKind.i64.wrap (IntKind.i64.wrap (0 - plane_extremes_0 x0 x1 x2 x3 x4 x5 x6 x7 x8 x9) - imax x0 (IntKind.i64.wrap (0 - x0))) - imax x1 (IntKind.i64.wrap (0 - x1))) - imax x2 (IntKind.i64.wrap (0 - x2)))).tdiv (IntKind.i64.wrap (0 - x2)))))) else (x6)
def plane_Hull_3 (x0 x1 x2 x3 x4 x5 x6 x7 x8 x9 : Int) : Int :=
  if plane_checkBoth_0 x0 x1 x2 x3 x4 x5 x6 x7 x8 x9 != 0 then (0) else if Decidable.decide (IntKind.i64.wrap (IntKind.i64.wrap (IntKind.i64.wrap (IntKind.i64.wrap (0 - plane_extremes_0 x0 x1 x2 x3 x4 x5 x6 x7 x8 x9) - imax x0 (IntKind.i64.wrap (0 - x0))) - imax x1 (IntKind.i64.wrap (0 - x1))) - imax x2 (IntKind.i64.wrap (0 - x2))) < 0) then (0) else if Decidable.decide (x0 > 0) then (imin x7 (IntKind.i64.wrap (IntKind.i64.wrap (x4 + 1) + IntKind.i64.wrap ((IntKind.i64.wrap (IntKind.i64.wrap (IntKind.i64.wrap (IntKind.i64.wrap (0 - plane_extremes_0 x0 x1 x2 x3 x4 x5 x6 x7 x8 x9) - imax x0 (IntKind.i64.wrap (0 - x0))) - imax x1 (IntKind.i64.wrap (0 - x1))) - imax x2 (IntKind.i64.wrap (0 - x2)))).tdiv x0)))) else (x7)
def plane_Hull_4 (x0 x1 x2 x3 x4 x5 x6 x7 x8 x9 : Int) : Int :=
  if plane_checkBoth_0 x0 x1 x2 x3 x4 x5 x6 x7 x8 x9 != 0 then (0) else if Decidable.decide (IntKind.i64.wrap (IntKind.i64.wrap (IntKind.i64.wrap (IntKind.i64.wrap (0 - plane_extremes_0 x0 x1 x2 x3 x4 x5 x6 x7 x8 x9) - imax x0 (IntKind.i64.wrap (0 - x0))) - imax x1 (IntKind.i64.wrap (0 - x1))) - imax x2 (IntKind.i64.wrap (0 - x2))) < 0) then (0) else if Decidable.decide (x1 > 0) then (imin x8 (IntKind.i64.wrap (IntKind.i64.wrap (x5 + 1) + IntKind.i64.wrap ((IntKind.i64.wrap (IntKind.i64.wrap (IntKind.i64.wrap (IntKind.i64.wrap (0 - plane_extremes_0 x0 x1 x2 x3 x4 x5 x6 x7 x8 x9) - imax x0 (IntKind.i64.wrap (0 - x0))) - imax x1 (IntKind.i64.wrap (0 - x1))) - imax x2 (IntKind.i64.wrap (0 - x2)))).tdiv x1)))) else (x8)
def plane_Hull_5 (x0 x1 x2 x3 x4 x5 x6 x7 x8 x9 : Int) : Int :=
  if plane_checkBoth_0 x0 x1 x2 x3 x4 x5 x6 x7 x8 x9 != 0 then (0) else if Decidable.decide (IntKind.i64.wrap (IntKind.i64.wrap (IntKind.i64.wrap (IntKind.i64.wrap (0 - plane_extremes_0 x0 x1 x2 x3 x4 x5 x6 x7 x8 x9) - imax x0 (IntKind.i64.wrap (0 - x0))) - imax x1 (IntKind.i64.wrap (0 - x1))) - imax x2 (IntKind.i64.wrap (0 - x2))) < 0) then (0) else if Decidable.decide (x2 > 0) then (imin x9 (IntKind.i64.wrap (IntKind.i64.wrap (x6 + 1) + IntKind.i64.wrap ((IntKind.i64.wrap (IntKind.i64.wrap (IntKind.i64.wrap (IntKind.i64.wrap (0 - plane_extremes_0 x0 x1 x2 x3 x4 x5 x6 x7 x8 x9) - imax x0 (IntKind.i64.wrap (0 - x0))) - imax x1 (IntKind.i64.wrap (0 - x1))) - imax x2 (IntKind.i64.wrap (0 - x2)))).tdiv x2)))) else (x9)
def plane_Hull_6 (x0 x1 x2 x3 x4 x5 x6 x7 x8 x9 : Int) : Int :=
  if plane_checkBoth_0 x0 x1 x2 x3 x4 x5 x6 x7 x8 x9 != 0 then (plane_checkBoth_0 x0 x1 x2 x3 x4 x5 x6 x7 x8 x9) else if Decidable.decide (IntKind.i64.wrap (IntKind.i64.wrap (IntKind.i64.wrap (IntKind.i64.wrap (0 - plane_extremes_0 x0 x1 x2 x3 x4 x5 x6 x7 x8 x9) - imax x0 (IntKind.i64.wrap (0 - x0))) - imax x1 (IntKind.i64.wrap (0 - x1))) - imax x2 (IntKind.i64.wrap (0 - x2))) < 0) then (9) else (0)
def ans28 : Array Value → Option (Bool × Value) := fun args => match args.toList with
  | [.agg c0, .agg c1] => match c0.toList, c1.toList with
    | [.int .i64 x0, .int .i64 x1, .int .i64 x2, .int .i64 x3], [.int .i64 x4, .int .i64 x5, .int .i64 x6, .int .i64 x7, .int .i64 x8, .int .i64 x9] => some (plane_Hull_ok x0 x1 x2 x3 x4 x5 x6 x7 x8 x9, .tuple #[.agg #[.int .i64 (plane_Hull_0 x0 x1 x2 x3 x4 x5 x6 x7 x8 x9), .int .i64 (plane_Hull_1 x0 x1 x2 x3 x4 x5 x6 x7 x8 x9), .int .i64 (plane_Hull_2 x0 x1 x2 x3 x4 x5 x6 x7 x8 x9), .int .i64 (plane_Hull_3 x0 x1 x2 x3 x4 x5 x6 x7 x8 x9), .int .i64 (plane_Hull_4 x0 x1 x2 x3 x4 x5 x6 x7 x8 x9), .int .i64 (plane_Hull_5 x0 x1 x2 x3 x4 x5 x6 x7 x8 x9)], .int .i64 (plane_Hull_6 x0 x1 x2 x3 x4 x5 x6 x7 x8 x9)])
    | _, _ => none
  | _ => none
def tab23 : Tab := (28, .cond ans28) :: tab22
def tree28 (x0 x1 x2 x3 x4 x5 x6 x7 x8 x9 : Int) : Tr Value :=
  .node 20 (plane_checkBoth_0 x0 x1 x2 x3 x4 x5 x6 x7 x8 x9 != 0)
  (.leaf (some (.tuple #[.agg #[.int .i64 (0), .int .i64 (0), .int .i64 (0), .int .i64 (0), .int .i64 (0), .int .i64 (0)], .int .i64 (plane_checkBoth_0 x0 x1 x2 x3 x4 x5 x6 x7 x8 x9)])))
  (.node 44 (Decidable.decide (IntKind.i64.wrap (IntKind.i64.wrap (IntKind.i64.wrap (IntKind.i64.wrap (0 - plane_extremes_0 x0 x1 x2 x3 x4 x5 x6 x7 x8 x9) - imax x0 (IntKind.i64.wrap (0 - x0))) - imax x1 (IntKind.i64.wrap (0 - x1))) - imax x2 (IntKind.i64.wrap (0 - x2))) < 0))
   (.leaf (some (.tuple #[.agg #[.int .i64 (0), .int .i64 (0), .int .i64 (0), .int .i64 (0), .int .i64 (0), .int .i64 (0)], .int .i64 (9)])))
   (.node 60 (Decidable.decide (x0 > 0))
    (.node 71 (x0 == 0)
     (.leaf none)
     (.node 60 (Decidable.decide (x1 > 0))
      (.node 71 (x1 == 0)
       (.leaf none)
       (.node 60 (Decidable.decide (x2 > 0))
        (.node 71 (x2 == 0)
         (.leaf none)
         (.leaf (some (.tuple #[.agg #[.int .i64 (x4), .int .i64 (x5), .int .i64 (x6), .int .i64 (imin x7 (IntKind.i64.wrap (IntKind.i64.wrap (x4 + 1) + IntKind.i64.wrap ((IntKind.i64.wrap (IntKind.i64.wrap (IntKind.i64.wrap (IntKind.i64.wrap (0 - plane_extremes_0 x0 x1 x2 x3 x4 x5 x6 x7 x8 x9) - imax x0 (IntKind.i64.wrap (0 - x0))) - imax x1 (IntKind.i64.wrap (0 - x1))) - imax x2 (IntKind.i64.wrap (0 - x2)))).tdiv x0)))), .int .i64 (imin x8 (IntKind.i64.wrap (IntKind.i64.wrap (x5 + 1) + IntKind.i64.wrap ((IntKind.i64.wrap (IntKind.i64.wrap (IntKind.i64.wrap (IntKind.i64.wrap (0 - plane_extremes_0 x0 x1 x2 x3 x4 x5 x6 x7 x8 x9) - imax x0 (IntKind.i64.wrap (0 - x0))) - imax x1 (IntKind.i64.wrap (0 - x1))) - imax x2 (IntKind.i64.wrap (0 - x2)))).tdiv x1)))), .int .i64 (imin x9 (IntKind.i64.wrap (IntKind.i64.wrap (x6 + 1) + IntKind.i64.wrap ((IntKind.i64.wrap (IntKind.i64.wrap (IntKind.i64.wrap (IntKind.i64.wrap (0 - plane_extremes_0 x0 x1 x2 x3 x4 x5 x6 x7 x8 x9) - imax x0 (IntKind.i64.wrap (0 - x0))) - imax x1 (IntKind.i64.wrap (0 - x1))) - imax x2 (IntKind.i64.wrap (0 - x2)))).tdiv x2))))], .int .i64 (0)]))))
        (.node 77 (Decidable.decide (x2 < 0))
         (.node 89 (IntKind.i64.wrap (0 - x2) == 0)
          (.leaf none)
          (.leaf (some (.tuple #[.agg #[.int .i64 (x4), .int .i64 (x5), .int .i64 (imax x6 (IntKind.i64.wrap (IntKind.i64.wrap (x9 - 1) - IntKind.i64.wrap ((IntKind.i64.wrap (IntKind.i64.wrap (IntKind.i64.wrap (IntKind.i64.wrap (0 - plane_extremes_0 x0 x1 x2 x3 x4 x5 x6 x7 x8 x9) - imax x0 (IntKind.i64.wrap (0 - x0))) - imax x1 (IntKind.i64.wrap (0 - x1))) - imax x2 (IntKind.i64.wrap (0 - x2)))).tdiv (IntKind.i64.wrap (0 - x2)))))), .int .i64 (imin x7 (IntKind.i64.wrap (IntKind.i64.wrap (x4 + 1) + IntKind.i64.wrap ((IntKind.i64.wrap (IntKind.i64.wrap (IntKind.i64.wrap (IntKind.i64.wrap (0 - plane_extremes_0 x0 x1 x2 x3 x4 x5 x6 x7 x8 x9) - imax x0 (IntKind.i64.wrap (0 - x0))) - imax x1 (IntKind.i64.wrap (0 - x1))) - imax x2 (IntKind.i64.wrap (0 - x2)))).tdiv x0)))), .int .i64 (imin x8 (IntKind.i64.wrap (IntKind.i64.wrap (x5 + 1) + IntKind.i64.wrap ((IntKind.i64.wrap (IntKind.i64.wrap (IntKind.i64.wrap (IntKind.i64.wrap (0 - plane_extremes_0 x0 x1 x2 x3 x4 x5 x6 x7 x8 x9) - imax x0 (IntKind.i64.wrap (0 - x0))) - imax x1 (IntKind.i64.wrap (0 - x1))) - imax x2 (IntKind.i64.wrap (0 - x2)))).tdiv x1)))), .int .i64 (x9)], .int .i64 (0)]))))
         (.leaf (some (.tuple #[.agg #[.int .i64 (x4), .int .i64 (x5), .int .i64 (x6), .int .i64 (imin x7 (IntKind.i64.wrap (IntKind.i64.wrap (x4 + 1) + IntKind.i64.wrap ((IntKind.i64.wrap (IntKind.i64.wrap (IntKind.i64.wrap (IntKind.i64.wrap (0 - plane_extremes_0 x0 x1 x2 x3 x4 x5 x6 x7 x8 x9) - imax x0 (IntKind.i64.wrap (0 - x0))) - imax x1 (IntKind.i64.wrap (0 - x1))) - imax x2 (IntKind.i64.wrap (0 - x2)))).tdiv x0)))), .int .i64 (imin x8 (IntKind.i64.wrap (IntKind.i64.wrap (x5 + 1) + IntKind.i64.wrap ((IntKind.i64.wrap (IntKind.i64.wrap (IntKind.i64.wrap (IntKind.i64.wrap (0 - plane_extremes_0 x0 x1 x2 x3 x4 x5 x6 x7 x8 x9) - imax x0 (IntKind.i64.wrap (0 - x0))) - imax x1 (IntKind.i64.wrap (0 - x1))) - imax x2 (IntKind.i64.wrap (0 - x2)))).tdiv x1)))), .int .i64 (x9)], .int .i64 (0)]))))))
      (.node 77 (Decidable.decide (x1 < 0))
       (.node 89 (IntKind.i64.wrap (0 - x1) == 0)
        (.leaf none)
        (.node 60 (Decidable.decide (x2 > 0))
         (.node 71 (x2 == 0)
          (.leaf none)
          (.leaf (some (.tuple #[.agg #[.int .i64 (x4), .int .i64 (imax x5 (IntKind.i64.wrap (IntKind.i64.wrap (x8 - 1) - IntKind.i64.wrap ((IntKind.i64.wrap (IntKind.i64.wrap (IntKind.i64.wrap (IntKind.i64.wrap (0 - plane_extremes_0 x0 x1 x2 x3 x4 x5 x6 x7 x8 x9) - imax x0 (IntKind.i64.wrap (0 - x0))) - imax x1 (IntKind.i64.wrap (0 - x1))) - imax x2 (IntKind.i64.wrap (0 - x2)))).tdiv (IntKind.i64.wrap (0 - x1)))))), .int .i64 (x6), .int .i64 (imin x7 (IntKind.i64.wrap (IntKind.i64.wrap (x4 + 1) + IntKind.i64.wrap ((IntKind.i64.wrap (IntKind.i64.wrap (IntKind.i64.wrap (IntKind.i64.wrap (0 - plane_extremes_0 x0 x1 x2 x3 x4 x5 x6 x7 x8 x9) - imax x0 (IntKind.i64.wrap (0 - x0))) - imax x1 (IntKind.i64.wrap (0 - x1))) - imax x2 (IntKind.i64.wrap (0 - x2)))).tdiv x0)))), .int .i64 (x8), .int .i64 (imin x9 (IntKind.i64.wrap (IntKind.i64.wrap (x6 + 1) + IntKind.i64.wrap ((IntKind.i64.wrap (IntKind.i64.wrap (IntKind.i64.wrap (IntKind.i64.wrap (0 - plane_extremes_0 x0 x1 x2 x3 x4 x5 x6 x7 x8 x9) - imax x0 (IntKind.i64.wrap (0 - x0))) - imax x1 (IntKind.i64.wrap (0 - x1))) - imax x2 (IntKind.i64.wrap (0 - x2)))).tdiv x2))))], .int .i64 (0)]))))
         (.node 77 (Decidable.decide (x2 < 0))
          (.node 89 (IntKind.i64.wrap (0 - x2) == 0)
           (.leaf none)
           (.leaf (some (.tuple #[.agg #[.int .i64 (x4), .int .i64 (imax x5 (IntKind.i64.wrap (IntKind.i64.wrap (x8 - 1) - IntKind.i64.wrap ((IntKind.i64.wrap (IntKind.i64.wrap (IntKind.i64.wrap (IntKind.i64.wrap (0 - plane_extremes_0 x0 x1 x2 x3 x4 x5 x6 x7 x8 x9) - imax x0 (IntKind.i64.wrap (0 - x0))) - imax x1 (IntKind.i64.wrap (0 - x1))) - imax x2 (IntKind.i64.wrap (0 - x2)))).tdiv (IntKind.i64.wrap (0 - x1)))))), .int .i64 (imax x6 (IntKind.i64.wrap (IntKind.i64.wrap (x9 - 1) - IntKind.i64.wrap ((IntKind.i64.wrap (IntKind.i64.wrap (IntKind.i64.wrap (IntKind.i64.wrap (0 - plane_extremes_0 x0 x1 x2 x3 x4 x5 x6 x7 x8 x9) - imax x0 (IntKind.i64.wrap (0 - x0))) - imax x1 (IntKind.i64.wrap (0 - x1))) - imax x2 (IntKind.i64.wrap (0 - x2)))).tdiv (IntKind.i64.wrap (0 - x2)))))), .int .i64 (imin x7 (IntKind.i64.wrap (IntKind.i64.wrap (x4 + 1) + IntKind.i64.wrap ((IntKind.i64.wrap (IntKind.i64.wrap (IntKind.i64.wrap (IntKind.i64.wrap (0 - plane_extremes_0 x0 x1 x2 x3 x4 x5 x6 x7 x8 x9) - imax x0 (IntKind.i64.wrap (0 - x0))) - imax x1 (IntKind.i64.wrap (0 - x1))) - imax x2 (IntKind.i64.wrap (0 - x2)))).tdiv x0)))), .int .i64 (x8), .int .i64 (x9)], .int .i64 (0)]))))
          (.leaf (some (.tuple #[.agg #[.int .i64 (x4), .int .i64 (imax x5 (IntKind.i64.wrap (IntKind.i64.wrap (x8 - 1) - IntKind.i64.wrap ((IntKind.i64.wrap (IntKind.i64.wrap (IntKind.i64.wrap (IntKind.i64.wrap (0 - plane_extremes_0 x0 x1 x2 x3 x4 x5 x6 x7 x8 x9) - imax x0 (IntKind.i64.wrap (0 - x0))) - imax x1 (IntKind.i64.wrap (0 - x1))) - imax x2 (IntKind.i64.wrap (0 - x2)))).tdiv (IntKind.i64.wrap (0 - x1)))))), .int .i64 (x6), .int .i64 (imin x7 (IntKind.i64.wrap (IntKind.i64.wrap (x4 + 1) + IntKind.i64.wrap ((IntKind.i64.wrap (IntKind.i64.wrap (IntKind.i64.wrap (IntKind.i64.wrap (0 - plane_extremes_0 x0 x1 x2 x3 x4 x5 x6 x7 x8 x9) - imax x0 (IntKind.i64.wrap (0 - x0))) - imax x1 (IntKind.i64.wrap (0 - x1))) - imax x2 (IntKind.i64.wrap (0 - x2)))).tdiv x0)))), .int .i64 (x8), .int .i64 (x9)], .int .i64 (0)]))))))
       (.node 60 (Decidable.decide (x2 > 0))
        (.node 71 (x2 == 0)
         (.leaf none)
         (.leaf (some (.tuple #[.agg #[.int .i64 (x4), .int .i64 (x5), .int .i64 (x6), .int .i64 (imin x7 (IntKind.i64.wrap (IntKind.i64.wrap (x4 + 1) + IntKind.i64.wrap ((IntKind.i64.wrap (IntKind.i64.wrap (IntKind.i64.wrap (IntKind.i64.wrap (0 - plane_extremes_0 x0 x1 x2 x3 x4 x5 x6 x7 x8 x9) - imax x0 (IntKind.i64.wrap (0 - x0))) - imax x1 (IntKind.i64.wrap (0 - x1))) - imax x2 (IntKind.i64.wrap (0 - x2)))).tdiv x0)))), .int .i64 (x8), .int .i64 (imin x9 (IntKind.i64.wrap (IntKind.i64.wrap (x6 + 1) + IntKind.i64.wrap ((IntKind.i64.wrap (IntKind.i64.wrap (IntKind.i64.wrap (IntKind.i64.wrap (0 - plane_extremes_0 x0 x1 x2 x3 x4 x5 x6 x7 x8 x9) - imax x0 (IntKind.i64.wrap (0 - x0))) - imax x1 (IntKind.i64.wrap (0 - x1))) - imax x2 (IntKind.i64.wrap (0 - x2)))).tdiv x2))))], .int .i64 (0)]))))
        (.node 77 (Decidable.decide (x2 < 0))
         (.node 89 (IntKind.i64.wrap (0 - x2) == 0)
          (.leaf none)
          (.leaf (some (.tuple #[.agg #[.int .i64 (x4), .int .i64 (x5), .int .i64 (imax x6 (IntKind.i64.wrap (IntKind.i64.wrap (x9 - 1) - IntKind.i64.wrap ((IntKind.i64.wrap (IntKind.i64.wrap (IntKind.i64.wrap (IntKind.i64.wrap (0 - plane_extremes_0 x0 x1 x2 x3 x4 x5 x6 x7 x8 x9) - imax x0 (IntKind.i64.wrap (0 - x0))) - imax x1 (IntKind.i64.wrap (0 - x1))) - imax x2 (IntKind.i64.wrap (0 - x2)))).tdiv (IntKind.i64.wrap (0 - x2)))))), .int .i64 (imin x7 (IntKind.i64.wrap (IntKind.i64.wrap (x4 + 1) + IntKind.i64.wrap ((IntKind.i64.wrap (IntKind.i64.wrap (IntKind.i64.wrap (IntKind.i64.wrap (0 - plane_extremes_0 x0 x1 x2 x3 x4 x5 x6 x7 x8 x9) - imax x0 (IntKind.i64.wrap (0 - x0))) - imax x1 (IntKind.i64.wrap (0 - x1))) - imax x2 (IntKind.i64.wrap (0 - x2)))).tdiv x0)))), .int .i64 (x8), .int .i64 (x9)], .int .i64 (0)]))))
         (.leaf (some (.tuple #[.agg #[.int .i64 (x4), .int .i64 (x5), .int .i64 (x6), .int .i64 (imin x7 (IntKind.i64.wrap (IntKind.i64.wrap (x4 + 1) + IntKind.i64.wrap ((IntKind.i64.wrap (IntKind.i64.wrap (IntKind.i64.wrap (IntKind.i64.wrap (0 - plane_extremes_0 x0 x1 x2 x3 x4 x5 x6 x7 x8 x9) - imax x0 (IntKind.i64.wrap (0 - x0))) - imax x1 (IntKind.i64.wrap (0 - x1))) - imax x2 (IntKind.i64.wrap (0 - x2)))).tdiv x0)))), .int .i64 (x8), .int .i64 (x9)], .int .i64 (0)]))))))))
    (.node 77 (Decidable.decide (x0 < 0))
     (.node 89 (IntKind.i64.wrap (0 - x0) == 0)
      (.leaf none)
      (.node 60 (Decidable.decide (x1 > 0))
       (.node 71 (x1 == 0)
        (.leaf none)
        (.node 60 (Decidable.decide (x2 > 0))
         (.node 71 (x2 == 0)
          (.leaf none)
          (.leaf (some (.tuple #[.agg #[.int .i64 (imax x4 (IntKind.i64.wrap (IntKind.i64.wrap (x7 - 1) - IntKind.i64.wrap ((IntKind.i64.wrap (IntKind.i64.wrap (IntKind.i64.wrap (IntKind.i64.wrap (0 - plane_extremes_0 x0 x1 x2 x3 x4 x5 x6 x7 x8 x9) - imax x0 (IntKind.i64.wrap (0 - x0))) - imax x1 (IntKind.i64.wrap (0 - x1))) - imax x2 (IntKind.i64.wrap (0 - x2)))).tdiv (IntKind.i64.wrap (0 - x0)))))), .int .i64 (x5), .int .i64 (x6), .int .i64 (x7), .int .i64 (imin x8 (IntKind.i64.wrap (IntKind.i64.wrap (x5 + 1) + IntKind.i64.wrap ((IntKind.i64.wrap (IntKind.i64.wrap (IntKind.i64.wrap (IntKind.i64.wrap (0 - plane_extremes_0 x0 x1 x2 x3 x4 x5 x6 x7 x8 x9) - imax x0 (IntKind.i64.wrap (0 - x0))) - imax x1 (IntKind.i64.wrap (0 - x1))) - imax x2 (IntKind.i64.wrap (0 - x2)))).tdiv x1)))), .int .i64 (imin x9 (IntKind.i64.wrap (IntKind.i64.wrap (x6 + 1) + IntKind.i64.wrap ((IntKind.i64.wrap (IntKind.i64.wrap (IntKind.i64.wrap (IntKind.i64.wrap (0 - plane_extremes_0 x0 x1 x2 x3 x4 x5 x6 x7 x8 x9) - imax x0 (IntKind.i64.wrap (0 - x0))) - imax x1 (IntKind.i64.wrap (0 - x1))) - imax x2 (IntKind.i64.wrap (0 - x2)))).tdiv x2))))], .int .i64 (0)]))))
         (.node 77 (Decidable.decide (x2 < 0))
          (.node 89 (IntKind.i64.wrap (0 - x2) == 0)
           (.leaf none)
           (.leaf (some (.tuple #[.agg #[.int .i64 (imax x4 (IntKind.i64.wrap (IntKind.i64.wrap (x7 - 1) - IntKind.i64.wrap ((IntKind.i64.wrap (IntKind.i64.wrap (IntKind.i64.wrap (IntKind.i64.wrap (0 - plane_extremes_0 x0 x1 x2 x3 x4 x5 x6 x7 x8 x9) - imax x0 (IntKind.i64.wrap (0 - x0))) - imax x1 (IntKind.i64.wrap (0 - x1))) - imax x2 (IntKind.i64.wrap (0 - x2)))).tdiv (IntKind.i64.wrap (0 - x0)))))), .int .i64 (x5), .int .i64 (imax x6 (IntKind.i64.wrap (IntKind.i64.wrap (x9 - 1) - IntKind.i64.wrap ((IntKind.i64.wrap (IntKind.i64.wrap (IntKind.i64.wrap (IntKind.i64.wrap (0 - plane_extremes_0 x0 x1 x2 x3 x4 x5 x6 x7 x8 x9) - imax x0 (IntKind.i64.wrap (0 - x0))) - imax x1 (IntKind.i64.wrap (0 - x1))) - imax x2 (IntKind.i64.wrap (0 - x2)))).tdiv (IntKind.i64.wrap (0 - x2)))))), .int .i64 (x7), .int .i64 (imin x8 (IntKind.i64.wrap (IntKind.i64.wrap (x5 + 1) + IntKind.i64.wrap ((IntKind.i64.wrap (IntKind.i64.wrap (IntKind.i64.wrap (IntKind.i64.wrap (0 - plane_extremes_0 x0 x1 x2 x3 x4 x5 x6 x7 x8 x9) - imax x0 (IntKind.i64.wrap (0 - x0))) - imax x1 (IntKind.i64.wrap (0 - x1))) - imax x2 (IntKind.i64.wrap (0 - x2)))).tdiv x1)))), .int .i64 (x9)], .int .i64 (0)]))))
          (.leaf (some (.tuple #[.agg #[.int .i64 (imax x4 (IntKind.i64.wrap (IntKind.i64.wrap (x7 - 1) - IntKind.i64.wrap ((IntKind.i64.wrap (IntKind.i64.wrap (IntKind.i64.wrap (IntKind.i64.wrap (0 - plane_extremes_0 x0 x1 x2 x3 x4 x5 x6 x7 x8 x9) - imax x0 (IntKind.i64.wrap (0 - x0))) - imax x1 (IntKind.i64.wrap (0 - x1))) - imax x2 (IntKind.i64.wrap (0 - x2)))).tdiv (IntKind.i64.wrap (0 - x0)))))), .int .i64 (x5), .int .i64 (x6), .int .i64 (x7), .int .i64 (imin x8 (IntKind.i64.wrap (IntKind.i64.wrap (x5 + 1) + IntKind.i64.wrap ((IntKind.i64.wrap (IntKind.i64.wrap (IntKind.i64.wrap (IntKind.i64.wrap (0 - plane_extremes_0 x0 x1 x2 x3 x4 x5 x6 x7 x8 x9) - imax x0 (IntKind.i64.wrap (0 - x0))) - imax x1 (IntKind.i64.wrap (0 - x1))) - imax x2 (IntKind.i64.wrap (0 - x2)))).tdiv x1)))), .int .i64 (x9)], .int .i64 (0)]))))))
       (.node 77 (Decidable.decide (x1 < 0))
        (.node 89 (IntKind.i64.wrap (0 - x1) == 0)
         (.leaf none)
         (.node 60 (Decidable.decide (x2 > 0))
          (.node 71 (x2 == 0)
           (.leaf none)
           (.leaf (some (.tuple #[.agg #[.int .i64 (imax x4 (IntKind.i64.wrap (IntKind.i64.wrap (x7 - 1) - IntKind.i64.wrap ((IntKind.i64.wrap (IntKind.i64.wrap (IntKind.i64.wrap (IntKind.i64.wrap (0 - plane_extremes_0 x0 x1 x2 x3 x4 x5 x6 x7 x8 x9) - imax x0 (IntKind.i64.wrap (0 - x0))) - imax x1 (IntKind.i64.wrap (0 - x1))) - imax x2 (IntKind.i64.wrap (0 - x2)))).tdiv (IntKind.i64.wrap (0 - x0)))))), .int .i64 (imax x5 (IntKind.i64.wrap (IntKind.i64.wrap (x8 - 1) - IntKind.i64.wrap ((IntKind.i64.wrap (IntKind.i64.wrap (IntKind.i64.wrap (IntKind.i64.wrap (0 - plane_extremes_0 x0 x1 x2 x3 x4 x5 x6 x7 x8 x9) - imax x0 (IntKind.i64.wrap (0 - x0))) - imax x1 (IntKind.i64.wrap (0 - x1))) - imax x2 (IntKind.i64.wrap (0 - x2)))).tdiv (IntKind.i64.wrap (0 - x1)))))), .int .i64 (x6), .int .i64 (x7), .int .i64 (x8), .int .i64 (imin x9 (IntKind.i64.wrap (IntKind.i64.wrap (x6 + 1) + IntKind.i64.wrap ((IntKind.i64.wrap (IntKind.i64.wrap (IntKind.i64.wrap (IntKind.i64.wrap (0 - plane_extremes_0 x0 x1 x2 x3 x4 x5 x6 x7 x8 x9) - imax x0 (IntKind.i64.wrap (0 - x0))) - imax x1 (IntKind.i64.wrap (0 - x1))) - imax x2 (IntKind.i64.wrap (0 - x2)))).tdiv x2))))], .int .i64 (0)]))))
          (.node 77 (Decidable.decide (x2 < 0))
           (.node 89 (IntKind.i64.wrap (0 - x2) == 0)
            (.leaf none)
            (.leaf (some (.tuple #[.agg #[.int .i64 (imax x4 (IntKind.i64.wrap (IntKind.i64.wrap (x7 - 1) - IntKind.i64.wrap ((IntKind.i64.wrap (IntKind.i64.wrap (IntKind.i64.wrap (IntKind.i64.wrap (0 - plane_extremes_0 x0 x1 x2 x3 x4 x5 x6 x7 x8 x9) - imax x0 (IntKind.i64.wrap (0 - x0))) - imax x1 (IntKind.i64.wrap (0 - x1))) - imax x2 (IntKind.i64.wrap (0 - x2)))).tdiv (IntKind.i64.wrap (0 - x0)))))), .int .i64 (imax x5 (IntKind.i64.wrap (IntKind.i64.wrap (x8 - 1) - IntKind.i64.wrap ((IntKind.i64.wrap (IntKind.i64.wrap (IntKind.i64.wrap (IntKind.i64.wrap (0 - plane_extremes_0 x0 x1 x2 x3 x4 x5 x6 x7 x8 x9) - imax x0 (IntKind.i64.wrap (0 - x0))) - imax x1 (IntKind.i64.wrap (0 - x1))) - imax x2 (IntKind.i64.wrap (0 - x2)))).tdiv (IntKind.i64.wrap (0 - x1)))))), .int .i64 (imax x6 (IntKind.i64.wrap (IntKind.i64.wrap (x9 - 1) - IntKind.i64.wrap ((IntKind.i64.wrap (IntKind.i64.wrap (IntKind.i64.wrap (IntKind.i64.wrap (0 - plane_extremes_0 x0 x1 x2 x3 x4 x5 x6 x7 x8 x9) - imax x0 (IntKind.i64.wrap (0 - x0))) - imax x1 (IntKind.i64.wrap (0 - x1))) - imax x2 (IntKind.i64.wrap (0 - x2)))).tdiv (IntKind.i64.wrap (0 - x2)))))), .int .i64 (x7), .int .i64 (x8), .int .i64 (x9)], .int .i64 (0)]))))
           (.leaf (some (.tuple #[.agg #[.int .i64 (imax x4 (IntKind.i64.wrap (IntKind.i64.wrap (x7 - 1) - IntKind.i64.wrap ((IntKind.i64.wrap (IntKind.i64.wrap (IntKind.i64.wrap (IntKind.i64.wrap (0 - plane_extremes_0 x0 x1 x2 x3 x4 x5 x6 x7 x8 x9) - imax x0 (IntKind.i64.wrap (0 - x0))) - imax x1 (IntKind.i64.wrap (0 - x1))) - imax x2 (IntKind.i64.wrap (0 - x2)))).tdiv (IntKind.i64.wrap (0 - x0)))))), .int .i64 (imax x5 (IntKind.i64.wrap (IntKind.i64.wrap (x8 - 1) - IntKind.i64.wrap ((IntKind.i64.wrap (IntKind.i64.wrap (IntKind.i64.wrap (IntKind.i64.wrap (0 - plane_extremes_0 x0 x1 x2 x3 x4 x5 x6 x7 x8 x9) - imax x0 (IntKind.i64.wrap (0 - x0))) - imax x1 (IntKind.i64.wrap (0 - x1))) - imax x2 (IntKind.i64.wrap (0 - x2)))).tdiv (IntKind.i64.wrap (0 - x1)))))), .int .i64 (x6), .int .i64 (x7), .int .i64 (x8), .int .i64 (x9)], .int .i64 (0)]))))))
        (.node 60 (Decidable.decide (x2 > 0))
         (.node 71 (x2 == 0)
          (.leaf none)
          (.leaf (some (.tuple #[.agg #[.int .i64 (imax x4 (IntKind.i64.wrap (IntKind.i64.wrap (x7 - 1) - IntKind.i64.wrap ((IntKind.i64.wrap (IntKind.i64.wrap (IntKind.i64.wrap (IntKind.i64.wrap (0 - plane_extremes_0 x0 x1 x2 x3 x4 x5 x6 x7 x8 x9) - imax x0 (IntKind.i64.wrap (0 - x0))) - imax x1 (IntKind.i64.wrap (0 - x1))) - imax x2 (IntKind.i64.wrap (0 - x2)))).tdiv (IntKind.i64.wrap (0 - x0)))))), .int .i64 (x5), .int .i64 (x6), .int .i64 (x7), .int .i64 (x8), .int .i64 (imin x9 (IntKind.i64.wrap (IntKind.i64.wrap (x6 + 1) + IntKind.i64.wrap ((IntKind.i64.wrap (IntKind.i64.wrap (IntKind.i64.wrap (IntKind.i64.wrap (0 - plane_extremes_0 x0 x1 x2 x3 x4 x5 x6 x7 x8 x9) - imax x0 (IntKind.i64.wrap (0 - x0))) - imax x1 (IntKind.i64.wrap (0 - x1))) - imax x2 (IntKind.i64.wrap (0 - x2)))).tdiv x2))))], .int .i64 (0)]))))
         (.node 77 (Decidable.decide (x2 < 0))
          (.node 89 (IntKind.i64.wrap (0 - x2) == 0)
           (.leaf none)
           (.leaf (some (.tuple #[.agg #[.int .i64 (imax x4 (IntKind.i64.wrap (IntKind.i64.wrap (x7 - 1) - IntKind.i64.wrap ((IntKind.i64.wrap (IntKind.i64.wrap (IntKind.i64.wrap (IntKind.i64.wrap (0 - plane_extremes_0 x0 x1 x2 x3 x4 x5 x6 x7 x8 x9) - imax x0 (IntKind.i64.wrap (0 - x0))) - imax x1 (IntKind.i64.wrap (0 - x1))) - imax x2 (IntKind.i64.wrap (0 - x2)))).tdiv (IntKind.i64.wrap (0 - x0)))))), .int .i64 (x5), .int .i64 (imax x6 (IntKind.i64.wrap (IntKind.i64.wrap (x9 - 1) - IntKind.i64.wrap ((IntKind.i64.wrap (IntKind.i64.wrap (IntKind.i64.wrap (IntKind.i64.wrap (0 - plane_extremes_0 x0 x1 x2 x3 x4 x5 x6 x7 x8 x9) - imax x0 (IntKind.i64.wrap (0 - x0))) - imax x1 (IntKind.i64.wrap (0 - x1))) - imax x2 (IntKind.i64.wrap (0 - x2)))).tdiv (IntKind.i64.wrap (0 - x2)))))), .int .i64 (x7), .int .i64 (x8), .int .i64 (x9)], .int .i64 (0)]))))
          (.leaf (some (.tuple #[.agg #[.int .i64 (imax x4 (IntKind.i64.wrap (IntKind.i64.wrap (x7 - 1) - IntKind.i64.wrap ((IntKind.i64.wrap (IntKind.i64.wrap (IntKind.i64.wrap (IntKind.i64.wrap (0 - plane_extremes_0 x0 x1 x2 x3 x4 x5 x6 x7 x8 x9) - imax x0 (IntKind.i64.wrap (0 - x0))) - imax x1 (IntKind.i64.wrap (0 - x1))) - imax x2 (IntKind.i64.wrap (0 - x2)))).tdiv (IntKind.i64.wrap (0 - x0)))))), .int .i64 (x5), .int .i64 (x6), .int .i64 (x7), .int .i64 (x8), .int .i64 (x9)], .int .i64 (0)]))))))))
     (.node 60 (Decidable.decide (x1 > 0))
      (.node 71 (x1 == 0)
       (.leaf none)
       (.node 60 (Decidable.decide (x2 > 0))
        (.node 71 (x2 == 0)
         (.leaf none)
         (.leaf (some (.tuple #[.agg #[.int .i64 (x4), .int .i64 (x5), .int .i64 (x6), .int .i64 (x7), .int .i64 (imin x8 (IntKind.i64.wrap (IntKind.i64.wrap (x5 + 1) + IntKind.i64.wrap ((IntKind.i64.wrap (IntKind.i64.wrap (IntKind.i64.wrap (IntKind.i64.wrap (0 - plane_extremes_0 x0 x1 x2 x3 x4 x5 x6 x7 x8 x9) - imax x0 (IntKind.i64.wrap (0 - x0))) - imax x1 (IntKind.i64.wrap (0 - x1))) - imax x2 (IntKind.i64.wrap (0 - x2)))).tdiv x1)))), .int .i64 (imin x9 (IntKind.i64.wrap (IntKind.i64.wrap (x6 + 1) + IntKind.i64.wrap ((IntKind.i64.wrap (IntKind.i64.wrap (IntKind.i64.wrap (IntKind.i64.wrap (0 - plane_extremes_0 x0 x1 x2 x3 x4 x5 x6 x7 x8 x9) - imax x0 (IntKind.i64.wrap (0 - x0))) - imax x1 (IntKind.i64.wrap (0 - x1))) - imax x2 (IntKind.i64.wrap (0 - x2)))).tdiv x2))))], .int .i64 (0)]))))
        (.node 77 (Decidable.decide (x2 < 0))
         (.node 89 (IntKind.i64.wrap (0 - x2) == 0)
          (.leaf none)
          (.leaf (some (.tuple #[.agg #[.int .i64 (x4), .int .i64 (x5), .int .i64 (imax x6 (IntKind.i64.wrap (IntKind.i64.wrap (x9 - 1) - IntKind.i64.wrap ((IntKind.i64.wrap (IntKind.i64.wrap (IntKind.i64.wrap (IntKind.i64.wrap (0 - plane_extremes_0 x0 x1 x2 x3 x4 x5 x6 x7 x8 x9) - imax x0 (IntKind.i64.wrap (0 - x0))) - imax x1 (IntKind.i64.wrap (0 - x1))) - imax x2 (IntKind.i64.wrap (0 - x2)))).tdiv (IntKind.i64.wrap (0 - x2)))))), .int .i64 (x7), .int .i64 (imin x8 (IntKind.i64.wrap (IntKind.i64.wrap (x5 + 1) + IntKind.i64.wrap ((IntKind.i64.wrap (IntKind.i64.wrap (IntKind.i64.wrap (IntKind.i64.wrap (0 - plane_extremes_0 x0 x1 x2 x3 x4 x5 x6 x7 x8 x9) - imax x0 (IntKind.i64.wrap (0 - x0))) - imax x1 (IntKind.i64.wrap (0 - x1))) - imax x2 (IntKind.i64.wrap (0 - x2)))).tdiv x1)))), .int .i64 (x9)], .int .i64 (0)]))))
         (.leaf (some (.tuple #[.agg #[.int .i64 (x4), .int .i64 (x5), .int .i64 (x6), .int .i64 (x7), .int .i64 (imin x8 (IntKind.i64.wrap (IntKind.i64.wrap (x5 + 1) + IntKind.i64.wrap ((IntKind.i64.wrap (IntKind.i64.wrap (IntKind.i64.wrap (IntKind.i64.wrap (0 - plane_extremes_0 x0 x1 x2 x3 x4 x5 x6 x7 x8 x9) - imax x0 (IntKind.i64.wrap (0 - x0))) - imax x1 (IntKind.i64.wrap (0 - x1))) - imax x2 (IntKind.i64.wrap (0 - x2)))).tdiv x1)))), .int .i64 (x9)], .int .i64 (0)]))))))
      (.node 77 (Decidable.decide (x1 < 0))
       (.node 89 (IntKind.i64.wrap (0 - x1) == 0)
        (.leaf none)
        (.node 60 (Decidable.decide (x2 > 0))
         (.node 71 (x2 == 0)
          (.leaf none)
          (.leaf (some (.tuple #[.agg #[.int .i64 (x4), .int .i64 (imax x5 (IntKind.i64.wrap (IntKind.i64.wrap (x8 - 1) - IntKind.i64.wrap ((IntKind.i64.wrap (IntKind.i64.wrap (IntKind.i64.wrap (IntKind.i64.wrap (0 - plane_extremes_0 x0 x1 x2 x3 x4 x5 x6 x7 x8 x9) - imax x0 (IntKind.i64.wrap (0 - x0))) - imax x1 (IntKind.i64.wrap (0 - x1))) - imax x2 (IntKind.i64.wrap (0 - x2)))).tdiv (IntKind.i64.wrap (0 - x1)))))), .int .i64 (x6), .int .i64 (x7), .int .i64 (x8), .int .i64 (imin x9 (IntKind.i64.wrap (IntKind.i64.wrap (x6 + 1) + IntKind.i64.wrap ((IntKind.i64.wrap (IntKind.i64.wrap (IntKind.i64.wrap (IntKind.i64.wrap (0 - plane_extremes_0 x0 x1 x2 x3 x4 x5 x6 x7 x8 x9) - imax x0 (IntKind.i64.wrap (0 - x0))) - imax x1 (IntKind.i64.wrap (0 - x1))) - imax x2 (IntKind.i64.wrap (0 - x2)))).tdiv x2))))], .int .i64 (0)]))))
         (.node 77 (Decidable.decide (x2 < 0))
          (.node 89 (IntKind.i64.wrap (0 - x2) == 0)
           (.leaf none)
           (.leaf (some (.tuple #[.agg #[.int .i64 (x4), .int .i64 (imax x5 (IntKind.i64.wrap (IntKind.i64.wrap (x8 - 1) - IntKind.i64.wrap ((IntKind.i64.wrap (IntKind.i64.wrap (IntKind.i64.wrap (IntKind.i64.wrap (0 - plane_extremes_0 x0 x1 x2 x3 x4 x5 x6 x7 x8 x9) - imax x0 (IntKind.i64.wrap (0 - x0))) - imax x1 (IntKind.i64.wrap (0 - x1))) - imax x2 (IntKind.i64.wrap (0 - x2)))).tdiv (IntKind.i64.wrap (0 - x1)))))), .int .i64 (imax x6 (IntKind.i64.wrap (IntKind.i64.wrap (x9 - 1) - IntKind.i64.wrap ((IntKind.i64.wrap (IntKind.i64.wrap (IntKind.i64.wrap (IntKind.i64.wrap (0 - plane_extremes_0 x0 x1 x2 x3 x4 x5 x6 x7 x8 x9) - imax x0 (IntKind.i64.wrap (0 - x0))) - imax x1 (IntKind.i64.wrap (0 - x1))) - imax x2 (IntKind.i64.wrap (0 - x2)))).tdiv (IntKind.i64.wrap (0 - x2)))))), .int .i64 (x7), .int .i64 (x8), .int .i64 (x9)], .int .i64 (0)]))))
          (.leaf (some (.tuple #[.agg #[.int .i64 (x4), .int .i64 (imax x5 (IntKind.i64.wrap (IntKind.i64.wrap (x8 - 1) - IntKind.i64.wrap ((IntKind.i64.wrap (IntKind.i64.wrap (IntKind.i64.wrap (IntKind.i64.wrap (0 - plane_extremes_0 x0 x1 x2 x3 x4 x5 x6 x7 x8 x9) - imax x0 (IntKind.i64.wrap (0 - x0))) - imax x1 (IntKind.i64.wrap (0 - x1))) - imax x2 (IntKind.i64.wrap (0 - x2)))).tdiv (IntKind.i64.wrap (0 - x1)))))), .int .i64 (x6), .int .i64 (x7), .int .i64 (x8), .int .i64 (x9)], .int .i64 (0)]))))))
       (.node 60 (Decidable.decide (x2 > 0))
        (.node 71 (x2 == 0)
         (.leaf none)
         (.leaf (some (.tuple #[.agg #[.int .i64 (x4), .int .i64 (x5), .int .i64 (x6), .int .i64 (x7), .int .i64 (x8), .int .i64 (imin x9 (IntKind.i64.wrap (IntKind.i64.wrap (x6 + 1) + IntKind.i64.wrap ((IntKind.i64.wrap (IntKind.i64.wrap (IntKind.i64.wrap (IntKind.i64.wrap (0 - plane_extremes_0 x0 x1 x2 x3 x4 x5 x6 x7 x8 x9) - imax x0 (IntKind.i64.wrap (0 - x0))) - imax x1 (IntKind.i64.wrap (0 - x1))) - imax x2 (IntKind.i64.wrap (0 - x2)))).tdiv x2))))], .int .i64 (0)]))))
        (.node 77 (Decidable.decide (x2 < 0))
         (.node 89 (IntKind.i64.wrap (0 - x2) == 0)
          (.leaf none)
          (.leaf (some (.tuple #[.agg #[.int .i64 (x4), .int .i64 (x5), .int .i64 (imax x6 (IntKind.i64.wrap (IntKind.i64.wrap (x9 - 1) - IntKind.i64.wrap ((IntKind.i64.wrap (IntKind.i64.wrap (IntKind.i64.wrap (IntKind.i64.wrap (0 - plane_extremes_0 x0 x1 x2 x3 x4 x5 x6 x7 x8 x9) - imax x0 (IntKind.i64.wrap (0 - x0))) - imax x1 (IntKind.i64.wrap (0 - x1))) - imax x2 (IntKind.i64.wrap (0 - x2)))).tdiv (IntKind.i64.wrap (0 - x2)))))), .int .i64 (x7), .int .i64 (x8), .int .i64 (x9)], .int .i64 (0)]))))
         (.leaf (some (.tuple #[.agg #[.int .i64 (x4), .int .i64 (x5), .int .i64 (x6), .int .i64 (x7), .int .i64 (x8), .int .i64 (x9)], .int .i64 (0)]))))))))))
theorem tree28_eq (x0 x1 x2 x3 x4 x5 x6 x7 x8 x9 : Int) : vals (evFnT Try.prog (tb Try.prog tab22) (tbT Try.prog tab22) ⟨[(20, 0), (44, 0), (60, 0), (71, 0), (77, 0), (89, 0)], [], []⟩ noLoops 300 28 #[.agg #[.int .i64 x0, .int .i64 x1, .int .i64 x2, .int .i64 x3], .agg #[.int .i64 x4, .int .i64 x5, .int .i64 x6, .int .i64 x7, .int .i64 x8, .int .i64 x9]] []) = tree28 x0 x1 x2 x3 x4 x5 x6 x7 x8 x9 := by kernel_rfl
theorem tree28_res (x0 x1 x2 x3 x4 x5 x6 x7 x8 x9 : Int) : (tree28 x0 x1 x2 x3 x4 x5 x6 x7 x8 x9).res = if plane_Hull_ok x0 x1 x2 x3 x4 x5 x6 x7 x8 x9 = true then some (.tuple #[.agg #[.int .i64 (plane_Hull_0 x0 x1 x2 x3 x4 x5 x6 x7 x8 x9), .int .i64 (plane_Hull_1 x0 x1 x2 x3 x4 x5 x6 x7 x8 x9), .int .i64 (plane_Hull_2 x0 x1 x2 x3 x4 x5 x6 x7 x8 x9), .int .i64 (plane_Hull_3 x0 x1 x2 x3 x4 x5 x6 x7 x8 x9), .int .i64 (plane_Hull_4 x0 x1 x2 x3 x4 x5 x6 x7 x8 x9), .int .i64 (plane_Hull_5 x0 x1 x2 x3 x4 x5 x6 x7 x8 x9)], .int .i64 (plane_Hull_6 x0 x1 x2 x3 x4 x5 x6 x7 x8 x9)]) else none := by
  unfold tree28 plane_Hull_ok plane_Hull_0 plane_Hull_1 plane_Hull_2 plane_Hull_3 plane_Hull_4 plane_Hull_5 plane_Hull_6
  simp only [Tr.res]
  generalize (plane_checkBoth_0 x0 x1 x2 x3 x4 x5 x6 x7 x8 x9 != 0) = b0
  generalize (Decidable.decide (IntKind.i64.wrap (IntKind.i64.wrap (IntKind.i64.wrap (IntKind.i64.wrap (0 - plane_extremes_0 x0 x1 x2 x3 x4 x5 x6 x7 x8 x9) - imax x0 (IntKind.i64.wrap (0 - x0))) - imax x1 (IntKind.i64.wrap (0 - x1))) - imax x2 (IntKind.i64.wrap (0 - x2))) < 0)) = b1
  generalize (Decidable.decide (x0 > 0)) = b2
  generalize (x0 == 0) = b3
  generalize (Decidable.decide (x1 > 0)) = b4
  generalize (x1 == 0) = b5
  generalize (Decidable.decide (x2 > 0)) = b6
  generalize (x2 == 0) = b7
  generalize (Decidable.decide (x2 < 0)) = b8
  generalize (IntKind.i64.wrap (0 - x2) == 0) = b9
  generalize (Decidable.decide (x1 < 0)) = b10
  generalize (IntKind.i64.wrap (0 - x1) == 0) = b11
  generalize (Decidable.decide (x0 < 0)) = b12
  generalize (IntKind.i64.wrap (0 - x0) == 0) = b13
  cases b0 with
  | true =>
   first | (simp only [if_true, Bool.false_eq_true, if_false]; done) | rfl
  | false =>
   cases b1 with
   | true =>
    first | (simp only [if_true, Bool.false_eq_true, if_false]; done) | rfl
   | false =>
    cases b2 with
    | true =>
     cases b3 with
     | true =>
      first | (simp only [if_true, Bool.false_eq_true, if_false]; done) | rfl
     | false =>
      cases b4 with
      | true =>
       cases b5 with
       | true =>
        first | (simp only [if_true, Bool.false_eq_true, if_false]; done) | rfl
       | false =>
        cases b6 with
        | true =>
         cases b7 with
         | true =>
          first | (simp only [if_true, Bool.false_eq_true, if_false]; done) | rfl
         | false =>
          first | (simp only [if_true, Bool.false_eq_true, if_false]; done) | rfl
        | false =>
         cases b8 with
         | true =>
          cases b9 with
          | true =>
           first | (simp only [if_true, Bool.false_eq_true, if_false]; done) | rfl
          | false =>
           first | (simp only [if_true, Bool.false_eq_true, if_false]; done) | rfl
         | false =>
          first | (simp only [if_true, Bool.false_eq_true, if_false]; done) | rfl
      | false =>
       cases b10 with
       | true =>
        cases b11 with
        | true =>
         first | (simp only [if_true, Bool.false_eq_true, if_false]; done) | rfl
        | false =>
         cases b6 with
         | true =>
          cases b7 with
          | true =>
           first | (simp only [if_true, Bool.false_eq_true, if_false]; done) | rfl
          | false =>
           first | (simp only [if_true, Bool.false_eq_true, if_false]; done) | rfl
         | false =>
          cases b8 with
          | true =>
           cases b9 with
           | true =>
            first | (simp only [if_true, Bool.false_eq_true, if_false]; done) | rfl
           | false =>
            first | (simp only [if_true, Bool.false_eq_true, if_false]; done) | rfl
          | false =>
           first | (simp only [if_true, Bool.false_eq_true, if_false]; done) | rfl
       | false =>
        cases b6 with
        | true =>
         cases b7 with
         | true =>
          first | (simp only [if_true, Bool.false_eq_true, if_false]; done) | rfl
         | false =>
          first | (simp only [if_true, Bool.false_eq_true, if_false]; done) | rfl
        | false =>
         cases b8 with
         | true =>
          cases b9 with
          | true =>
           first | (simp only [if_true, Bool.false_eq_true, if_false]; done) | rfl
          | false =>
           first | (simp only [if_true, Bool.false_eq_true, if_false]; done) | rfl
         | false =>
          first | (simp only [if_true, Bool.false_eq_true, if_false]; done) | rfl
    | false =>
     cases b12 with
     | true =>
      cases b13 with
      | true =>
       first | (simp only [if_true, Bool.false_eq_true, if_false]; done) | rfl
      | false =>
       cases b4 with
       | true =>
        cases b5 with
        | true =>
         first | (simp only [if_true, Bool.false_eq_true, if_false]; done) | rfl
        | false =>
         cases b6 with
         | true =>
          cases b7 with
          | true =>
           first | (simp only [if_true, Bool.false_eq_true, if_false]; done) | rfl
          | false =>
           first | (simp only [if_true, Bool.false_eq_true, if_false]; done) | rfl
         | false =>
          cases b8 with
          | true =>
           cases b9 with
           | true =>
            first | (simp only [if_true, Bool.false_eq_true, if_false]; done) | rfl
           | false =>
            first | (simp only [if_true, Bool.false_eq_true, if_false]; done) | rfl
          | false =>
           first | (simp only [if_true, Bool.false_eq_true, if_false]; done) | rfl
       | false =>
        cases b10 with
        | true =>
         cases b11 with
         | true =>
          first | (simp only [if_true, Bool.false_eq_true, if_false]; done) | rfl
         | false =>
          cases b6 with
          | true =>
           cases b7 with
           | true =>
            first | (simp only [if_true, Bool.false_eq_true, if_false]; done) | rfl
           | false =>
            first | (simp only [if_true, Bool.false_eq_true, if_false]; done) | rfl
          | false =>
           cases b8 with
           | true =>
            cases b9 with
            | true =>
             first | (simp only [if_true, Bool.false_eq_true, if_false]; done) | rfl
            | false =>
             first | (simp only [if_true, Bool.false_eq_true, if_false]; done) | rfl
           | false =>
            first | (simp only [if_true, Bool.false_eq_true, if_false]; done) | rfl
        | false =>
         cases b6 with
         | true =>
          cases b7 with
          | true =>
           first | (simp only [if_true, Bool.false_eq_true, if_false]; done) | rfl
          | false =>
           first | (simp only [if_true, Bool.false_eq_true, if_false]; done) | rfl
         | false =>
          cases b8 with
          | true =>
           cases b9 with
           | true =>
            first | (simp only [if_true, Bool.false_eq_true, if_false]; done) | rfl
           | false =>
            first | (simp only [if_true, Bool.false_eq_true, if_false]; done) | rfl
          | false =>
           first | (simp only [if_true, Bool.false_eq_true, if_false]; done) | rfl
     | false =>
      cases b4 with
      | true =>
       cases b5 with
       | true =>
        first | (simp only [if_true, Bool.false_eq_true, if_false]; done) | rfl
       | false =>
        cases b6 with
        | true =>
         cases b7 with
         | true =>
          first | (simp only [if_true, Bool.false_eq_true, if_false]; done) | rfl
         | false =>
          first | (simp only [if_true, Bool.false_eq_true, if_false]; done) | rfl
        | false =>
         cases b8 with
         | true =>
          cases b9 with
          | true =>
           first | (simp only [if_true, Bool.false_eq_true, if_false]; done) | rfl
          | false =>
           first | (simp only [if_true, Bool.false_eq_true, if_false]; done) | rfl
         | false =>
          first | (simp only [if_true, Bool.false_eq_true, if_false]; done) | rfl
      | false =>
       cases b10 with
       | true =>
        cases b11 with
        | true =>
         first | (simp only [if_true, Bool.false_eq_true, if_false]; done) | rfl
        | false =>
         cases b6 with
         | true =>
          cases b7 with
          | true =>
           first | (simp only [if_true, Bool.false_eq_true, if_false]; done) | rfl
          | false =>
           first | (simp only [if_true, Bool.false_eq_true, if_false]; done) | rfl
         | false =>
          cases b8 with
          | true =>
           cases b9 with
           | true =>
            first | (simp only [if_true, Bool.false_eq_true, if_false]; done) | rfl
           | false =>
            first | (simp only [if_true, Bool.false_eq_true, if_false]; done) | rfl
          | false =>
           first | (simp only [if_true, Bool.false_eq_true, if_false]; done) | rfl
       | false =>
        cases b6 with
        | true =>
         cases b7 with
         | true =>
          first | (simp only [if_true, Bool.false_eq_true, if_false]; done) | rfl
         | false =>
          first | (simp only [if_true, Bool.false_eq_true, if_false]; done) | rfl
        | false =>
         cases b8 with
         | true =>
          cases b9 with
          | true =>
           first | (simp only [if_true, Bool.false_eq_true, if_false]; done) | rfl
          | false =>
           first | (simp only [if_true, Bool.false_eq_true, if_false]; done) | rfl
         | false =>
          first | (simp only [if_true, Bool.false_eq_true, if_false]; done) | rfl
theorem tab23_ok : TabOk Try.prog tab23 := tab_cond mixed tab22_ok (by decide) fun args b v h hb => by
  unfold ans28 at h
  split at h
  · rename_i c0 c1 h0
    split at h
    · rename_i x0 x1 x2 x3 x4 x5 x6 x7 x8 x9 k1 k2
      injection h with h; injection h with h1 h2; subst h1 h2
      obtain rfl : c0 = #[.int .i64 x0, .int .i64 x1, .int .i64 x2, .int .i64 x3] := by rw [← Array.toArray_toList (xs := c0), k1]
      obtain rfl : c1 = #[.int .i64 x4, .int .i64 x5, .int .i64 x6, .int .i64 x7, .int .i64 x8, .int .i64 x9] := by rw [← Array.toArray_toList (xs := c1), k2]
      obtain rfl : args = #[.agg #[.int .i64 x0, .int .i64 x1, .int .i64 x2, .int .i64 x3], .agg #[.int .i64 x4, .int .i64 x5, .int .i64 x6, .int .i64 x7, .int .i64 x8, .int .i64 x9]] := by rw [← Array.toArray_toList (xs := args), h0]
      exact ⟨rfl, rfl, ⟨[(20, 0), (44, 0), (60, 0), (71, 0), (77, 0), (89, 0)], [], []⟩, 300, by rw [tree28_eq, tree28_res, if_pos hb]⟩
    · cases h
  · cases h

/- gangsaw/gangsawref07.least -/
def ref07_least_0 (x0 x1 x2 : Int) : Int :=
  if Decidable.decide (x0 > 0) then (IntKind.i64.wrap (x0 * IntKind.i64.wrap (x1 + 1))) else (IntKind.i64.wrap (x0 * IntKind.i64.wrap (x2 - 1)))
def ans49 : Ans := fun args => match args.toList with
  | [.int .i64 x0, .int .i64 x1, .int .i64 x2] => some (.int .i64 (ref07_least_0 x0 x1 x2))
  | _ => none
def tab24 : Tab := (49, .ans ans49) :: tab23
def tree49 (x0 x1 x2 : Int) : Tr Value :=
  .node 8 (Decidable.decide (x0 > 0))
  (.leaf (some (.int .i64 (IntKind.i64.wrap (x0 * IntKind.i64.wrap (x1 + 1))))))
  (.leaf (some (.int .i64 (IntKind.i64.wrap (x0 * IntKind.i64.wrap (x2 - 1))))))
theorem tree49_eq (x0 x1 x2 : Int) : vals (evFnT Try.prog (tb Try.prog tab23) (tbT Try.prog tab23) ⟨[(8, 0)], [], []⟩ noLoops 300 49 #[.int .i64 x0, .int .i64 x1, .int .i64 x2] []) = tree49 x0 x1 x2 := by kernel_rfl
theorem tree49_res (x0 x1 x2 : Int) : (tree49 x0 x1 x2).res = some (.int .i64 (ref07_least_0 x0 x1 x2)) := by
  unfold tree49 ref07_least_0
  simp only [Tr.res]
  generalize (Decidable.decide (x0 > 0)) = b0
  cases b0 with
  | true =>
   first | (simp only [if_true, Bool.false_eq_true, if_false]; done) | rfl
  | false =>
   first | (simp only [if_true, Bool.false_eq_true, if_false]; done) | rfl
theorem tab24_ok : TabOk Try.prog tab24 := tab_cons mixed tab23_ok (by decide) fun args v h => by
  unfold ans49 at h
  split at h
  · rename_i x0 x1 x2 h0
    injection h with h; subst h
    obtain rfl : args = #[.int .i64 x0, .int .i64 x1, .int .i64 x2] := by rw [← Array.toArray_toList (xs := args), h0]
    exact ⟨rfl, rfl, ⟨[(8, 0)], [], []⟩, 300, by rw [tree49_eq]; exact tree49_res _ _ _⟩
  · cases h

/- gangsaw/gangsawref07.floor -/
def ref07_floor_ok (_x0 x1 : Int) : Bool :=
  if x1 == 0 then (Bool.false) else if x1 == 0 then (Bool.false) else (Bool.true)
def ref07_floor_0 (x0 x1 : Int) : Int :=
  if Decidable.decide (x0.tmod x1 < 0) then (IntKind.i64.wrap (IntKind.i64.wrap (x0.tdiv x1) - 1)) else (IntKind.i64.wrap (x0.tdiv x1))
def ans46 : Array Value → Option (Bool × Value) := fun args => match args.toList with
  | [.int .i64 x0, .int .i64 x1] => some (ref07_floor_ok x0 x1, .int .i64 (ref07_floor_0 x0 x1))
  | _ => none
def tab25 : Tab := (46, .cond ans46) :: tab24
def tree46 (x0 x1 : Int) : Tr Value :=
  .node 8 (x1 == 0)
  (.leaf none)
  (.node 11 (x1 == 0)
   (.leaf none)
   (.node 12 (Decidable.decide (x0.tmod x1 < 0))
    (.leaf (some (.int .i64 (IntKind.i64.wrap (IntKind.i64.wrap (x0.tdiv x1) - 1)))))
    (.leaf (some (.int .i64 (IntKind.i64.wrap (x0.tdiv x1)))))))
theorem tree46_eq (x0 x1 : Int) : vals (evFnT Try.prog (tb Try.prog tab24) (tbT Try.prog tab24) ⟨[(8, 0), (11, 0), (12, 0)], [], []⟩ noLoops 300 46 #[.int .i64 x0, .int .i64 x1] []) = tree46 x0 x1 := by kernel_rfl
theorem tree46_res (x0 x1 : Int) : (tree46 x0 x1).res = if ref07_floor_ok x0 x1 = true then some (.int .i64 (ref07_floor_0 x0 x1)) else none := by
  unfold tree46 ref07_floor_ok ref07_floor_0
  simp only [Tr.res]
  generalize (x1 == 0) = b0
  generalize (Decidable.decide (x0.tmod x1 < 0)) = b1
  cases b0 with
  | true =>
   first | (simp only [if_true, Bool.false_eq_true, if_false]; done) | rfl
  | false =>
   cases b1 with
   | true =>
    first | (simp only [if_true, Bool.false_eq_true, if_false]; done) | rfl
   | false =>
    first | (simp only [if_true, Bool.false_eq_true, if_false]; done) | rfl
theorem tab25_ok : TabOk Try.prog tab25 := tab_cond mixed tab24_ok (by decide) fun args b v h hb => by
  unfold ans46 at h
  split at h
  · rename_i x0 x1 h0
    injection h with h; injection h with h1 h2; subst h1 h2
    obtain rfl : args = #[.int .i64 x0, .int .i64 x1] := by rw [← Array.toArray_toList (xs := args), h0]
    exact ⟨rfl, rfl, ⟨[(8, 0), (11, 0), (12, 0)], [], []⟩, 300, by rw [tree46_eq, tree46_res, if_pos hb]⟩
  · cases h

/- gangsaw/gangsawref07.span -/
def ref07_span_ok (x0 _x1 _x2 x3 : Int) : Bool :=
  if x0 == 0 then (Bool.true) else if Decidable.decide (x0 > 0) then (if ref07_floor_ok x3 x0 then (Bool.true) else (Bool.false)) else if ref07_floor_ok x3 (IntKind.i64.wrap (0 - x0)) then (Bool.true) else (Bool.false)
def ref07_span_0 (x0 x1 x2 x3 : Int) : Int :=
  if x0 == 0 then (x1) else if Decidable.decide (x0 > 0) then (x1) else (imin x2 (imax x1 (IntKind.i64.wrap (0 - ref07_floor_0 x3 (IntKind.i64.wrap (0 - x0))))))
def ref07_span_1 (x0 x1 x2 x3 : Int) : Int :=
  if x0 == 0 then (x2) else if Decidable.decide (x0 > 0) then (imax x1 (imin x2 (ref07_floor_0 x3 x0))) else (x2)
def ans50 : Array Value → Option (Bool × Value) := fun args => match args.toList with
  | [.int .i64 x0, .int .i64 x1, .int .i64 x2, .int .i64 x3] => some (ref07_span_ok x0 x1 x2 x3, .tuple #[.int .i64 (ref07_span_0 x0 x1 x2 x3), .int .i64 (ref07_span_1 x0 x1 x2 x3)])
  | _ => none
def tab26 : Tab := (50, .cond ans50) :: tab25
def tree50 (x0 x1 x2 x3 : Int) : Tr Value :=
  .node 11 (x0 == 0)
  (.leaf (some (.tuple #[.int .i64 (x1), .int .i64 (x2)])))
  (.node 15 (Decidable.decide (x0 > 0))
   (.node 0 (ref07_floor_ok x3 x0)
    (.leaf (some (.tuple #[.int .i64 (x1), .int .i64 (imax x1 (imin x2 (ref07_floor_0 x3 x0)))])))
    (.leaf none))
   (.node 0 (ref07_floor_ok x3 (IntKind.i64.wrap (0 - x0)))
    (.leaf (some (.tuple #[.int .i64 (imin x2 (imax x1 (IntKind.i64.wrap (0 - ref07_floor_0 x3 (IntKind.i64.wrap (0 - x0)))))), .int .i64 (x2)])))
    (.leaf none)))
theorem tree50_eq (x0 x1 x2 x3 : Int) : vals (evFnT Try.prog (tb Try.prog tab25) (tbT Try.prog tab25) ⟨[(11, 0), (15, 0)], [], []⟩ noLoops 300 50 #[.int .i64 x0, .int .i64 x1, .int .i64 x2, .int .i64 x3] []) = tree50 x0 x1 x2 x3 := by kernel_rfl
theorem tree50_res (x0 x1 x2 x3 : Int) : (tree50 x0 x1 x2 x3).res = if ref07_span_ok x0 x1 x2 x3 = true then some (.tuple #[.int .i64 (ref07_span_0 x0 x1 x2 x3), .int .i64 (ref07_span_1 x0 x1 x2 x3)]) else none := by
  unfold tree50 ref07_span_ok ref07_span_0 ref07_span_1
  simp only [Tr.res]
  generalize (x0 == 0) = b0
  generalize (Decidable.decide (x0 > 0)) = b1
  generalize (ref07_floor_ok x3 x0) = b2
  generalize (ref07_floor_ok x3 (IntKind.i64.wrap (0 - x0))) = b3
  cases b0 with
  | true =>
   first | (simp only [if_true, Bool.false_eq_true, if_false]; done) | rfl
  | false =>
   cases b1 with
   | true =>
    cases b2 with
    | true =>
     first | (simp only [if_true, Bool.false_eq_true, if_false]; done) | rfl
    | false =>
     first | (simp only [if_true, Bool.false_eq_true, if_false]; done) | rfl
   | false =>
    cases b3 with
    | true =>
     first | (simp only [if_true, Bool.false_eq_true, if_false]; done) | rfl
    | false =>
     first | (simp only [if_true, Bool.false_eq_true, if_false]; done) | rfl
theorem tab26_ok : TabOk Try.prog tab26 := tab_cond mixed tab25_ok (by decide) fun args b v h hb => by
  unfold ans50 at h
  split at h
  · rename_i x0 x1 x2 x3 h0
    injection h with h; injection h with h1 h2; subst h1 h2
    obtain rfl : args = #[.int .i64 x0, .int .i64 x1, .int .i64 x2, .int .i64 x3] := by rw [← Array.toArray_toList (xs := args), h0]
    exact ⟨rfl, rfl, ⟨[(11, 0), (15, 0)], [], []⟩, 300, by rw [tree50_eq, tree50_res, if_pos hb]⟩
  · cases h

/- gangsaw/gangsawref07.Hull -/
def ref07_Hull_ok (x0 x1 x2 x3 x4 x5 x6 x7 x8 x9 : Int) : Bool :=
  if Decidable.decide (IntKind.i64.wrap (IntKind.i64.wrap (ref07_least_0 x0 x4 x7 + ref07_least_0 x1 x5 x8) + ref07_least_0 x2 x6 x9) > x3) then (Bool.true) else if ref07_span_ok x0 x4 x7 (IntKind.i64.wrap (IntKind.i64.wrap (x3 - ref07_least_0 x1 x5 x8) - ref07_least_0 x2 x6 x9)) then (if ref07_span_ok x1 x5 x8 (IntKind.i64.wrap (IntKind.i64.wrap (x3 - ref07_least_0 x0 x4 x7) - ref07_least_0 x2 x6 x9)) then (if ref07_span_ok x2 x6 x9 (IntKind.i64.wrap (IntKind.i64.wrap (x3 - ref07_least_0 x0 x4 x7) - ref07_least_0 x1 x5 x8)) then (Bool.true) else (Bool.false)) else (Bool.false)) else (Bool.false)
def ref07_Hull_0 (x0 x1 x2 x3 x4 x5 x6 x7 x8 x9 : Int) : Int :=
  if Decidable.decide (IntKind.i64.wrap (IntKind.i64.wrap (ref07_least_0 x0 x4 x7 + ref07_least_0 x1 x5 x8) + ref07_least_0 x2 x6 x9) > x3) then (0) else (ref07_span_0 x0 x4 x7 (IntKind.i64.wrap (IntKind.i64.wrap (x3 - ref07_least_0 x1 x5 x8) - ref07_least_0 x2 x6 x9)))
def ref07_Hull_1 (x0 x1 x2 x3 x4 x5 x6 x7 x8 x9 : Int) : Int :=
  if Decidable.decide (IntKind.i64.wrap (IntKind.i64.wrap (ref07_least_0 x0 x4 x7 + ref07_least_0 x1 x5 x8) + ref07_least_0 x2 x6 x9) > x3) then (0) else (ref07_span_0 x1 x5 x8 (IntKind.i64.wrap (IntKind.i64.wrap (x3 - ref07_least_0 x0 x4 x7) - ref07_least_0 x2 x6 x9)))
def ref07_Hull_2 (x0 x1 x2 x3 x4 x5 x6 x7 x8 x9 : Int) : Int :=
  if Decidable.decide (IntKind.i64.wrap (IntKind.i64.wrap (ref07_least_0 x0 x4 x7 + ref07_least_0 x1 x5 x8) + ref07_least_0 x2 x6 x9) > x3) then (0) else (ref07_span_0 x2 x6 x9 (IntKind.i64.wrap (IntKind.i64.wrap (x3 - ref07_least_0 x0 x4 x7) - ref07_least_0 x1 x5 x8)))
def ref07_Hull_3 (x0 x1 x2 x3 x4 x5 x6 x7 x8 x9 : Int) : Int :=
  if Decidable.decide (IntKind.i64.wrap (IntKind.i64.wrap (ref07_least_0 x0 x4 x7 + ref07_least_0 x1 x5 x8) + ref07_least_0 x2 x6 x9) > x3) then (0) else (ref07_span_1 x0 x4 x7 (IntKind.i64.wrap (IntKind.i64.wrap (x3 - ref07_least_0 x1 x5 x8) - ref07_least_0 x2 x6 x9)))
def ref07_Hull_4 (x0 x1 x2 x3 x4 x5 x6 x7 x8 x9 : Int) : Int :=
  if Decidable.decide (IntKind.i64.wrap (IntKind.i64.wrap (ref07_least_0 x0 x4 x7 + ref07_least_0 x1 x5 x8) + ref07_least_0 x2 x6 x9) > x3) then (0) else (ref07_span_1 x1 x5 x8 (IntKind.i64.wrap (IntKind.i64.wrap (x3 - ref07_least_0 x0 x4 x7) - ref07_least_0 x2 x6 x9)))
def ref07_Hull_5 (x0 x1 x2 x3 x4 x5 x6 x7 x8 x9 : Int) : Int :=
  if Decidable.decide (IntKind.i64.wrap (IntKind.i64.wrap (ref07_least_0 x0 x4 x7 + ref07_least_0 x1 x5 x8) + ref07_least_0 x2 x6 x9) > x3) then (0) else (ref07_span_1 x2 x6 x9 (IntKind.i64.wrap (IntKind.i64.wrap (x3 - ref07_least_0 x0 x4 x7) - ref07_least_0 x1 x5 x8)))
def ref07_Hull_6 (x0 x1 x2 x3 x4 x5 x6 x7 x8 x9 : Int) : Bool :=
  if Decidable.decide (IntKind.i64.wrap (IntKind.i64.wrap (ref07_least_0 x0 x4 x7 + ref07_least_0 x1 x5 x8) + ref07_least_0 x2 x6 x9) > x3) then (Bool.false) else (Bool.true)
def ans29 : Array Value → Option (Bool × Value) := fun args => match args.toList with
  | [.agg c0, .agg c1] => match c0.toList, c1.toList with
    | [.int .i64 x0, .int .i64 x1, .int .i64 x2, .int .i64 x3], [.int .i64 x4, .int .i64 x5, .int .i64 x6, .int .i64 x7, .int .i64 x8, .int .i64 x9] => some (ref07_Hull_ok x0 x1 x2 x3 x4 x5 x6 x7 x8 x9, .tuple #[.agg #[.int .i64 (ref07_Hull_0 x0 x1 x2 x3 x4 x5 x6 x7 x8 x9), .int .i64 (ref07_Hull_1 x0 x1 x2 x3 x4 x5 x6 x7 x8 x9), .int .i64 (ref07_Hull_2 x0 x1 x2 x3 x4 x5 x6 x7 x8 x9), .int .i64 (ref07_Hull_3 x0 x1 x2 x3 x4 x5 x6 x7 x8 x9), .int .i64 (ref07_Hull_4 x0 x1 x2 x3 x4 x5 x6 x7 x8 x9), .int .i64 (ref07_Hull_5 x0 x1 x2 x3 x4 x5 x6 x7 x8 x9)], .bool (ref07_Hull_6 x0 x1 x2 x3 x4 x5 x6 x7 x8 x9)])
    | _, _ => none
  | _ => none
def tab27 : Tab := (29, .cond ans29) :: tab26
def tree29 (x0 x1 x2 x3 x4 x5 x6 x7 x8 x9 : Int) : Tr Value :=
  .node 44 (Decidable.decide (IntKind.i64.wrap (IntKind.i64.wrap (ref07_least_0 x0 x4 x7 + ref07_least_0 x1 x5 x8) + ref07_least_0 x2 x6 x9) > x3))
  (.leaf (some (.tuple #[.agg #[.int .i64 (0), .int .i64 (0), .int .i64 (0), .int .i64 (0), .int .i64 (0), .int .i64 (0)], .bool (Bool.false)])))
  (.node 0 (ref07_span_ok x0 x4 x7 (IntKind.i64.wrap (IntKind.i64.wrap (x3 - ref07_least_0 x1 x5 x8) - ref07_least_0 x2 x6 x9)))
   (.node 0 (ref07_span_ok x1 x5 x8 (IntKind.i64.wrap (IntKind.i64.wrap (x3 - ref07_least_0 x0 x4 x7) - ref07_least_0 x2 x6 x9)))
    (.node 0 (ref07_span_ok x2 x6 x9 (IntKind.i64.wrap (IntKind.i64.wrap (x3 - ref07_least_0 x0 x4 x7) - ref07_least_0 x1 x5 x8)))
     (.leaf (some (.tuple #[.agg #[.int .i64 (ref07_span_0 x0 x4 x7 (IntKind.i64.wrap (IntKind.i64.wrap (x3 - ref07_least_0 x1 x5 x8) - ref07_least_0 x2 x6 x9))), .int .i64 (ref07_span_0 x1 x5 x8 (IntKind.i64.wrap (IntKind.i64.wrap (x3 - ref07_least_0 x0 x4 x7) - ref07_least_0 x2 x6 x9))), .int .i64 (ref07_span_0 x2 x6 x9 (IntKind.i64.wrap (IntKind.i64.wrap (x3 - ref07_least_0 x0 x4 x7) - ref07_least_0 x1 x5 x8))), .int .i64 (ref07_span_1 x0 x4 x7 (IntKind.i64.wrap (IntKind.i64.wrap (x3 - ref07_least_0 x1 x5 x8) - ref07_least_0 x2 x6 x9))), .int .i64 (ref07_span_1 x1 x5 x8 (IntKind.i64.wrap (IntKind.i64.wrap (x3 - ref07_least_0 x0 x4 x7) - ref07_least_0 x2 x6 x9))), .int .i64 (ref07_span_1 x2 x6 x9 (IntKind.i64.wrap (IntKind.i64.wrap (x3 - ref07_least_0 x0 x4 x7) - ref07_least_0 x1 x5 x8)))], .bool (Bool.true)])))
     (.leaf none))
    (.leaf none))
   (.leaf none))
theorem tree29_eq (x0 x1 x2 x3 x4 x5 x6 x7 x8 x9 : Int) : vals (evFnT Try.prog (tb Try.prog tab26) (tbT Try.prog tab26) ⟨[(44, 0)], [], []⟩ noLoops 300 29 #[.agg #[.int .i64 x0, .int .i64 x1, .int .i64 x2, .int .i64 x3], .agg #[.int .i64 x4, .int .i64 x5, .int .i64 x6, .int .i64 x7, .int .i64 x8, .int .i64 x9]] []) = tree29 x0 x1 x2 x3 x4 x5 x6 x7 x8 x9 := by kernel_rfl
theorem tree29_res (x0 x1 x2 x3 x4 x5 x6 x7 x8 x9 : Int) : (tree29 x0 x1 x2 x3 x4 x5 x6 x7 x8 x9).res = if ref07_Hull_ok x0 x1 x2 x3 x4 x5 x6 x7 x8 x9 = true then some (.tuple #[.agg #[.int .i64 (ref07_Hull_0 x0 x1 x2 x3 x4 x5 x6 x7 x8 x9), .int .i64 (ref07_Hull_1 x0 x1 x2 x3 x4 x5 x6 x7 x8 x9), .int .i64 (ref07_Hull_2 x0 x1 x2 x3 x4 x5 x6 x7 x8 x9), .int .i64 (ref07_Hull_3 x0 x1 x2 x3 x4 x5 x6 x7 x8 x9), .int .i64 (ref07_Hull_4 x0 x1 x2 x3 x4 x5 x6 x7 x8 x9), .int .i64 (ref07_Hull_5 x0 x1 x2 x3 x4 x5 x6 x7 x8 x9)], .bool (ref07_Hull_6 x0 x1 x2 x3 x4 x5 x6 x7 x8 x9)]) else none := by
  unfold tree29 ref07_Hull_ok ref07_Hull_0 ref07_Hull_1 ref07_Hull_2 ref07_Hull_3 ref07_Hull_4 ref07_Hull_5 ref07_Hull_6
  simp only [Tr.res]
  generalize (Decidable.decide (IntKind.i64.wrap (IntKind.i64.wrap (ref07_least_0 x0 x4 x7 + ref07_least_0 x1 x5 x8) + ref07_least_0 x2 x6 x9) > x3)) = b0
  generalize (ref07_span_ok x0 x4 x7 (IntKind.i64.wrap (IntKind.i64.wrap (x3 - ref07_least_0 x1 x5 x8) - ref07_least_0 x2 x6 x9))) = b1
  generalize (ref07_span_ok x1 x5 x8 (IntKind.i64.wrap (IntKind.i64.wrap (x3 - ref07_least_0 x0 x4 x7) - ref07_least_0 x2 x6 x9))) = b2
  generalize (ref07_span_ok x2 x6 x9 (IntKind.i64.wrap (IntKind.i64.wrap (x3 - ref07_least_0 x0 x4 x7) - ref07_least_0 x1 x5 x8))) = b3
  cases b0 with
  | true =>
   first | (simp only [if_true, Bool.false_eq_true, if_false]; done) | rfl
  | false =>
   cases b1 with
   | true =>
    cases b2 with
    | true =>
     cases b3 with
     | true =>
      first | (simp only [if_true, Bool.false_eq_true, if_false]; done) | rfl
     | false =>
      first | (simp only [if_true, Bool.false_eq_true, if_false]; done) | rfl
    | false =>
     first | (simp only [if_true, Bool.false_eq_true, if_false]; done) | rfl
   | false =>
    first | (simp only [if_true, Bool.false_eq_true, if_false]; done) | rfl
theorem tab27_ok : TabOk Try.prog tab27 := tab_cond mixed tab26_ok (by decide) fun args b v h hb => by
  unfold ans29 at h
  split at h
  · rename_i c0 c1 h0
    split at h
    · rename_i x0 x1 x2 x3 x4 x5 x6 x7 x8 x9 k1 k2
      injection h with h; injection h with h1 h2; subst h1 h2
      obtain rfl : c0 = #[.int .i64 x0, .int .i64 x1, .int .i64 x2, .int .i64 x3] := by rw [← Array.toArray_toList (xs := c0), k1]
      obtain rfl : c1 = #[.int .i64 x4, .int .i64 x5, .int .i64 x6, .int .i64 x7, .int .i64 x8, .int .i64 x9] := by rw [← Array.toArray_toList (xs := c1), k2]
      obtain rfl : args = #[.agg #[.int .i64 x0, .int .i64 x1, .int .i64 x2, .int .i64 x3], .agg #[.int .i64 x4, .int .i64 x5, .int .i64 x6, .int .i64 x7, .int .i64 x8, .int .i64 x9]] := by rw [← Array.toArray_toList (xs := args), h0]
      exact ⟨rfl, rfl, ⟨[(44, 0)], [], []⟩, 300, by rw [tree29_eq, tree29_res, if_pos hb]⟩
    · cases h
  · cases h

/- gangsaw/plane.Depth -/
def plane_Depth_ok (x0 x1 x2 x3 x4 x5 x6 x7 x8 x9 x10 x11 : Int) : Bool :=
  if plane_checkBoth_0 x0 x1 x2 x3 x4 x5 x6 x7 x8 x9 != 0 then (Bool.true) else if Decidable.decide (x10 < 0) then (Bool.true) else if Decidable.decide (x10 > 5) then (Bool.true) else if Decidable.decide (x11 < 0) then (Bool.true) else if Decidable.decide (x11 > 1000000) then (Bool.true) else if Decidable.decide (plane_extremes_1 x0 x1 x2 x3 x4 x5 x6 x7 x8 x9 > 0) then (Bool.true) else if IntKind.i64.wrap (x10.tdiv 2) == ↑0 then (if x10.tmod 2 == 1 then (if Decidable.decide (IntKind.i64.wrap (0 - x0) ≤ 0) then (Bool.true) else if IntKind.i64.wrap (0 - x0) == 0 then (Bool.false) else (Bool.true)) else if Decidable.decide (x0 ≤ 0) then (Bool.true) else if x0 == 0 then (Bool.false) else (Bool.true)) else if IntKind.i64.wrap (x10.tdiv 2) == ↑(0 + 1) then (if x10.tmod 2 == 1 then (if Decidable.decide (IntKind.i64.wrap (0 - x1) ≤ 0) then (Bool.true) else if IntKind.i64.wrap (0 - x1) == 0 then (Bool.false) else (Bool.true)) else if Decidable.decide (x1 ≤ 0) then (Bool.true) else if x1 == 0 then (Bool.false) else (Bool.true)) else if IntKind.i64.wrap (x10.tdiv 2) == ↑(0 + 1 + 1) then (if x10.tmod 2 == 1 then (if Decidable.decide (IntKind.i64.wrap (0 - x2) ≤ 0) then (Bool.true) else if IntKind.i64.wrap (0 - x2) == 0 then (Bool.false) else (Bool.true)) else if Decidable.decide (x2 ≤ 0) then (Bool.true) else if x2 == 0 then (Bool.false) else (Bool.true)) else (Bool.false)
def plane_Depth_0 (x0 x1 x2 x3 x4 x5 x6 x7 x8 x9 x10 x11 : Int) : Int :=
  if plane_checkBoth_0 x0 x1 x2 x3 x4 x5 x6 x7 x8 x9 != 0 then (0) else if Decidable.decide (x10 < 0) then (0) else if Decidable.decide (x10 > 5) then (0) else if Decidable.decide (x11 < 0) then (0) else if Decidable.decide (x11 > 1000000) then (0) else if Decidable.decide (plane_extremes_1 x0 x1 x2 x3 x4 x5 x6 x7 x8 x9 > 0) then (0) else if IntKind.i64.wrap (x10.tdiv 2) == ↑0 then (if x10.tmod 2 == 1 then (if Decidable.decide (IntKind.i64.wrap (0 - x0) ≤ 0) then (x11) else (imin x11 (IntKind.i64.wrap ((IntKind.i64.wrap (0 - plane_extremes_1 x0 x1 x2 x3 x4 x5 x6 x7 x8 x9)).tdiv (IntKind.i64.wrap (0 - x0)))))) else if Decidable.decide (x0 ≤ 0) then (x11) else (imin x11 (IntKind.i64.wrap ((IntKind.i64.wrap (0 - plane_extremes_1 x0 x1 x2 x3 x4 x5 x6 x7 x8 x9)).tdiv x0)))) else if IntKind.i64.wrap (x10.tdiv 2) == ↑(0 + 1) then (if x10.tmod 2 == 1 then (if Decidable.decide (IntKind.i64.wrap (0 - x1) ≤ 0) then (x11) else (imin x11 (IntKind.i64.wrap ((IntKind.i64.wrap (0 - plane_extremes_1 x0 x1 x2 x3 x4 x5 x6 x7 x8 x9)).tdiv (IntKind.i64.wrap (0 - x1)))))) else if Decidable.decide (x1 ≤ 0) then (x11) else (imin x11 (IntKind.i64.wrap ((IntKind.i64.wrap (0 - plane_extremes_1 x0 x1 x2 x3 x4 x5 x6 x7 x8 x9)).tdiv x1)))) else if x10.tmod 2 == 1 then (if Decidable.decide (IntKind.i64.wrap (0 - x2) ≤ 0) then (x11) else (imin x11 (IntKind.i64.wrap ((IntKind.i64.wrap (0 - plane_extremes_1 x0 x1 x2 x3 x4 x5 x6 x7 x8 x9)).tdiv (IntKind.i64.wrap (0 - x2)))))) else if Decidable.decide (x2 ≤ 0) then (x11) else (imin x11 (IntKind.i64.wrap ((IntKind.i64.wrap (0 - plane_extremes_1 x0 x1 x2 x3 x4 x5 x6 x7 x8 x9)).tdiv x2)))
def plane_Depth_1 (x0 x1 x2 x3 x4 x5 x6 x7 x8 x9 x10 x11 : Int) : Int :=
  if plane_checkBoth_0 x0 x1 x2 x3 x4 x5 x6 x7 x8 x9 != 0 then (plane_checkBoth_0 x0 x1 x2 x3 x4 x5 x6 x7 x8 x9) else if Decidable.decide (x10 < 0) then (6) else if Decidable.decide (x10 > 5) then (6) else if Decidable.decide (x11 < 0) then (6) else if Decidable.decide (x11 > 1000000) then (6) else if Decidable.decide (plane_extremes_1 x0 x1 x2 x3 x4 x5 x6 x7 x8 x9 > 0) then (8) else (0)
def ans30 : Array Value → Option (Bool × Value) := fun args => match args.toList with
  | [.agg c0, .agg c1, .int .i64 x10, .int .i64 x11] => match c0.toList, c1.toList with
    | [.int .i64 x0, .int .i64 x1, .int .i64 x2, .int .i64 x3], [.int .i64 x4, .int .i64 x5, .int .i64 x6, .int .i64 x7, .int .i64 x8, .int .i64 x9] => some (plane_Depth_ok x0 x1 x2 x3 x4 x5 x6 x7 x8 x9 x10 x11, .tuple #[.int .i64 (plane_Depth_0 x0 x1 x2 x3 x4 x5 x6 x7 x8 x9 x10 x11), .int .i64 (plane_Depth_1 x0 x1 x2 x3 x4 x5 x6 x7 x8 x9 x10 x11)])
    | _, _ => none
  | _ => none
def tab28 : Tab := (30, .cond ans30) :: tab27
def tree30 (x0 x1 x2 x3 x4 x5 x6 x7 x8 x9 x10 x11 : Int) : Tr Value :=
  .node 18 (plane_checkBoth_0 x0 x1 x2 x3 x4 x5 x6 x7 x8 x9 != 0)
  (.leaf (some (.tuple #[.int .i64 (0), .int .i64 (plane_checkBoth_0 x0 x1 x2 x3 x4 x5 x6 x7 x8 x9)])))
  (.node 21 (Decidable.decide (x10 < 0))
   (.leaf (some (.tuple #[.int .i64 (0), .int .i64 (6)])))
   (.node 24 (Decidable.decide (x10 > 5))
    (.leaf (some (.tuple #[.int .i64 (0), .int .i64 (6)])))
    (.node 28 (Decidable.decide (x11 < 0))
     (.leaf (some (.tuple #[.int .i64 (0), .int .i64 (6)])))
     (.node 32 (Decidable.decide (x11 > 1000000))
      (.leaf (some (.tuple #[.int .i64 (0), .int .i64 (6)])))
      (.node 41 (Decidable.decide (plane_extremes_1 x0 x1 x2 x3 x4 x5 x6 x7 x8 x9 > 0))
       (.leaf (some (.tuple #[.int .i64 (0), .int .i64 (8)])))
       (.node 45 (false)
        (.leaf none)
        (.node 45 (IntKind.i64.wrap (x10.tdiv 2) == ↑0)
         (.node 49 (x10.tmod 2 == 1)
          (.node 53 (Decidable.decide (IntKind.i64.wrap (0 - x0) ≤ 0))
           (.leaf (some (.tuple #[.int .i64 (x11), .int .i64 (0)])))
           (.node 59 (IntKind.i64.wrap (0 - x0) == 0)
            (.leaf none)
            (.leaf (some (.tuple #[.int .i64 (imin x11 (IntKind.i64.wrap ((IntKind.i64.wrap (0 - plane_extremes_1 x0 x1 x2 x3 x4 x5 x6 x7 x8 x9)).tdiv (IntKind.i64.wrap (0 - x0))))), .int .i64 (0)])))))
          (.node 53 (Decidable.decide (x0 ≤ 0))
           (.leaf (some (.tuple #[.int .i64 (x11), .int .i64 (0)])))
           (.node 59 (x0 == 0)
            (.leaf none)
            (.leaf (some (.tuple #[.int .i64 (imin x11 (IntKind.i64.wrap ((IntKind.i64.wrap (0 - plane_extremes_1 x0 x1 x2 x3 x4 x5 x6 x7 x8 x9)).tdiv x0))), .int .i64 (0)]))))))
         (.node 45 (IntKind.i64.wrap (x10.tdiv 2) == ↑(0 + 1))
          (.node 49 (x10.tmod 2 == 1)
           (.node 53 (Decidable.decide (IntKind.i64.wrap (0 - x1) ≤ 0))
            (.leaf (some (.tuple #[.int .i64 (x11), .int .i64 (0)])))
            (.node 59 (IntKind.i64.wrap (0 - x1) == 0)
             (.leaf none)
             (.leaf (some (.tuple #[.int .i64 (imin x11 (IntKind.i64.wrap ((IntKind.i64.wrap (0 - plane_extremes_1 x0 x1 x2 x3 x4 x5 x6 x7 x8 x9)).tdiv (IntKind.i64.wrap (0 - x1))))), .int .i64 (0)])))))
           (.node 53 (Decidable.decide (x1 ≤ 0))
            (.leaf (some (.tuple #[.int .i64 (x11), .int .i64 (0)])))
            (.node 59 (x1 == 0)
             (.leaf none)
             (.leaf (some (.tuple #[.int .i64 (imin x11 (IntKind.i64.wrap ((IntKind.i64.wrap (0 - plane_extremes_1 x0 x1 x2 x3 x4 x5 x6 x7 x8 x9)).tdiv x1))), .int .i64 (0)]))))))
          (.node 45 (IntKind.i64.wrap (x10.tdiv 2) == ↑(0 + 1 + 1))
           (.node 49 (x10.tmod 2 == 1)
            (.node 53 (Decidable.decide (IntKind.i64.wrap (0 - x2) ≤ 0))
             (.leaf (some (.tuple #[.int .i64 (x11), .int .i64 (0)])))
             (.node 59 (IntKind.i64.wrap (0 - x2) == 0)
              (.leaf none)
              (.leaf (some (.tuple #[.int .i64 (imin x11 (IntKind.i64.wrap ((IntKind.i64.wrap (0 - plane_extremes_1 x0 x1 x2 x3 x4 x5 x6 x7 x8 x9)).tdiv (IntKind.i64.wrap (0 - x2))))), .int .i64 (0)])))))
            (.node 53 (Decidable.decide (x2 ≤ 0))
             (.leaf (some (.tuple #[.int .i64 (x11), .int .i64 (0)])))
             (.node 59 (x2 == 0)
              (.leaf none)
              (.leaf (some (.tuple #[.int .i64 (imin x11 (IntKind.i64.wrap ((IntKind.i64.wrap (0 - plane_extremes_1 x0 x1 x2 x3 x4 x5 x6 x7 x8 x9)).tdiv x2))), .int .i64 (0)]))))))
           (.leaf none))))))))))
theorem tree30_eq (x0 x1 x2 x3 x4 x5 x6 x7 x8 x9 x10 x11 : Int) : vals (evFnT Try.prog (tb Try.prog tab27) (tbT Try.prog tab27) ⟨[(18, 0), (21, 0), (24, 0), (28, 0), (32, 0), (41, 0), (49, 0), (53, 0), (59, 0), (45, 3)], [], []⟩ noLoops 300 30 #[.agg #[.int .i64 x0, .int .i64 x1, .int .i64 x2, .int .i64 x3], .agg #[.int .i64 x4, .int .i64 x5, .int .i64 x6, .int .i64 x7, .int .i64 x8, .int .i64 x9], .int .i64 x10, .int .i64 x11] []) = tree30 x0 x1 x2 x3 x4 x5 x6 x7 x8 x9 x10 x11 := by kernel_rfl
theorem tree30_res (x0 x1 x2 x3 x4 x5 x6 x7 x8 x9 x10 x11 : Int) : (tree30 x0 x1 x2 x3 x4 x5 x6 x7 x8 x9 x10 x11).res = if plane_Depth_ok x0 x1 x2 x3 x4 x5 x6 x7 x8 x9 x10 x11 = true then some (.tuple #[.int .i64 (plane_Depth_0 x0 x1 x2 x3 x4 x5 x6 x7 x8 x9 x10 x11), .int .i64 (plane_Depth_1 x0 x1 x2 x3 x4 x5 x6 x7 x8 x9 x10 x11)]) else none := by
  unfold tree30 plane_Depth_ok plane_Depth_0 plane_Depth_1
  simp only [Tr.res]
  generalize (plane_checkBoth_0 x0 x1 x2 x3 x4 x5 x6 x7 x8 x9 != 0) = b0
  generalize (Decidable.decide (x10 < 0)) = b1
  generalize (Decidable.decide (x10 > 5)) = b2
  generalize (Decidable.decide (x11 < 0)) = b3
  generalize (Decidable.decide (x11 > 1000000)) = b4
  generalize (Decidable.decide (plane_extremes_1 x0 x1 x2 x3 x4 x5 x6 x7 x8 x9 > 0)) = b5
  generalize (IntKind.i64.wrap (x10.tdiv 2) == ↑0) = b6
  generalize (x10.tmod 2 == 1) = b7
  generalize (Decidable.decide (IntKind.i64.wrap (0 - x0) ≤ 0)) = b8
  generalize (IntKind.i64.wrap (0 - x0) == 0) = b9
  generalize (Decidable.decide (x0 ≤ 0)) = b10
  generalize (x0 == 0) = b11
  generalize (IntKind.i64.wrap (x10.tdiv 2) == ↑(0 + 1)) = b12
  generalize (Decidable.decide (IntKind.i64.wrap (0 - x1) ≤ 0)) = b13
  generalize (IntKind.i64.wrap (0 - x1) == 0) = b14
  generalize (Decidable.decide (x1 ≤ 0)) = b15
  generalize (x1 == 0) = b16
  generalize (IntKind.i64.wrap (x10.tdiv 2) == ↑(0 + 1 + 1)) = b17
  generalize (Decidable.decide (IntKind.i64.wrap (0 - x2) ≤ 0)) = b18
  generalize (IntKind.i64.wrap (0 - x2) == 0) = b19
  generalize (Decidable.decide (x2 ≤ 0)) = b20
  generalize (x2 == 0) = b21
  cases b0 with
  | true =>
   first | (simp only [if_true, Bool.false_eq_true, if_false]; done) | rfl
  | false =>
   cases b1 with
   | true =>
    first | (simp only [if_true, Bool.false_eq_true, if_false]; done) | rfl
   | false =>
    cases b2 with
    | true =>
     first | (simp only [if_true, Bool.false_eq_true, if_false]; done) | rfl
    | false =>
     cases b3 with
     | true =>
      first | (simp only [if_true, Bool.false_eq_true, if_false]; done) | rfl
     | false =>
      cases b4 with
      | true =>
       first | (simp only [if_true, Bool.false_eq_true, if_false]; done) | rfl
      | false =>
       cases b5 with
       | true =>
        first | (simp only [if_true, Bool.false_eq_true, if_false]; done) | rfl
       | false =>
        cases b6 with
        | true =>
         cases b7 with
         | true =>
          cases b8 with
          | true =>
           first | (simp only [if_true, Bool.false_eq_true, if_false]; done) | rfl
          | false =>
           cases b9 with
           | true =>
            first | (simp only [if_true, Bool.false_eq_true, if_false]; done) | rfl
           | false =>
            first | (simp only [if_true, Bool.false_eq_true, if_false]; done) | rfl
         | false =>
          cases b10 with
          | true =>
           first | (simp only [if_true, Bool.false_eq_true, if_false]; done) | rfl
          | false =>
           cases b11 with
           | true =>
            first | (simp only [if_true, Bool.false_eq_true, if_false]; done) | rfl
           | false =>
            first | (simp only [if_true, Bool.false_eq_true, if_false]; done) | rfl
        | false =>
         cases b12 with
         | true =>
          cases b7 with
          | true =>
           cases b13 with
           | true =>
            first | (simp only [if_true, Bool.false_eq_true, if_false]; done) | rfl
           | false =>
            cases b14 with
            | true =>
             first | (simp only [if_true, Bool.false_eq_true, if_false]; done) | rfl
            | false =>
             first | (simp only [if_true, Bool.false_eq_true, if_false]; done) | rfl
          | false =>
           cases b15 with
           | true =>
            first | (simp only [if_true, Bool.false_eq_true, if_false]; done) | rfl
           | false =>
            cases b16 with
            | true =>
             first | (simp only [if_true, Bool.false_eq_true, if_false]; done) | rfl
            | false =>
             first | (simp only [if_true, Bool.false_eq_true, if_false]; done) | rfl
         | false =>
          cases b17 with
          | true =>
           cases b7 with
           | true =>
            cases b18 with
            | true =>
             first | (simp only [if_true, Bool.false_eq_true, if_false]; done) | rfl
            | false =>
             cases b19 with
             | true =>
              first | (simp only [if_true, Bool.false_eq_true, if_false]; done) | rfl
             | false =>
              first | (simp only [if_true, Bool.false_eq_true, if_false]; done) | rfl
           | false =>
            cases b20 with
            | true =>
             first | (simp only [if_true, Bool.false_eq_true, if_false]; done) | rfl
            | false =>
             cases b21 with
             | true =>
              first | (simp only [if_true, Bool.false_eq_true, if_false]; done) | rfl
             | false =>
              first | (simp only [if_true, Bool.false_eq_true, if_false]; done) | rfl
          | false =>
           first | (simp only [if_true, Bool.false_eq_true, if_false]; done) | rfl
theorem tab28_ok : TabOk Try.prog tab28 := tab_cond mixed tab27_ok (by decide) fun args b v h hb => by
  unfold ans30 at h
  split at h
  · rename_i c0 c1 x10 x11 h0
    split at h
    · rename_i x0 x1 x2 x3 x4 x5 x6 x7 x8 x9 k1 k2
      injection h with h; injection h with h1 h2; subst h1 h2
      obtain rfl : c0 = #[.int .i64 x0, .int .i64 x1, .int .i64 x2, .int .i64 x3] := by rw [← Array.toArray_toList (xs := c0), k1]
      obtain rfl : c1 = #[.int .i64 x4, .int .i64 x5, .int .i64 x6, .int .i64 x7, .int .i64 x8, .int .i64 x9] := by rw [← Array.toArray_toList (xs := c1), k2]
      obtain rfl : args = #[.agg #[.int .i64 x0, .int .i64 x1, .int .i64 x2, .int .i64 x3], .agg #[.int .i64 x4, .int .i64 x5, .int .i64 x6, .int .i64 x7, .int .i64 x8, .int .i64 x9], .int .i64 x10, .int .i64 x11] := by rw [← Array.toArray_toList (xs := args), h0]
      exact ⟨rfl, rfl, ⟨[(18, 0), (21, 0), (24, 0), (28, 0), (32, 0), (41, 0), (49, 0), (53, 0), (59, 0), (45, 3)], [], []⟩, 300, by rw [tree30_eq, tree30_res, if_pos hb]⟩
    · cases h
  · cases h

/- gangsaw/gangsawref07.Slope -/
def ref07_Slope_ok (_x0 _x1 _x2 _x3 x4 : Int) : Bool :=
  if x4 == ↑0 then (Bool.true) else if x4 == ↑(0 + 1) then (Bool.true) else if x4 == ↑(0 + 1 + 1) then (Bool.true) else if x4 == ↑(0 + 1 + 1 + 1) then (Bool.true) else if x4 == ↑(0 + 1 + 1 + 1 + 1) then (Bool.true) else if x4 == ↑(0 + 1 + 1 + 1 + 1 + 1) then (Bool.true) else (Bool.false)
def ref07_Slope_0 (x0 x1 x2 _x3 x4 : Int) : Int :=
  if x4 == ↑0 then (x0) else if x4 == ↑(0 + 1) then (IntKind.i64.wrap (0 - x0)) else if x4 == ↑(0 + 1 + 1) then (x1) else if x4 == ↑(0 + 1 + 1 + 1) then (IntKind.i64.wrap (0 - x1)) else if x4 == ↑(0 + 1 + 1 + 1 + 1) then (x2) else (IntKind.i64.wrap (0 - x2))
def ans51 : Array Value → Option (Bool × Value) := fun args => match args.toList with
  | [.agg c0, .int .i64 x4] => match c0.toList with
    | [.int .i64 x0, .int .i64 x1, .int .i64 x2, .int .i64 x3] => some (ref07_Slope_ok x0 x1 x2 x3 x4, .int .i64 (ref07_Slope_0 x0 x1 x2 x3 x4))
    | _ => none
  | _ => none
def tab29 : Tab := (51, .cond ans51) :: tab28
def tree51 (x0 x1 x2 x3 x4 : Int) : Tr Value :=
  .node 23 (x4 == ↑0)
  (.leaf (some (.int .i64 (x0))))
  (.node 23 (x4 == ↑(0 + 1))
   (.leaf (some (.int .i64 (IntKind.i64.wrap (0 - x0)))))
   (.node 23 (x4 == ↑(0 + 1 + 1))
    (.leaf (some (.int .i64 (x1))))
    (.node 23 (x4 == ↑(0 + 1 + 1 + 1))
     (.leaf (some (.int .i64 (IntKind.i64.wrap (0 - x1)))))
     (.node 23 (x4 == ↑(0 + 1 + 1 + 1 + 1))
      (.leaf (some (.int .i64 (x2))))
      (.node 23 (x4 == ↑(0 + 1 + 1 + 1 + 1 + 1))
       (.leaf (some (.int .i64 (IntKind.i64.wrap (0 - x2)))))
       (.leaf none))))))
theorem tree51_eq (x0 x1 x2 x3 x4 : Int) : vals (evFnT Try.prog (tb Try.prog tab28) (tbT Try.prog tab28) ⟨[(23, 6)], [], []⟩ noLoops 300 51 #[.agg #[.int .i64 x0, .int .i64 x1, .int .i64 x2, .int .i64 x3], .int .i64 x4] []) = tree51 x0 x1 x2 x3 x4 := by kernel_rfl
theorem tree51_res (x0 x1 x2 x3 x4 : Int) : (tree51 x0 x1 x2 x3 x4).res = if ref07_Slope_ok x0 x1 x2 x3 x4 = true then some (.int .i64 (ref07_Slope_0 x0 x1 x2 x3 x4)) else none := by
  unfold tree51 ref07_Slope_ok ref07_Slope_0
  simp only [Tr.res]
  generalize (x4 == ↑0) = b0
  generalize (x4 == ↑(0 + 1)) = b1
  generalize (x4 == ↑(0 + 1 + 1)) = b2
  generalize (x4 == ↑(0 + 1 + 1 + 1)) = b3
  generalize (x4 == ↑(0 + 1 + 1 + 1 + 1)) = b4
  generalize (x4 == ↑(0 + 1 + 1 + 1 + 1 + 1)) = b5
  cases b0 with
  | true =>
   first | (simp only [if_true, Bool.false_eq_true, if_false]; done) | rfl
  | false =>
   cases b1 with
   | true =>
    first | (simp only [if_true, Bool.false_eq_true, if_false]; done) | rfl
   | false =>
    cases b2 with
    | true =>
     first | (simp only [if_true, Bool.false_eq_true, if_false]; done) | rfl
    | false =>
     cases b3 with
     | true =>
      first | (simp only [if_true, Bool.false_eq_true, if_false]; done) | rfl
     | false =>
      cases b4 with
      | true =>
       first | (simp only [if_true, Bool.false_eq_true, if_false]; done) | rfl
      | false =>
       cases b5 with
       | true =>
        first | (simp only [if_true, Bool.false_eq_true, if_false]; done) | rfl
       | false =>
        first | (simp only [if_true, Bool.false_eq_true, if_false]; done) | rfl
theorem tab29_ok : TabOk Try.prog tab29 := tab_cond mixed tab28_ok (by decide) fun args b v h hb => by
  unfold ans51 at h
  split at h
  · rename_i c0 x4 h0
    split at h
    · rename_i x0 x1 x2 x3 k1
      injection h with h; injection h with h1 h2; subst h1 h2
      obtain rfl : c0 = #[.int .i64 x0, .int .i64 x1, .int .i64 x2, .int .i64 x3] := by rw [← Array.toArray_toList (xs := c0), k1]
      obtain rfl : args = #[.agg #[.int .i64 x0, .int .i64 x1, .int .i64 x2, .int .i64 x3], .int .i64 x4] := by rw [← Array.toArray_toList (xs := args), h0]
      exact ⟨rfl, rfl, ⟨[(23, 6)], [], []⟩, 300, by rw [tree51_eq, tree51_res, if_pos hb]⟩
    · cases h
  · cases h

/- gangsaw/gangsawref07.Depth -/
def ref07_Depth_ok (x0 x1 x2 x3 _x4 _x5 _x6 _x7 _x8 _x9 x10 _x11 : Int) : Bool :=
  if ref07_Slope_ok x0 x1 x2 x3 x10 then (if Decidable.decide (ref07_Slope_0 x0 x1 x2 x3 x10 ≤ 0) then (Bool.true) else if ref07_Slope_0 x0 x1 x2 x3 x10 == 0 then (Bool.false) else (Bool.true)) else (Bool.false)
def ref07_Depth_0 (x0 x1 x2 x3 x4 x5 x6 x7 x8 x9 x10 x11 : Int) : Int :=
  if Decidable.decide (ref07_Slope_0 x0 x1 x2 x3 x10 ≤ 0) then (x11) else (imin x11 (IntKind.i64.wrap ((IntKind.i64.wrap (0 - ref07_Extremes_1 x0 x1 x2 x3 x4 x5 x6 x7 x8 x9)).tdiv (ref07_Slope_0 x0 x1 x2 x3 x10))))
def ans31 : Array Value → Option (Bool × Value) := fun args => match args.toList with
  | [.agg c0, .agg c1, .int .i64 x10, .int .i64 x11] => match c0.toList, c1.toList with
    | [.int .i64 x0, .int .i64 x1, .int .i64 x2, .int .i64 x3], [.int .i64 x4, .int .i64 x5, .int .i64 x6, .int .i64 x7, .int .i64 x8, .int .i64 x9] => some (ref07_Depth_ok x0 x1 x2 x3 x4 x5 x6 x7 x8 x9 x10 x11, .int .i64 (ref07_Depth_0 x0 x1 x2 x3 x4 x5 x6 x7 x8 x9 x10 x11))
    | _, _ => none
  | _ => none
def tab30 : Tab := (31, .cond ans31) :: tab29
def tree31 (x0 x1 x2 x3 x4 x5 x6 x7 x8 x9 x10 x11 : Int) : Tr Value :=
  .node 0 (ref07_Slope_ok x0 x1 x2 x3 x10)
  (.node 22 (Decidable.decide (ref07_Slope_0 x0 x1 x2 x3 x10 ≤ 0))
   (.leaf (some (.int .i64 (x11))))
   (.node 28 (ref07_Slope_0 x0 x1 x2 x3 x10 == 0)
    (.leaf none)
    (.leaf (some (.int .i64 (imin x11 (IntKind.i64.wrap ((IntKind.i64.wrap (0 - ref07_Extremes_1 x0 x1 x2 x3 x4 x5 x6 x7 x8 x9)).tdiv (ref07_Slope_0 x0 x1 x2 x3 x10)))))))))
  (.leaf none)
theorem tree31_eq (x0 x1 x2 x3 x4 x5 x6 x7 x8 x9 x10 x11 : Int) : vals (evFnT Try.prog (tb Try.prog tab29) (tbT Try.prog tab29) ⟨[(22, 0), (28, 0)], [], []⟩ noLoops 300 31 #[.agg #[.int .i64 x0, .int .i64 x1, .int .i64 x2, .int .i64 x3], .agg #[.int .i64 x4, .int .i64 x5, .int .i64 x6, .int .i64 x7, .int .i64 x8, .int .i64 x9], .int .i64 x10, .int .i64 x11] []) = tree31 x0 x1 x2 x3 x4 x5 x6 x7 x8 x9 x10 x11 := by kernel_rfl
theorem tree31_res (x0 x1 x2 x3 x4 x5 x6 x7 x8 x9 x10 x11 : Int) : (tree31 x0 x1 x2 x3 x4 x5 x6 x7 x8 x9 x10 x11).res = if ref07_Depth_ok x0 x1 x2 x3 x4 x5 x6 x7 x8 x9 x10 x11 = true then some (.int .i64 (ref07_Depth_0 x0 x1 x2 x3 x4 x5 x6 x7 x8 x9 x10 x11)) else none := by
  unfold tree31 ref07_Depth_ok ref07_Depth_0
  simp only [Tr.res]
  generalize (ref07_Slope_ok x0 x1 x2 x3 x10) = b0
  generalize (Decidable.decide (ref07_Slope_0 x0 x1 x2 x3 x10 ≤ 0)) = b1
  generalize (ref07_Slope_0 x0 x1 x2 x3 x10 == 0) = b2
  cases b0 with
  | true =>
   cases b1 with
   | true =>
    first | (simp only [if_true, Bool.false_eq_true, if_false]; done) | rfl
   | false =>
    cases b2 with
    | true =>
     first | (simp only [if_true, Bool.false_eq_true, if_false]; done) | rfl
    | false =>
     first | (simp only [if_true, Bool.false_eq_true, if_false]; done) | rfl
  | false =>
   first | (simp only [if_true, Bool.false_eq_true, if_false]; done) | rfl
theorem tab30_ok : TabOk Try.prog tab30 := tab_cond mixed tab29_ok (by decide) fun args b v h hb => by
  unfold ans31 at h
  split at h
  · rename_i c0 c1 x10 x11 h0
    split at h
    · rename_i x0 x1 x2 x3 x4 x5 x6 x7 x8 x9 k1 k2
      injection h with h; injection h with h1 h2; subst h1 h2
      obtain rfl : c0 = #[.int .i64 x0, .int .i64 x1, .int .i64 x2, .int .i64 x3] := by rw [← Array.toArray_toList (xs := c0), k1]
      obtain rfl : c1 = #[.int .i64 x4, .int .i64 x5, .int .i64 x6, .int .i64 x7, .int .i64 x8, .int .i64 x9] := by rw [← Array.toArray_toList (xs := c1), k2]
      obtain rfl : args = #[.agg #[.int .i64 x0, .int .i64 x1, .int .i64 x2, .int .i64 x3], .agg #[.int .i64 x4, .int .i64 x5, .int .i64 x6, .int .i64 x7, .int .i64 x8, .int .i64 x9], .int .i64 x10, .int .i64 x11] := by rw [← Array.toArray_toList (xs := args), h0]
      exact ⟨rfl, rfl, ⟨[(22, 0), (28, 0)], [], []⟩, 300, by rw [tree31_eq, tree31_res, if_pos hb]⟩
    · cases h
  · cases h

/- gangsaw/gangsawlaw07.moved -/
def law07_moved_ok (_x0 _x1 _x2 _x3 _x4 _x5 x6 _x7 : Int) : Bool :=
  if x6 == ↑0 then (Bool.true) else if x6 == ↑(0 + 1) then (Bool.true) else if x6 == ↑(0 + 1 + 1) then (Bool.true) else if x6 == ↑(0 + 1 + 1 + 1) then (Bool.true) else if x6 == ↑(0 + 1 + 1 + 1 + 1) then (Bool.true) else if x6 == ↑(0 + 1 + 1 + 1 + 1 + 1) then (Bool.true) else (Bool.false)
def law07_moved_0 (x0 _x1 _x2 _x3 _x4 _x5 x6 x7 : Int) : Int :=
  if x6 == ↑0 then (IntKind.i64.wrap (x0 + x7)) else if x6 == ↑(0 + 1) then (IntKind.i64.wrap (x0 + IntKind.i64.wrap (0 - x7))) else (IntKind.i64.wrap (x0 + 0))
def law07_moved_1 (_x0 x1 _x2 _x3 _x4 _x5 x6 x7 : Int) : Int :=
  if x6 == ↑0 then (IntKind.i64.wrap (x1 + 0)) else if x6 == ↑(0 + 1) then (IntKind.i64.wrap (x1 + 0)) else if x6 == ↑(0 + 1 + 1) then (IntKind.i64.wrap (x1 + x7)) else if x6 == ↑(0 + 1 + 1 + 1) then (IntKind.i64.wrap (x1 + IntKind.i64.wrap (0 - x7))) else (IntKind.i64.wrap (x1 + 0))
def law07_moved_2 (_x0 _x1 x2 _x3 _x4 _x5 x6 x7 : Int) : Int :=
  if x6 == ↑0 then (IntKind.i64.wrap (x2 + 0)) else if x6 == ↑(0 + 1) then (IntKind.i64.wrap (x2 + 0)) else if x6 == ↑(0 + 1 + 1) then (IntKind.i64.wrap (x2 + 0)) else if x6 == ↑(0 + 1 + 1 + 1) then (IntKind.i64.wrap (x2 + 0)) else if x6 == ↑(0 + 1 + 1 + 1 + 1) then (IntKind.i64.wrap (x2 + x7)) else (IntKind.i64.wrap (x2 + IntKind.i64.wrap (0 - x7)))
def law07_moved_3 (_x0 _x1 _x2 x3 _x4 _x5 x6 x7 : Int) : Int :=
  if x6 == ↑0 then (IntKind.i64.wrap (x3 + x7)) else if x6 == ↑(0 + 1) then (IntKind.i64.wrap (x3 + IntKind.i64.wrap (0 - x7))) else (IntKind.i64.wrap (x3 + 0))
def law07_moved_4 (_x0 _x1 _x2 _x3 x4 _x5 x6 x7 : Int) : Int :=
  if x6 == ↑0 then (IntKind.i64.wrap (x4 + 0)) else if x6 == ↑(0 + 1) then (IntKind.i64.wrap (x4 + 0)) else if x6 == ↑(0 + 1 + 1) then (IntKind.i64.wrap (x4 + x7)) else if x6 == ↑(0 + 1 + 1 + 1) then (IntKind.i64.wrap (x4 + IntKind.i64.wrap (0 - x7))) else (IntKind.i64.wrap (x4 + 0))
def law07_moved_5 (_x0 _x1 _x2 _x3 _x4 x5 x6 x7 : Int) : Int :=
  if x6 == ↑0 then (IntKind.i64.wrap (x5 + 0)) else if x6 == ↑(0 + 1) then (IntKind.i64.wrap (x5 + 0)) else if x6 == ↑(0 + 1 + 1) then (IntKind.i64.wrap (x5 + 0)) else if x6 == ↑(0 + 1 + 1 + 1) then (IntKind.i64.wrap (x5 + 0)) else if x6 == ↑(0 + 1 + 1 + 1 + 1) then (IntKind.i64.wrap (x5 + x7)) else (IntKind.i64.wrap (x5 + IntKind.i64.wrap (0 - x7)))
def ans32 : Array Value → Option (Bool × Value) := fun args => match args.toList with
  | [.agg c0, .int .i64 x6, .int .i64 x7] => match c0.toList with
    | [.int .i64 x0, .int .i64 x1, .int .i64 x2, .int .i64 x3, .int .i64 x4, .int .i64 x5] => some (law07_moved_ok x0 x1 x2 x3 x4 x5 x6 x7, .agg #[.int .i64 (law07_moved_0 x0 x1 x2 x3 x4 x5 x6 x7), .int .i64 (law07_moved_1 x0 x1 x2 x3 x4 x5 x6 x7), .int .i64 (law07_moved_2 x0 x1 x2 x3 x4 x5 x6 x7), .int .i64 (law07_moved_3 x0 x1 x2 x3 x4 x5 x6 x7), .int .i64 (law07_moved_4 x0 x1 x2 x3 x4 x5 x6 x7), .int .i64 (law07_moved_5 x0 x1 x2 x3 x4 x5 x6 x7)])
    | _ => none
  | _ => none
def tab31 : Tab := (32, .cond ans32) :: tab30
def tree32 (x0 x1 x2 x3 x4 x5 x6 x7 : Int) : Tr Value :=
  .node 24 (x6 == ↑0)
  (.leaf (some (.agg #[.int .i64 (IntKind.i64.wrap (x0 + x7)), .int .i64 (IntKind.i64.wrap (x1 + 0)), .int .i64 (IntKind.i64.wrap (x2 + 0)), .int .i64 (IntKind.i64.wrap (x3 + x7)), .int .i64 (IntKind.i64.wrap (x4 + 0)), .int .i64 (IntKind.i64.wrap (x5 + 0))])))
  (.node 24 (x6 == ↑(0 + 1))
   (.leaf (some (.agg #[.int .i64 (IntKind.i64.wrap (x0 + IntKind.i64.wrap (0 - x7))), .int .i64 (IntKind.i64.wrap (x1 + 0)), .int .i64 (IntKind.i64.wrap (x2 + 0)), .int .i64 (IntKind.i64.wrap (x3 + IntKind.i64.wrap (0 - x7))), .int .i64 (IntKind.i64.wrap (x4 + 0)), .int .i64 (IntKind.i64.wrap (x5 + 0))])))
   (.node 24 (x6 == ↑(0 + 1 + 1))
    (.leaf (some (.agg #[.int .i64 (IntKind.i64.wrap (x0 + 0)), .int .i64 (IntKind.i64.wrap (x1 + x7)), .int .i64 (IntKind.i64.wrap (x2 + 0)), .int .i64 (IntKind.i64.wrap (x3 + 0)), .int .i64 (IntKind.i64.wrap (x4 + x7)), .int .i64 (IntKind.i64.wrap (x5 + 0))])))
    (.node 24 (x6 == ↑(0 + 1 + 1 + 1))
     (.leaf (some (.agg #[.int .i64 (IntKind.i64.wrap (x0 + 0)), .int .i64 (IntKind.i64.wrap (x1 + IntKind.i64.wrap (0 - x7))), .int .i64 (IntKind.i64.wrap (x2 + 0)), .int .i64 (IntKind.i64.wrap (x3 + 0)), .int .i64 (IntKind.i64.wrap (x4 + IntKind.i64.wrap (0 - x7))), .int .i64 (IntKind.i64.wrap (x5 + 0))])))
     (.node 24 (x6 == ↑(0 + 1 + 1 + 1 + 1))
      (.leaf (some (.agg #[.int .i64 (IntKind.i64.wrap (x0 + 0)), .int .i64 (IntKind.i64.wrap (x1 + 0)), .int .i64 (IntKind.i64.wrap (x2 + x7)), .int .i64 (IntKind.i64.wrap (x3 + 0)), .int .i64 (IntKind.i64.wrap (x4 + 0)), .int .i64 (IntKind.i64.wrap (x5 + x7))])))
      (.node 24 (x6 == ↑(0 + 1 + 1 + 1 + 1 + 1))
       (.leaf (some (.agg #[.int .i64 (IntKind.i64.wrap (x0 + 0)), .int .i64 (IntKind.i64.wrap (x1 + 0)), .int .i64 (IntKind.i64.wrap (x2 + IntKind.i64.wrap (0 - x7))), .int .i64 (IntKind.i64.wrap (x3 + 0)), .int .i64 (IntKind.i64.wrap (x4 + 0)), .int .i64 (IntKind.i64.wrap (x5 + IntKind.i64.wrap (0 - x7)))])))
       (.leaf none))))))
theorem tree32_eq (x0 x1 x2 x3 x4 x5 x6 x7 : Int) : vals (evFnT Try.prog (tb Try.prog tab30) (tbT Try.prog tab30) ⟨[(24, 6)], [], []⟩ noLoops 300 32 #[.agg #[.int .i64 x0, .int .i64 x1, .int .i64 x2, .int .i64 x3, .int .i64 x4, .int .i64 x5], .int .i64 x6, .int .i64 x7] []) = tree32 x0 x1 x2 x3 x4 x5 x6 x7 := by kernel_rfl
theorem tree32_res (x0 x1 x2 x3 x4 x5 x6 x7 : Int) : (tree32 x0 x1 x2 x3 x4 x5 x6 x7).res = if law07_moved_ok x0 x1 x2 x3 x4 x5 x6 x7 = true then some (.agg #[.int .i64 (law07_moved_0 x0 x1 x2 x3 x4 x5 x6 x7), .int .i64 (law07_moved_1 x0 x1 x2 x3 x4 x5 x6 x7), .int .i64 (law07_moved_2 x0 x1 x2 x3 x4 x5 x6 x7), .int .i64 (law07_moved_3 x0 x1 x2 x3 x4 x5 x6 x7), .int .i64 (law07_moved_4 x0 x1 x2 x3 x4 x5 x6 x7), .int .i64 (law07_moved_5 x0 x1 x2 x3 x4 x5 x6 x7)]) else none := by
  unfold tree32 law07_moved_ok law07_moved_0 law07_moved_1 law07_moved_2 law07_moved_3 law07_moved_4 law07_moved_5
  simp only [Tr.res]
  generalize (x6 == ↑0) = b0
  generalize (x6 == ↑(0 + 1)) = b1
  generalize (x6 == ↑(0 + 1 + 1)) = b2
  generalize (x6 == ↑(0 + 1 + 1 + 1)) = b3
  generalize (x6 == ↑(0 + 1 + 1 + 1 + 1)) = b4
  generalize (x6 == ↑(0 + 1 + 1 + 1 + 1 + 1)) = b5
  cases b0 with
  | true =>
   first | (simp only [if_true, Bool.false_eq_true, if_false]; done) | rfl
  | false =>
   cases b1 with
   | true =>
    first | (simp only [if_true, Bool.false_eq_true, if_false]; done) | rfl
   | false =>
    cases b2 with
    | true =>
     first | (simp only [if_true, Bool.false_eq_true, if_false]; done) | rfl
    | false =>
     cases b3 with
     | true =>
      first | (simp only [if_true, Bool.false_eq_true, if_false]; done) | rfl
     | false =>
      cases b4 with
      | true =>
       first | (simp only [if_true, Bool.false_eq_true, if_false]; done) | rfl
      | false =>
       cases b5 with
       | true =>
        first | (simp only [if_true, Bool.false_eq_true, if_false]; done) | rfl
       | false =>
        first | (simp only [if_true, Bool.false_eq_true, if_false]; done) | rfl
theorem tab31_ok : TabOk Try.prog tab31 := tab_cond mixed tab30_ok (by decide) fun args b v h hb => by
  unfold ans32 at h
  split at h
  · rename_i c0 x6 x7 h0
    split at h
    · rename_i x0 x1 x2 x3 x4 x5 k1
      injection h with h; injection h with h1 h2; subst h1 h2
      obtain rfl : c0 = #[.int .i64 x0, .int .i64 x1, .int .i64 x2, .int .i64 x3, .int .i64 x4, .int .i64 x5] := by rw [← Array.toArray_toList (xs := c0), k1]
      obtain rfl : args = #[.agg #[.int .i64 x0, .int .i64 x1, .int .i64 x2, .int .i64 x3, .int .i64 x4, .int .i64 x5], .int .i64 x6, .int .i64 x7] := by rw [← Array.toArray_toList (xs := args), h0]
      exact ⟨rfl, rfl, ⟨[(24, 6)], [], []⟩, 300, by rw [tree32_eq, tree32_res, if_pos hb]⟩
    · cases h
  · cases h
end Go.Proofs.Ytkllldhkikmbbaa.Vx
