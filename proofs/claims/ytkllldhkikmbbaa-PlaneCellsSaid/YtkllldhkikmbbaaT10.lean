/- The answers of the functions of the package and of its reference, read off their texts. -/
import Derived.Test.YtkllldhkikmbbaaTH
namespace Go.Proofs.Ytkllldhkikmbbaa.Vx
open Go Go.RowKit Go.Proofs
set_option maxRecDepth 100000
set_option linter.unusedVariables false
set_option linter.unusedSimpArgs false

/- gangsaw/gangsawlaw07.PlaneCells -/
def law07_PlaneCells_ok (x0 x1 x2 x3 x4 x5 x6 x7 x8 x9 _x10 _x11 _x12 : Int) : Bool :=
  if plane_Hull_ok x0 x1 x2 x3 x4 x5 x6 x7 x8 x9 then (Bool.true) else (Bool.false)
def law07_PlaneCells_0 (x0 x1 x2 x3 x4 x5 x6 x7 x8 x9 x10 x11 x12 : Int) : Bool :=
  if plane_Side_1 x0 x1 x2 x3 x4 x5 x6 x7 x8 x9 != 0 then (plane_Hull_6 x0 x1 x2 x3 x4 x5 x6 x7 x8 x9 == plane_Side_1 x0 x1 x2 x3 x4 x5 x6 x7 x8 x9) else if bif plane_Side_0 x0 x1 x2 x3 x4 x5 x6 x7 x8 x9 == 1 then bif plane_Hull_6 x0 x1 x2 x3 x4 x5 x6 x7 x8 x9 != 0 then Bool.true else !(plane_Hull_0 x0 x1 x2 x3 x4 x5 x6 x7 x8 x9 == x4 && (plane_Hull_1 x0 x1 x2 x3 x4 x5 x6 x7 x8 x9 == x5 && (plane_Hull_2 x0 x1 x2 x3 x4 x5 x6 x7 x8 x9 == x6 && Bool.true)) && (plane_Hull_3 x0 x1 x2 x3 x4 x5 x6 x7 x8 x9 == x7 && (plane_Hull_4 x0 x1 x2 x3 x4 x5 x6 x7 x8 x9 == x8 && (plane_Hull_5 x0 x1 x2 x3 x4 x5 x6 x7 x8 x9 == x9 && Bool.true)) && Bool.true)) else Bool.false then (Bool.false) else if bif plane_Hull_6 x0 x1 x2 x3 x4 x5 x6 x7 x8 x9 == 0 then bif bif bif bif bif Decidable.decide (plane_Hull_0 x0 x1 x2 x3 x4 x5 x6 x7 x8 x9 < x4) then Bool.true else Decidable.decide (plane_Hull_1 x0 x1 x2 x3 x4 x5 x6 x7 x8 x9 < x5) then Bool.true else Decidable.decide (plane_Hull_2 x0 x1 x2 x3 x4 x5 x6 x7 x8 x9 < x6) then Bool.true else Decidable.decide (plane_Hull_3 x0 x1 x2 x3 x4 x5 x6 x7 x8 x9 > x7) then Bool.true else Decidable.decide (plane_Hull_4 x0 x1 x2 x3 x4 x5 x6 x7 x8 x9 > x8) then Bool.true else Decidable.decide (plane_Hull_5 x0 x1 x2 x3 x4 x5 x6 x7 x8 x9 > x9) else Bool.false then (Bool.false) else if bif bif bif bif bif Decidable.decide (x10 < x4) then Bool.true else Decidable.decide (x11 < x5) then Bool.true else Decidable.decide (x12 < x6) then Bool.true else Decidable.decide (x10 ≥ x7) then Bool.true else Decidable.decide (x11 ≥ x8) then Bool.true else Decidable.decide (x12 ≥ x9) then (Bool.true) else if plane_Side_1 x0 x1 x2 x3 x10 x11 x12 (IntKind.i64.wrap (x10 + 1)) (IntKind.i64.wrap (x11 + 1)) (IntKind.i64.wrap (x12 + 1)) != 0 then (Bool.false) else if plane_Side_0 x0 x1 x2 x3 x10 x11 x12 (IntKind.i64.wrap (x10 + 1)) (IntKind.i64.wrap (x11 + 1)) (IntKind.i64.wrap (x12 + 1)) != 1 then (Bool.true) else (bif bif bif bif bif bif plane_Hull_6 x0 x1 x2 x3 x4 x5 x6 x7 x8 x9 == 0 then Decidable.decide (plane_Hull_0 x0 x1 x2 x3 x4 x5 x6 x7 x8 x9 ≤ x10) else Bool.false then Decidable.decide (plane_Hull_1 x0 x1 x2 x3 x4 x5 x6 x7 x8 x9 ≤ x11) else Bool.false then Decidable.decide (plane_Hull_2 x0 x1 x2 x3 x4 x5 x6 x7 x8 x9 ≤ x12) else Bool.false then Decidable.decide (x10 < plane_Hull_3 x0 x1 x2 x3 x4 x5 x6 x7 x8 x9) else Bool.false then Decidable.decide (x11 < plane_Hull_4 x0 x1 x2 x3 x4 x5 x6 x7 x8 x9) else Bool.false then Decidable.decide (x12 < plane_Hull_5 x0 x1 x2 x3 x4 x5 x6 x7 x8 x9) else Bool.false)
def ans10 : Array Value → Option (Bool × Value) := fun args => match args.toList with
  | [.agg c0, .agg c1, .agg c2] => match c0.toList, c1.toList, c2.toList with
    | [.int .i64 x0, .int .i64 x1, .int .i64 x2, .int .i64 x3], [.int .i64 x4, .int .i64 x5, .int .i64 x6, .int .i64 x7, .int .i64 x8, .int .i64 x9], [.int .i64 x10, .int .i64 x11, .int .i64 x12] => some (law07_PlaneCells_ok x0 x1 x2 x3 x4 x5 x6 x7 x8 x9 x10 x11 x12, .bool (law07_PlaneCells_0 x0 x1 x2 x3 x4 x5 x6 x7 x8 x9 x10 x11 x12))
    | _, _, _ => none
  | _ => none
def tab32 : Tab := (10, .cond ans10) :: tab31
def tree10 (x0 x1 x2 x3 x4 x5 x6 x7 x8 x9 x10 x11 x12 : Int) : Tr Value :=
  .node 0 (plane_Hull_ok x0 x1 x2 x3 x4 x5 x6 x7 x8 x9)
  (.node 28 (plane_Side_1 x0 x1 x2 x3 x4 x5 x6 x7 x8 x9 != 0)
   (.leaf (some (.bool (plane_Hull_6 x0 x1 x2 x3 x4 x5 x6 x7 x8 x9 == plane_Side_1 x0 x1 x2 x3 x4 x5 x6 x7 x8 x9))))
   (.node 42 (bif plane_Side_0 x0 x1 x2 x3 x4 x5 x6 x7 x8 x9 == 1 then bif plane_Hull_6 x0 x1 x2 x3 x4 x5 x6 x7 x8 x9 != 0 then Bool.true else !(plane_Hull_0 x0 x1 x2 x3 x4 x5 x6 x7 x8 x9 == x4 && (plane_Hull_1 x0 x1 x2 x3 x4 x5 x6 x7 x8 x9 == x5 && (plane_Hull_2 x0 x1 x2 x3 x4 x5 x6 x7 x8 x9 == x6 && Bool.true)) && (plane_Hull_3 x0 x1 x2 x3 x4 x5 x6 x7 x8 x9 == x7 && (plane_Hull_4 x0 x1 x2 x3 x4 x5 x6 x7 x8 x9 == x8 && (plane_Hull_5 x0 x1 x2 x3 x4 x5 x6 x7 x8 x9 == x9 && Bool.true)) && Bool.true)) else Bool.false)
    (.leaf (some (.bool (Bool.false))))
    (.node 98 (bif plane_Hull_6 x0 x1 x2 x3 x4 x5 x6 x7 x8 x9 == 0 then bif bif bif bif bif Decidable.decide (plane_Hull_0 x0 x1 x2 x3 x4 x5 x6 x7 x8 x9 < x4) then Bool.true else Decidable.decide (plane_Hull_1 x0 x1 x2 x3 x4 x5 x6 x7 x8 x9 < x5) then Bool.true else Decidable.decide (plane_Hull_2 x0 x1 x2 x3 x4 x5 x6 x7 x8 x9 < x6) then Bool.true else Decidable.decide (plane_Hull_3 x0 x1 x2 x3 x4 x5 x6 x7 x8 x9 > x7) then Bool.true else Decidable.decide (plane_Hull_4 x0 x1 x2 x3 x4 x5 x6 x7 x8 x9 > x8) then Bool.true else Decidable.decide (plane_Hull_5 x0 x1 x2 x3 x4 x5 x6 x7 x8 x9 > x9) else Bool.false)
     (.leaf (some (.bool (Bool.false))))
     (.node 144 (bif bif bif bif bif Decidable.decide (x10 < x4) then Bool.true else Decidable.decide (x11 < x5) then Bool.true else Decidable.decide (x12 < x6) then Bool.true else Decidable.decide (x10 ≥ x7) then Bool.true else Decidable.decide (x11 ≥ x8) then Bool.true else Decidable.decide (x12 ≥ x9))
      (.leaf (some (.bool (Bool.true))))
      (.node 163 (plane_Side_1 x0 x1 x2 x3 x10 x11 x12 (IntKind.i64.wrap (x10 + 1)) (IntKind.i64.wrap (x11 + 1)) (IntKind.i64.wrap (x12 + 1)) != 0)
       (.leaf (some (.bool (Bool.false))))
       (.node 165 (plane_Side_0 x0 x1 x2 x3 x10 x11 x12 (IntKind.i64.wrap (x10 + 1)) (IntKind.i64.wrap (x11 + 1)) (IntKind.i64.wrap (x12 + 1)) != 1)
        (.leaf (some (.bool (Bool.true))))
        (.leaf (some (.bool (bif bif bif bif bif bif plane_Hull_6 x0 x1 x2 x3 x4 x5 x6 x7 x8 x9 == 0 then Decidable.decide (plane_Hull_0 x0 x1 x2 x3 x4 x5 x6 x7 x8 x9 ≤ x10) else Bool.false then Decidable.decide (plane_Hull_1 x0 x1 x2 x3 x4 x5 x6 x7 x8 x9 ≤ x11) else Bool.false then Decidable.decide (plane_Hull_2 x0 x1 x2 x3 x4 x5 x6 x7 x8 x9 ≤ x12) else Bool.false then Decidable.decide (x10 < plane_Hull_3 x0 x1 x2 x3 x4 x5 x6 x7 x8 x9) else Bool.false then Decidable.decide (x11 < plane_Hull_4 x0 x1 x2 x3 x4 x5 x6 x7 x8 x9) else Bool.false then Decidable.decide (x12 < plane_Hull_5 x0 x1 x2 x3 x4 x5 x6 x7 x8 x9) else Bool.false))))))))))
  (.leaf none)
theorem tree10_eq (x0 x1 x2 x3 x4 x5 x6 x7 x8 x9 x10 x11 x12 : Int) : vals (evFnT Try.prog (tb Try.prog tab31) (tbT Try.prog tab31) ⟨[(28, 0), (42, 0), (98, 0), (144, 0), (163, 0), (165, 0), (2000007, 0), (2000009, 0), (2000011, 0), (2000018, 0)], [], []⟩ noLoops 300 10 #[.agg #[.int .i64 x0, .int .i64 x1, .int .i64 x2, .int .i64 x3], .agg #[.int .i64 x4, .int .i64 x5, .int .i64 x6, .int .i64 x7, .int .i64 x8, .int .i64 x9], .agg #[.int .i64 x10, .int .i64 x11, .int .i64 x12]] []) = tree10 x0 x1 x2 x3 x4 x5 x6 x7 x8 x9 x10 x11 x12 := by kernel_rfl
theorem tree10_res (x0 x1 x2 x3 x4 x5 x6 x7 x8 x9 x10 x11 x12 : Int) : (tree10 x0 x1 x2 x3 x4 x5 x6 x7 x8 x9 x10 x11 x12).res = if law07_PlaneCells_ok x0 x1 x2 x3 x4 x5 x6 x7 x8 x9 x10 x11 x12 = true then some (.bool (law07_PlaneCells_0 x0 x1 x2 x3 x4 x5 x6 x7 x8 x9 x10 x11 x12)) else none := by
  unfold tree10 law07_PlaneCells_ok law07_PlaneCells_0
  simp only [Tr.res]
  generalize (plane_Hull_ok x0 x1 x2 x3 x4 x5 x6 x7 x8 x9) = b0
  generalize (plane_Side_1 x0 x1 x2 x3 x4 x5 x6 x7 x8 x9 != 0) = b1
  generalize (bif plane_Side_0 x0 x1 x2 x3 x4 x5 x6 x7 x8 x9 == 1 then bif plane_Hull_6 x0 x1 x2 x3 x4 x5 x6 x7 x8 x9 != 0 then Bool.true else !(plane_Hull_0 x0 x1 x2 x3 x4 x5 x6 x7 x8 x9 == x4 && (plane_Hull_1 x0 x1 x2 x3 x4 x5 x6 x7 x8 x9 == x5 && (plane_Hull_2 x0 x1 x2 x3 x4 x5 x6 x7 x8 x9 == x6 && Bool.true)) && (plane_Hull_3 x0 x1 x2 x3 x4 x5 x6 x7 x8 x9 == x7 && (plane_Hull_4 x0 x1 x2 x3 x4 x5 x6 x7 x8 x9 == x8 && (plane_Hull_5 x0 x1 x2 x3 x4 x5 x6 x7 x8 x9 == x9 && Bool.true)) && Bool.true)) else Bool.false) = b2
  generalize (bif plane_Hull_6 x0 x1 x2 x3 x4 x5 x6 x7 x8 x9 == 0 then bif bif bif bif bif Decidable.decide (plane_Hull_0 x0 x1 x2 x3 x4 x5 x6 x7 x8 x9 < x4) then Bool.true else Decidable.decide (plane_Hull_1 x0 x1 x2 x3 x4 x5 x6 x7 x8 x9 < x5) then Bool.true else Decidable.decide (plane_Hull_2 x0 x1 x2 x3 x4 x5 x6 x7 x8 x9 < x6) then Bool.true else Decidable.decide (plane_Hull_3 x0 x1 x2 x3 x4 x5 x6 x7 x8 x9 > x7) then Bool.true else Decidable.decide (plane_Hull_4 x0 x1 x2 x3 x4 x5 x6 x7 x8 x9 > x8) then Bool.true else Decidable.decide (plane_Hull_5 x0 x1 x2 x3 x4 x5 x6 x7 x8 x9 > x9) else Bool.false) = b3
  generalize (bif bif bif bif bif Decidable.decide (x10 < x4) then Bool.true else Decidable.decide (x11 < x5) then Bool.true else Decidable.decide (x12 < x6) then Bool.true else Decidable.decide (x10 ≥ x7) then Bool.true else Decidable.decide (x11 ≥ x8) then Bool.true else Decidable.decide (x12 ≥ x9)) = b4
  generalize (plane_Side_1 x0 x1 x2 x3 x10 x11 x12 (IntKind.i64.wrap (x10 + 1)) (IntKind.i64.wrap (x11 + 1)) (IntKind.i64.wrap (x12 + 1)) != 0) = b5
  generalize (plane_Side_0 x0 x1 x2 x3 x10 x11 x12 (IntKind.i64.wrap (x10 + 1)) (IntKind.i64.wrap (x11 + 1)) (IntKind.i64.wrap (x12 + 1)) != 1) = b6
  cases b0 with
  | true =>
   cases b1 with
   | true =>
    first | (simp only [if_true, Bool.false_eq_true, if_false]; done) | rfl
   | false =>
    cases b2 with
    | true =>
     first | (simp only [if_true, Bool.false_eq_true, if_false]; done) | rfl
    | false =>
     cases b3 with
     | true =>
      first | (simp only [if_true, Bool.false_eq_true, if_false]; done) | rfl
     | false =>
      cases b4 with
      | true =>
       first | (simp only [if_true, Bool.false_eq_true, if_false]; done) | rfl
      | false =>
       cases b5 with
       | true =>
        first | (simp only [if_true, Bool.false_eq_true, if_false]; done) | rfl
       | false =>
        cases b6 with
        | true =>
         first | (simp only [if_true, Bool.false_eq_true, if_false]; done) | rfl
        | false =>
         first | (simp only [if_true, Bool.false_eq_true, if_false]; done) | rfl
  | false =>
   first | (simp only [if_true, Bool.false_eq_true, if_false]; done) | rfl
theorem tab32_ok : TabOk Try.prog tab32 := tab_cond mixed tab31_ok (by decide) fun args b v h hb => by
  unfold ans10 at h
  split at h
  · rename_i c0 c1 c2 h0
    split at h
    · rename_i x0 x1 x2 x3 x4 x5 x6 x7 x8 x9 x10 x11 x12 k1 k2 k3
      injection h with h; injection h with h1 h2; subst h1 h2
      obtain rfl : c0 = #[.int .i64 x0, .int .i64 x1, .int .i64 x2, .int .i64 x3] := by rw [← Array.toArray_toList (xs := c0), k1]
      obtain rfl : c1 = #[.int .i64 x4, .int .i64 x5, .int .i64 x6, .int .i64 x7, .int .i64 x8, .int .i64 x9] := by rw [← Array.toArray_toList (xs := c1), k2]
      obtain rfl : c2 = #[.int .i64 x10, .int .i64 x11, .int .i64 x12] := by rw [← Array.toArray_toList (xs := c2), k3]
      obtain rfl : args = #[.agg #[.int .i64 x0, .int .i64 x1, .int .i64 x2, .int .i64 x3], .agg #[.int .i64 x4, .int .i64 x5, .int .i64 x6, .int .i64 x7, .int .i64 x8, .int .i64 x9], .agg #[.int .i64 x10, .int .i64 x11, .int .i64 x12]] := by rw [← Array.toArray_toList (xs := args), h0]
      exact ⟨rfl, rfl, ⟨[(28, 0), (42, 0), (98, 0), (144, 0), (163, 0), (165, 0), (2000007, 0), (2000009, 0), (2000011, 0), (2000018, 0)], [], []⟩, 300, by rw [tree10_eq, tree10_res, if_pos hb]⟩
    · cases h
  · cases h
end Go.Proofs.Ytkllldhkikmbbaa.Vx
