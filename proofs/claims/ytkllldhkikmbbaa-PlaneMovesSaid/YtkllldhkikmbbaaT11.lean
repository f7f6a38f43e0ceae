/- The answers of the functions of the package and of its reference, read off their texts. -/
import Derived.Test.YtkllldhkikmbbaaTH
namespace Go.Proofs.Ytkllldhkikmbbaa.Vx
open Go Go.RowKit Go.Proofs
set_option maxRecDepth 100000
set_option linter.unusedVariables false
set_option linter.unusedSimpArgs false

/- gangsaw/gangsawlaw07.PlaneMoves -/
def law07_PlaneMoves_ok (x0 x1 x2 x3 x4 x5 x6 x7 x8 x9 x10 x11 : Int) : Bool :=
  if plane_Depth_ok x0 x1 x2 x3 x4 x5 x6 x7 x8 x9 x10 x11 then (if plane_Depth_1 x0 x1 x2 x3 x4 x5 x6 x7 x8 x9 x10 x11 != 0 then (Bool.true) else if Decidable.decide (plane_Depth_0 x0 x1 x2 x3 x4 x5 x6 x7 x8 x9 x10 x11 < 0) then (Bool.true) else if Decidable.decide (plane_Depth_0 x0 x1 x2 x3 x4 x5 x6 x7 x8 x9 x10 x11 > x11) then (Bool.true) else if Decidable.decide (x10 < 0) then (Bool.true) else if Decidable.decide (x10 > 5) then (Bool.true) else if law07_moved_ok x4 x5 x6 x7 x8 x9 x10 (plane_Depth_0 x0 x1 x2 x3 x4 x5 x6 x7 x8 x9 x10 x11) then (if plane_Side_1 x0 x1 x2 x3 (law07_moved_0 x4 x5 x6 x7 x8 x9 x10 (plane_Depth_0 x0 x1 x2 x3 x4 x5 x6 x7 x8 x9 x10 x11)) (law07_moved_1 x4 x5 x6 x7 x8 x9 x10 (plane_Depth_0 x0 x1 x2 x3 x4 x5 x6 x7 x8 x9 x10 x11)) (law07_moved_2 x4 x5 x6 x7 x8 x9 x10 (plane_Depth_0 x0 x1 x2 x3 x4 x5 x6 x7 x8 x9 x10 x11)) (law07_moved_3 x4 x5 x6 x7 x8 x9 x10 (plane_Depth_0 x0 x1 x2 x3 x4 x5 x6 x7 x8 x9 x10 x11)) (law07_moved_4 x4 x5 x6 x7 x8 x9 x10 (plane_Depth_0 x0 x1 x2 x3 x4 x5 x6 x7 x8 x9 x10 x11)) (law07_moved_5 x4 x5 x6 x7 x8 x9 x10 (plane_Depth_0 x0 x1 x2 x3 x4 x5 x6 x7 x8 x9 x10 x11)) == 0 then (if plane_Side_0 x0 x1 x2 x3 (law07_moved_0 x4 x5 x6 x7 x8 x9 x10 (plane_Depth_0 x0 x1 x2 x3 x4 x5 x6 x7 x8 x9 x10 x11)) (law07_moved_1 x4 x5 x6 x7 x8 x9 x10 (plane_Depth_0 x0 x1 x2 x3 x4 x5 x6 x7 x8 x9 x10 x11)) (law07_moved_2 x4 x5 x6 x7 x8 x9 x10 (plane_Depth_0 x0 x1 x2 x3 x4 x5 x6 x7 x8 x9 x10 x11)) (law07_moved_3 x4 x5 x6 x7 x8 x9 x10 (plane_Depth_0 x0 x1 x2 x3 x4 x5 x6 x7 x8 x9 x10 x11)) (law07_moved_4 x4 x5 x6 x7 x8 x9 x10 (plane_Depth_0 x0 x1 x2 x3 x4 x5 x6 x7 x8 x9 x10 x11)) (law07_moved_5 x4 x5 x6 x7 x8 x9 x10 (plane_Depth_0 x0 x1 x2 x3 x4 x5 x6 x7 x8 x9 x10 x11)) != 1 then (Bool.true) else if law07_moved_ok x4 x5 x6 x7 x8 x9 x10 (IntKind.i64.wrap (plane_Depth_0 x0 x1 x2 x3 x4 x5 x6 x7 x8 x9 x10 x11 + 1)) then (Bool.true) else (Bool.false)) else if law07_moved_ok x4 x5 x6 x7 x8 x9 x10 (IntKind.i64.wrap (plane_Depth_0 x0 x1 x2 x3 x4 x5 x6 x7 x8 x9 x10 x11 + 1)) then (Bool.true) else (Bool.false)) else (Bool.false)) else (Bool.false)
def law07_PlaneMoves_0 (x0 x1 x2 x3 x4 x5 x6 x7 x8 x9 x10 x11 : Int) : Bool :=
  if plane_Depth_1 x0 x1 x2 x3 x4 x5 x6 x7 x8 x9 x10 x11 != 0 then (plane_Depth_0 x0 x1 x2 x3 x4 x5 x6 x7 x8 x9 x10 x11 == 0) else if Decidable.decide (plane_Depth_0 x0 x1 x2 x3 x4 x5 x6 x7 x8 x9 x10 x11 < 0) then (Bool.false) else if Decidable.decide (plane_Depth_0 x0 x1 x2 x3 x4 x5 x6 x7 x8 x9 x10 x11 > x11) then (Bool.false) else if Decidable.decide (x10 < 0) then (Bool.false) else if Decidable.decide (x10 > 5) then (Bool.false) else if plane_Side_1 x0 x1 x2 x3 (law07_moved_0 x4 x5 x6 x7 x8 x9 x10 (plane_Depth_0 x0 x1 x2 x3 x4 x5 x6 x7 x8 x9 x10 x11)) (law07_moved_1 x4 x5 x6 x7 x8 x9 x10 (plane_Depth_0 x0 x1 x2 x3 x4 x5 x6 x7 x8 x9 x10 x11)) (law07_moved_2 x4 x5 x6 x7 x8 x9 x10 (plane_Depth_0 x0 x1 x2 x3 x4 x5 x6 x7 x8 x9 x10 x11)) (law07_moved_3 x4 x5 x6 x7 x8 x9 x10 (plane_Depth_0 x0 x1 x2 x3 x4 x5 x6 x7 x8 x9 x10 x11)) (law07_moved_4 x4 x5 x6 x7 x8 x9 x10 (plane_Depth_0 x0 x1 x2 x3 x4 x5 x6 x7 x8 x9 x10 x11)) (law07_moved_5 x4 x5 x6 x7 x8 x9 x10 (plane_Depth_0 x0 x1 x2 x3 x4 x5 x6 x7 x8 x9 x10 x11)) == 0 then (if plane_Side_0 x0 x1 x2 x3 (law07_moved_0 x4 x5 x6 x7 x8 x9 x10 (plane_Depth_0 x0 x1 x2 x3 x4 x5 x6 x7 x8 x9 x10 x11)) (law07_moved_1 x4 x5 x6 x7 x8 x9 x10 (plane_Depth_0 x0 x1 x2 x3 x4 x5 x6 x7 x8 x9 x10 x11)) (law07_moved_2 x4 x5 x6 x7 x8 x9 x10 (plane_Depth_0 x0 x1 x2 x3 x4 x5 x6 x7 x8 x9 x10 x11)) (law07_moved_3 x4 x5 x6 x7 x8 x9 x10 (plane_Depth_0 x0 x1 x2 x3 x4 x5 x6 x7 x8 x9 x10 x11)) (law07_moved_4 x4 x5 x6 x7 x8 x9 x10 (plane_Depth_0 x0 x1 x2 x3 x4 x5 x6 x7 x8 x9 x10 x11)) (law07_moved_5 x4 x5 x6 x7 x8 x9 x10 (plane_Depth_0 x0 x1 x2 x3 x4 x5 x6 x7 x8 x9 x10 x11)) != 1 then (Bool.false) else if plane_Depth_0 x0 x1 x2 x3 x4 x5 x6 x7 x8 x9 x10 x11 == x11 then (Bool.true) else if plane_Side_1 x0 x1 x2 x3 (law07_moved_0 x4 x5 x6 x7 x8 x9 x10 (IntKind.i64.wrap (plane_Depth_0 x0 x1 x2 x3 x4 x5 x6 x7 x8 x9 x10 x11 + 1))) (law07_moved_1 x4 x5 x6 x7 x8 x9 x10 (IntKind.i64.wrap (plane_Depth_0 x0 x1 x2 x3 x4 x5 x6 x7 x8 x9 x10 x11 + 1))) (law07_moved_2 x4 x5 x6 x7 x8 x9 x10 (IntKind.i64.wrap (plane_Depth_0 x0 x1 x2 x3 x4 x5 x6 x7 x8 x9 x10 x11 + 1))) (law07_moved_3 x4 x5 x6 x7 x8 x9 x10 (IntKind.i64.wrap (plane_Depth_0 x0 x1 x2 x3 x4 x5 x6 x7 x8 x9 x10 x11 + 1))) (law07_moved_4 x4 x5 x6 x7 x8 x9 x10 (IntKind.i64.wrap (plane_Depth_0 x0 x1 x2 x3 x4 x5 x6 x7 x8 x9 x10 x11 + 1))) (law07_moved_5 x4 x5 x6 x7 x8 x9 x10 (IntKind.i64.wrap (plane_Depth_0 x0 x1 x2 x3 x4 x5 x6 x7 x8 x9 x10 x11 + 1))) != 0 then (Bool.true) else (plane_Side_0 x0 x1 x2 x3 (law07_moved_0 x4 x5 x6 x7 x8 x9 x10 (IntKind.i64.wrap (plane_Depth_0 x0 x1 x2 x3 x4 x5 x6 x7 x8 x9 x10 x11 + 1))) (law07_moved_1 x4 x5 x6 x7 x8 x9 x10 (IntKind.i64.wrap (plane_Depth_0 x0 x1 x2 x3 x4 x5 x6 x7 x8 x9 x10 x11 + 1))) (law07_moved_2 x4 x5 x6 x7 x8 x9 x10 (IntKind.i64.wrap (plane_Depth_0 x0 x1 x2 x3 x4 x5 x6 x7 x8 x9 x10 x11 + 1))) (law07_moved_3 x4 x5 x6 x7 x8 x9 x10 (IntKind.i64.wrap (plane_Depth_0 x0 x1 x2 x3 x4 x5 x6 x7 x8 x9 x10 x11 + 1))) (law07_moved_4 x4 x5 x6 x7 x8 x9 x10 (IntKind.i64.wrap (plane_Depth_0 x0 x1 x2 x3 x4 x5 x6 x7 x8 x9 x10 x11 + 1))) (law07_moved_5 x4 x5 x6 x7 x8 x9 x10 (IntKind.i64.wrap (plane_Depth_0 x0 x1 x2 x3 x4 x5 x6 x7 x8 x9 x10 x11 + 1))) != 1)) else if plane_Depth_0 x0 x1 x2 x3 x4 x5 x6 x7 x8 x9 x10 x11 == x11 then (Bool.true) else if plane_Side_1 x0 x1 x2 x3 (law07_moved_0 x4 x5 x6 x7 x8 x9 x10 (IntKind.i64.wrap (plane_Depth_0 x0 x1 x2 x3 x4 x5 x6 x7 x8 x9 x10 x11 + 1))) (law07_moved_1 x4 x5 x6 x7 x8 x9 x10 (IntKind.i64.wrap (plane_Depth_0 x0 x1 x2 x3 x4 x5 x6 x7 x8 x9 x10 x11 + 1))) (law07_moved_2 x4 x5 x6 x7 x8 x9 x10 (IntKind.i64.wrap (plane_Depth_0 x0 x1 x2 x3 x4 x5 x6 x7 x8 x9 x10 x11 + 1))) (law07_moved_3 x4 x5 x6 x7 x8 x9 x10 (IntKind.i64.wrap (plane_Depth_0 x0 x1 x2 x3 x4 x5 x6 x7 x8 x9 x10 x11 + 1))) (law07_moved_4 x4 x5 x6 x7 x8 x9 x10 (IntKind.i64.wrap (plane_Depth_0 x0 x1 x2 x3 x4 x5 x6 x7 x8 x9 x10 x11 + 1))) (law07_moved_5 x4 x5 x6 x7 x8 x9 x10 (IntKind.i64.wrap (plane_Depth_0 x0 x1 x2 x3 x4 x5 x6 x7 x8 x9 x10 x11 + 1))) != 0 then (Bool.true) else (plane_Side_0 x0 x1 x2 x3 (law07_moved_0 x4 x5 x6 x7 x8 x9 x10 (IntKind.i64.wrap (plane_Depth_0 x0 x1 x2 x3 x4 x5 x6 x7 x8 x9 x10 x11 + 1))) (law07_moved_1 x4 x5 x6 x7 x8 x9 x10 (IntKind.i64.wrap (plane_Depth_0 x0 x1 x2 x3 x4 x5 x6 x7 x8 x9 x10 x11 + 1))) (law07_moved_2 x4 x5 x6 x7 x8 x9 x10 (IntKind.i64.wrap (plane_Depth_0 x0 x1 x2 x3 x4 x5 x6 x7 x8 x9 x10 x11 + 1))) (law07_moved_3 x4 x5 x6 x7 x8 x9 x10 (IntKind.i64.wrap (plane_Depth_0 x0 x1 x2 x3 x4 x5 x6 x7 x8 x9 x10 x11 + 1))) (law07_moved_4 x4 x5 x6 x7 x8 x9 x10 (IntKind.i64.wrap (plane_Depth_0 x0 x1 x2 x3 x4 x5 x6 x7 x8 x9 x10 x11 + 1))) (law07_moved_5 x4 x5 x6 x7 x8 x9 x10 (IntKind.i64.wrap (plane_Depth_0 x0 x1 x2 x3 x4 x5 x6 x7 x8 x9 x10 x11 + 1))) != 1)
def ans11 : Array Value → Option (Bool × Value) := fun args => match args.toList with
  | [.agg c0, .agg c1, .int .i64 x10, .int .i64 x11] => match c0.toList, c1.toList with
    | [.int .i64 x0, .int .i64 x1, .int .i64 x2, .int .i64 x3], [.int .i64 x4, .int .i64 x5, .int .i64 x6, .int .i64 x7, .int .i64 x8, .int .i64 x9] => some (law07_PlaneMoves_ok x0 x1 x2 x3 x4 x5 x6 x7 x8 x9 x10 x11, .bool (law07_PlaneMoves_0 x0 x1 x2 x3 x4 x5 x6 x7 x8 x9 x10 x11))
    | _, _ => none
  | _ => none
def tab32 : Tab := (11, .cond ans11) :: tab31
def tree11 (x0 x1 x2 x3 x4 x5 x6 x7 x8 x9 x10 x11 : Int) : Tr Value :=
  .node 0 (plane_Depth_ok x0 x1 x2 x3 x4 x5 x6 x7 x8 x9 x10 x11)
  (.node 26 (plane_Depth_1 x0 x1 x2 x3 x4 x5 x6 x7 x8 x9 x10 x11 != 0)
   (.leaf (some (.bool (plane_Depth_0 x0 x1 x2 x3 x4 x5 x6 x7 x8 x9 x10 x11 == 0))))
   (.node 30 (Decidable.decide (plane_Depth_0 x0 x1 x2 x3 x4 x5 x6 x7 x8 x9 x10 x11 < 0))
    (.leaf (some (.bool (Bool.false))))
    (.node 34 (Decidable.decide (plane_Depth_0 x0 x1 x2 x3 x4 x5 x6 x7 x8 x9 x10 x11 > x11))
     (.leaf (some (.bool (Bool.false))))
     (.node 38 (Decidable.decide (x10 < 0))
      (.leaf (some (.bool (Bool.false))))
      (.node 42 (Decidable.decide (x10 > 5))
       (.leaf (some (.bool (Bool.false))))
       (.node 0 (law07_moved_ok x4 x5 x6 x7 x8 x9 x10 (plane_Depth_0 x0 x1 x2 x3 x4 x5 x6 x7 x8 x9 x10 x11))
        (.node 54 (plane_Side_1 x0 x1 x2 x3 (law07_moved_0 x4 x5 x6 x7 x8 x9 x10 (plane_Depth_0 x0 x1 x2 x3 x4 x5 x6 x7 x8 x9 x10 x11)) (law07_moved_1 x4 x5 x6 x7 x8 x9 x10 (plane_Depth_0 x0 x1 x2 x3 x4 x5 x6 x7 x8 x9 x10 x11)) (law07_moved_2 x4 x5 x6 x7 x8 x9 x10 (plane_Depth_0 x0 x1 x2 x3 x4 x5 x6 x7 x8 x9 x10 x11)) (law07_moved_3 x4 x5 x6 x7 x8 x9 x10 (plane_Depth_0 x0 x1 x2 x3 x4 x5 x6 x7 x8 x9 x10 x11)) (law07_moved_4 x4 x5 x6 x7 x8 x9 x10 (plane_Depth_0 x0 x1 x2 x3 x4 x5 x6 x7 x8 x9 x10 x11)) (law07_moved_5 x4 x5 x6 x7 x8 x9 x10 (plane_Depth_0 x0 x1 x2 x3 x4 x5 x6 x7 x8 x9 x10 x11)) == 0)
         (.node 57 (plane_Side_0 x0 x1 x2 x3 (law07_moved_0 x4 x5 x6 x7 x8 x9 x10 (plane_Depth_0 x0 x1 x2 x3 x4 x5 x6 x7 x8 x9 x10 x11)) (law07_moved_1 x4 x5 x6 x7 x8 x9 x10 (plane_Depth_0 x0 x1 x2 x3 x4 x5 x6 x7 x8 x9 x10 x11)) (law07_moved_2 x4 x5 x6 x7 x8 x9 x10 (plane_Depth_0 x0 x1 x2 x3 x4 x5 x6 x7 x8 x9 x10 x11)) (law07_moved_3 x4 x5 x6 x7 x8 x9 x10 (plane_Depth_0 x0 x1 x2 x3 x4 x5 x6 x7 x8 x9 x10 x11)) (law07_moved_4 x4 x5 x6 x7 x8 x9 x10 (plane_Depth_0 x0 x1 x2 x3 x4 x5 x6 x7 x8 x9 x10 x11)) (law07_moved_5 x4 x5 x6 x7 x8 x9 x10 (plane_Depth_0 x0 x1 x2 x3 x4 x5 x6 x7 x8 x9 x10 x11)) != 1)
          (.leaf (some (.bool (Bool.false))))
          (.node 0 (law07_moved_ok x4 x5 x6 x7 x8 x9 x10 (IntKind.i64.wrap (plane_Depth_0 x0 x1 x2 x3 x4 x5 x6 x7 x8 x9 x10 x11 + 1)))
           (.node 71 (plane_Depth_0 x0 x1 x2 x3 x4 x5 x6 x7 x8 x9 x10 x11 == x11)
            (.leaf (some (.bool (Bool.true))))
            (.node 74 (plane_Side_1 x0 x1 x2 x3 (law07_moved_0 x4 x5 x6 x7 x8 x9 x10 (IntKind.i64.wrap (plane_Depth_0 x0 x1 x2 x3 x4 x5 x6 x7 x8 x9 x10 x11 + 1))) (law07_moved_1 x4 x5 x6 x7 x8 x9 x10 (IntKind.i64.wrap (plane_Depth_0 x0 x1 x2 x3 x4 x5 x6 x7 x8 x9 x10 x11 + 1))) (law07_moved_2 x4 x5 x6 x7 x8 x9 x10 (IntKind.i64.wrap (plane_Depth_0 x0 x1 x2 x3 x4 x5 x6 x7 x8 x9 x10 x11 + 1))) (law07_moved_3 x4 x5 x6 x7 x8 x9 x10 (IntKind.i64.wrap (plane_Depth_0 x0 x1 x2 x3 x4 x5 x6 x7 x8 x9 x10 x11 + 1))) (law07_moved_4 x4 x5 x6 x7 x8 x9 x10 (IntKind.i64.wrap (plane_Depth_0 x0 x1 x2 x3 x4 x5 x6 x7 x8 x9 x10 x11 + 1))) (law07_moved_5 x4 x5 x6 x7 x8 x9 x10 (IntKind.i64.wrap (plane_Depth_0 x0 x1 x2 x3 x4 x5 x6 x7 x8 x9 x10 x11 + 1))) != 0)
             (.leaf (some (.bool (Bool.true))))
             (.leaf (some (.bool (plane_Side_0 x0 x1 x2 x3 (law07_moved_0 x4 x5 x6 x7 x8 x9 x10 (IntKind.i64.wrap (plane_Depth_0 x0 x1 x2 x3 x4 x5 x6 x7 x8 x9 x10 x11 + 1))) (law07_moved_1 x4 x5 x6 x7 x8 x9 x10 (IntKind.i64.wrap (plane_Depth_0 x0 x1 x2 x3 x4 x5 x6 x7 x8 x9 x10 x11 + 1))) (law07_moved_2 x4 x5 x6 x7 x8 x9 x10 (IntKind.i64.wrap (plane_Depth_0 x0 x1 x2 x3 x4 x5 x6 x7 x8 x9 x10 x11 + 1))) (law07_moved_3 x4 x5 x6 x7 x8 x9 x10 (IntKind.i64.wrap (plane_Depth_0 x0 x1 x2 x3 x4 x5 x6 x7 x8 x9 x10 x11 + 1))) (law07_moved_4 x4 x5 x6 x7 x8 x9 x10 (IntKind.i64.wrap (plane_Depth_0 x0 x1 x2 x3 x4 x5 x6 x7 x8 x9 x10 x11 + 1))) (law07_moved_5 x4 x5 x6 x7 x8 x9 x10 (IntKind.i64.wrap (plane_Depth_0 x0 x1 x2 x3 x4 x5 x6 x7 x8 x9 x10 x11 + 1))) != 1))))))
           (.leaf none)))
         (.node 0 (law07_moved_ok x4 x5 x6 x7 x8 x9 x10 (IntKind.i64.wrap (plane_Depth_0 x0 x1 x2 x3 x4 x5 x6 x7 x8 x9 x10 x11 + 1)))
          (.node 71 (plane_Depth_0 x0 x1 x2 x3 x4 x5 x6 x7 x8 x9 x10 x11 == x11)
           (.leaf (some (.bool (Bool.true))))
           (.node 74 (plane_Side_1 x0 x1 x2 x3 (law07_moved_0 x4 x5 x6 x7 x8 x9 x10 (IntKind.i64.wrap (plane_Depth_0 x0 x1 x2 x3 x4 x5 x6 x7 x8 x9 x10 x11 + 1))) (law07_moved_1 x4 x5 x6 x7 x8 x9 x10 (IntKind.i64.wrap (plane_Depth_0 x0 x1 x2 x3 x4 x5 x6 x7 x8 x9 x10 x11 + 1))) (law07_moved_2 x4 x5 x6 x7 x8 x9 x10 (IntKind.i64.wrap (plane_Depth_0 x0 x1 x2 x3 x4 x5 x6 x7 x8 x9 x10 x11 + 1))) (law07_moved_3 x4 x5 x6 x7 x8 x9 x10 (IntKind.i64.wrap (plane_Depth_0 x0 x1 x2 x3 x4 x5 x6 x7 x8 x9 x10 x11 + 1))) (law07_moved_4 x4 x5 x6 x7 x8 x9 x10 (IntKind.i64.wrap (plane_Depth_0 x0 x1 x2 x3 x4 x5 x6 x7 x8 x9 x10 x11 + 1))) (law07_moved_5 x4 x5 x6 x7 x8 x9 x10 (IntKind.i64.wrap (plane_Depth_0 x0 x1 x2 x3 x4 x5 x6 x7 x8 x9 x10 x11 + 1))) != 0)
            (.leaf (some (.bool (Bool.true))))
            (.leaf (some (.bool (plane_Side_0 x0 x1 x2 x3 (law07_moved_0 x4 x5 x6 x7 x8 x9 x10 (IntKind.i64.wrap (plane_Depth_0 x0 x1 x2 x3 x4 x5 x6 x7 x8 x9 x10 x11 + 1))) (law07_moved_1 x4 x5 x6 x7 x8 x9 x10 (IntKind.i64.wrap (plane_Depth_0 x0 x1 x2 x3 x4 x5 x6 x7 x8 x9 x10 x11 + 1))) (law07_moved_2 x4 x5 x6 x7 x8 x9 x10 (IntKind.i64.wrap (plane_Depth_0 x0 x1 x2 x3 x4 x5 x6 x7 x8 x9 x10 x11 + 1))) (law07_moved_3 x4 x5 x6 x7 x8 x9 x10 (IntKind.i64.wrap (plane_Depth_0 x0 x1 x2 x3 x4 x5 x6 x7 x8 x9 x10 x11 + 1))) (law07_moved_4 x4 x5 x6 x7 x8 x9 x10 (IntKind.i64.wrap (plane_Depth_0 x0 x1 x2 x3 x4 x5 x6 x7 x8 x9 x10 x11 + 1))) (law07_moved_5 x4 x5 x6 x7 x8 x9 x10 (IntKind.i64.wrap (plane_Depth_0 x0 x1 x2 x3 x4 x5 x6 x7 x8 x9 x10 x11 + 1))) != 1))))))
          (.leaf none)))
        (.leaf none)))))))
  (.leaf none)
theorem tree11_eq (x0 x1 x2 x3 x4 x5 x6 x7 x8 x9 x10 x11 : Int) : vals (evFnT Try.prog (tb Try.prog tab31) (tbT Try.prog tab31) ⟨[(26, 0), (30, 0), (34, 0), (38, 0), (42, 0), (54, 0), (57, 0), (71, 0), (74, 0)], [], []⟩ noLoops 300 11 #[.agg #[.int .i64 x0, .int .i64 x1, .int .i64 x2, .int .i64 x3], .agg #[.int .i64 x4, .int .i64 x5, .int .i64 x6, .int .i64 x7, .int .i64 x8, .int .i64 x9], .int .i64 x10, .int .i64 x11] []) = tree11 x0 x1 x2 x3 x4 x5 x6 x7 x8 x9 x10 x11 := by kernel_rfl
theorem tree11_res (x0 x1 x2 x3 x4 x5 x6 x7 x8 x9 x10 x11 : Int) : (tree11 x0 x1 x2 x3 x4 x5 x6 x7 x8 x9 x10 x11).res = if law07_PlaneMoves_ok x0 x1 x2 x3 x4 x5 x6 x7 x8 x9 x10 x11 = true then some (.bool (law07_PlaneMoves_0 x0 x1 x2 x3 x4 x5 x6 x7 x8 x9 x10 x11)) else none := by
  unfold tree11 law07_PlaneMoves_ok law07_PlaneMoves_0
  simp only [Tr.res]
  generalize (plane_Depth_ok x0 x1 x2 x3 x4 x5 x6 x7 x8 x9 x10 x11) = b0
  generalize (plane_Depth_1 x0 x1 x2 x3 x4 x5 x6 x7 x8 x9 x10 x11 != 0) = b1
  generalize (Decidable.decide (plane_Depth_0 x0 x1 x2 x3 x4 x5 x6 x7 x8 x9 x10 x11 < 0)) = b2
  generalize (Decidable.decide (plane_Depth_0 x0 x1 x2 x3 x4 x5 x6 x7 x8 x9 x10 x11 > x11)) = b3
  generalize (Decidable.decide (x10 < 0)) = b4
  generalize (Decidable.decide (x10 > 5)) = b5
  generalize (law07_moved_ok x4 x5 x6 x7 x8 x9 x10 (plane_Depth_0 x0 x1 x2 x3 x4 x5 x6 x7 x8 x9 x10 x11)) = b6
  generalize (plane_Side_1 x0 x1 x2 x3 (law07_moved_0 x4 x5 x6 x7 x8 x9 x10 (plane_Depth_0 x0 x1 x2 x3 x4 x5 x6 x7 x8 x9 x10 x11)) (law07_moved_1 x4 x5 x6 x7 x8 x9 x10 (plane_Depth_0 x0 x1 x2 x3 x4 x5 x6 x7 x8 x9 x10 x11)) (law07_moved_2 x4 x5 x6 x7 x8 x9 x10 (plane_Depth_0 x0 x1 x2 x3 x4 x5 x6 x7 x8 x9 x10 x11)) (law07_moved_3 x4 x5 x6 x7 x8 x9 x10 (plane_Depth_0 x0 x1 x2 x3 x4 x5 x6 x7 x8 x9 x10 x11)) (law07_moved_4 x4 x5 x6 x7 x8 x9 x10 (plane_Depth_0 x0 x1 x2 x3 x4 x5 x6 x7 x8 x9 x10 x11)) (law07_moved_5 x4 x5 x6 x7 x8 x9 x10 (plane_Depth_0 x0 x1 x2 x3 x4 x5 x6 x7 x8 x9 x10 x11)) == 0) = b7
  generalize (plane_Side_0 x0 x1 x2 x3 (law07_moved_0 x4 x5 x6 x7 x8 x9 x10 (plane_Depth_0 x0 x1 x2 x3 x4 x5 x6 x7 x8 x9 x10 x11)) (law07_moved_1 x4 x5 x6 x7 x8 x9 x10 (plane_Depth_0 x0 x1 x2 x3 x4 x5 x6 x7 x8 x9 x10 x11)) (law07_moved_2 x4 x5 x6 x7 x8 x9 x10 (plane_Depth_0 x0 x1 x2 x3 x4 x5 x6 x7 x8 x9 x10 x11)) (law07_moved_3 x4 x5 x6 x7 x8 x9 x10 (plane_Depth_0 x0 x1 x2 x3 x4 x5 x6 x7 x8 x9 x10 x11)) (law07_moved_4 x4 x5 x6 x7 x8 x9 x10 (plane_Depth_0 x0 x1 x2 x3 x4 x5 x6 x7 x8 x9 x10 x11)) (law07_moved_5 x4 x5 x6 x7 x8 x9 x10 (plane_Depth_0 x0 x1 x2 x3 x4 x5 x6 x7 x8 x9 x10 x11)) != 1) = b8
  generalize (law07_moved_ok x4 x5 x6 x7 x8 x9 x10 (IntKind.i64.wrap (plane_Depth_0 x0 x1 x2 x3 x4 x5 x6 x7 x8 x9 x10 x11 + 1))) = b9
  generalize (plane_Depth_0 x0 x1 x2 x3 x4 x5 x6 x7 x8 x9 x10 x11 == x11) = b10
  generalize (plane_Side_1 x0 x1 x2 x3 (law07_moved_0 x4 x5 x6 x7 x8 x9 x10 (IntKind.i64.wrap (plane_Depth_0 x0 x1 x2 x3 x4 x5 x6 x7 x8 x9 x10 x11 + 1))) (law07_moved_1 x4 x5 x6 x7 x8 x9 x10 (IntKind.i64.wrap (plane_Depth_0 x0 x1 x2 x3 x4 x5 x6 x7 x8 x9 x10 x11 + 1))) (law07_moved_2 x4 x5 x6 x7 x8 x9 x10 (IntKind.i64.wrap (plane_Depth_0 x0 x1 x2 x3 x4 x5 x6 x7 x8 x9 x10 x11 + 1))) (law07_moved_3 x4 x5 x6 x7 x8 x9 x10 (IntKind.i64.wrap (plane_Depth_0 x0 x1 x2 x3 x4 x5 x6 x7 x8 x9 x10 x11 + 1))) (law07_moved_4 x4 x5 x6 x7 x8 x9 x10 (IntKind.i64.wrap (plane_Depth_0 x0 x1 x2 x3 x4 x5 x6 x7 x8 x9 x10 x11 + 1))) (law07_moved_5 x4 x5 x6 x7 x8 x9 x10 (IntKind.i64.wrap (plane_Depth_0 x0 x1 x2 x3 x4 x5 x6 x7 x8 x9 x10 x11 + 1))) != 0) = b11
  cases b0 with
  | true =>
   cases b1 with
   | true =>
    first | (simp only [if_true, Bool.false_eq_true, if_false]; done) | rfl
   | false =>
    cases b2 with
    | true =>
     first | (simp only [if_true, Bool.false_eq_true, if_false]; done) | rfl
    | false =>
     cases b3 with
     | true =>
      first | (simp only [if_true, Bool.false_eq_true, if_false]; done) | rfl
     | false =>
      cases b4 with
      | true =>
       first | (simp only [if_true, Bool.false_eq_true, if_false]; done) | rfl
      | false =>
       cases b5 with
       | true =>
        first | (simp only [if_true, Bool.false_eq_true, if_false]; done) | rfl
       | false =>
        cases b6 with
        | true =>
         cases b7 with
         | true =>
          cases b8 with
          | true =>
           first | (simp only [if_true, Bool.false_eq_true, if_false]; done) | rfl
          | false =>
           cases b9 with
           | true =>
            cases b10 with
            | true =>
             first | (simp only [if_true, Bool.false_eq_true, if_false]; done) | rfl
            | false =>
             cases b11 with
             | true =>
              first | (simp only [if_true, Bool.false_eq_true, if_false]; done) | rfl
             | false =>
              first | (simp only [if_true, Bool.false_eq_true, if_false]; done) | rfl
           | false =>
            first | (simp only [if_true, Bool.false_eq_true, if_false]; done) | rfl
         | false =>
          cases b9 with
          | true =>
           cases b10 with
           | true =>
            first | (simp only [if_true, Bool.false_eq_true, if_false]; done) | rfl
           | false =>
            cases b11 with
            | true =>
             first | (simp only [if_true, Bool.false_eq_true, if_false]; done) | rfl
            | false =>
             first | (simp only [if_true, Bool.false_eq_true, if_false]; done) | rfl
          | false =>
           first | (simp only [if_true, Bool.false_eq_true, if_false]; done) | rfl
        | false =>
         first | (simp only [if_true, Bool.false_eq_true, if_false]; done) | rfl
  | false =>
   first | (simp only [if_true, Bool.false_eq_true, if_false]; done) | rfl
theorem tab32_ok : TabOk Try.prog tab32 := tab_cond mixed tab31_ok (by decide) fun args b v h hb => by
  unfold ans11 at h
  split at h
  · rename_i c0 c1 x10 x11 h0
    split at h
    · rename_i x0 x1 x2 x3 x4 x5 x6 x7 x8 x9 k1 k2
      injection h with h; injection h with h1 h2; subst h1 h2
      obtain rfl : c0 = #[.int .i64 x0, .int .i64 x1, .int .i64 x2, .int .i64 x3] := by rw [← Array.toArray_toList (xs := c0), k1]
      obtain rfl : c1 = #[.int .i64 x4, .int .i64 x5, .int .i64 x6, .int .i64 x7, .int .i64 x8, .int .i64 x9] := by rw [← Array.toArray_toList (xs := c1), k2]
      obtain rfl : args = #[.agg #[.int .i64 x0, .int .i64 x1, .int .i64 x2, .int .i64 x3], .agg #[.int .i64 x4, .int .i64 x5, .int .i64 x6, .int .i64 x7, .int .i64 x8, .int .i64 x9], .int .i64 x10, .int .i64 x11] := by rw [← Array.toArray_toList (xs := args), h0]
      exact ⟨rfl, rfl, ⟨[(26, 0), (30, 0), (34, 0), (38, 0), (42, 0), (54, 0), (57, 0), (71, 0), (74, 0)], [], []⟩, 300, by rw [tree11_eq, tree11_res, if_pos hb]⟩
    · cases h
  · cases h
end Go.Proofs.Ytkllldhkikmbbaa.Vx
