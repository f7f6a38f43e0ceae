/- The answers of the functions of the package and of its reference, read off their texts. -/
import Derived.Test.YtkllldhkikmbbaaTH
namespace Go.Proofs.Ytkllldhkikmbbaa.Vx
open Go Go.RowKit Go.Proofs
set_option maxRecDepth 100000
set_option linter.unusedVariables false
set_option linter.unusedSimpArgs false

/- gangsaw/gangsawlaw07.PlaneDepths -/
def law07_PlaneDepths_ok (x0 x1 x2 x3 x4 x5 x6 x7 x8 x9 x10 x11 : Int) : Bool :=
  if plane_Depth_ok x0 x1 x2 x3 x4 x5 x6 x7 x8 x9 x10 x11 then (if ref07_Valid_0 x0 x1 x2 x3 x4 x5 x6 x7 x8 x9 != 0 then (Bool.true) else if Decidable.decide (x10 < 0) then (Bool.true) else if Decidable.decide (x10 > 5) then (Bool.true) else if Decidable.decide (x11 < 0) then (Bool.true) else if Decidable.decide (x11 > 1000000) then (Bool.true) else if ref07_Side_0 x0 x1 x2 x3 x4 x5 x6 x7 x8 x9 != 1 then (Bool.true) else if plane_Depth_1 x0 x1 x2 x3 x4 x5 x6 x7 x8 x9 x10 x11 == 0 then (if ref07_Depth_ok x0 x1 x2 x3 x4 x5 x6 x7 x8 x9 x10 x11 then (Bool.true) else (Bool.false)) else (Bool.true)) else (Bool.false)
def law07_PlaneDepths_0 (x0 x1 x2 x3 x4 x5 x6 x7 x8 x9 x10 x11 : Int) : Bool :=
  if ref07_Valid_0 x0 x1 x2 x3 x4 x5 x6 x7 x8 x9 != 0 then (if plane_Depth_1 x0 x1 x2 x3 x4 x5 x6 x7 x8 x9 x10 x11 == ref07_Valid_0 x0 x1 x2 x3 x4 x5 x6 x7 x8 x9 then (plane_Depth_0 x0 x1 x2 x3 x4 x5 x6 x7 x8 x9 x10 x11 == 0) else (Bool.false)) else if Decidable.decide (x10 < 0) then (if plane_Depth_1 x0 x1 x2 x3 x4 x5 x6 x7 x8 x9 x10 x11 == 6 then (plane_Depth_0 x0 x1 x2 x3 x4 x5 x6 x7 x8 x9 x10 x11 == 0) else (Bool.false)) else if Decidable.decide (x10 > 5) then (if plane_Depth_1 x0 x1 x2 x3 x4 x5 x6 x7 x8 x9 x10 x11 == 6 then (plane_Depth_0 x0 x1 x2 x3 x4 x5 x6 x7 x8 x9 x10 x11 == 0) else (Bool.false)) else if Decidable.decide (x11 < 0) then (if plane_Depth_1 x0 x1 x2 x3 x4 x5 x6 x7 x8 x9 x10 x11 == 6 then (plane_Depth_0 x0 x1 x2 x3 x4 x5 x6 x7 x8 x9 x10 x11 == 0) else (Bool.false)) else if Decidable.decide (x11 > 1000000) then (if plane_Depth_1 x0 x1 x2 x3 x4 x5 x6 x7 x8 x9 x10 x11 == 6 then (plane_Depth_0 x0 x1 x2 x3 x4 x5 x6 x7 x8 x9 x10 x11 == 0) else (Bool.false)) else if ref07_Side_0 x0 x1 x2 x3 x4 x5 x6 x7 x8 x9 != 1 then (if plane_Depth_1 x0 x1 x2 x3 x4 x5 x6 x7 x8 x9 x10 x11 == 8 then (plane_Depth_0 x0 x1 x2 x3 x4 x5 x6 x7 x8 x9 x10 x11 == 0) else (Bool.false)) else if plane_Depth_1 x0 x1 x2 x3 x4 x5 x6 x7 x8 x9 x10 x11 == 0 then (plane_Depth_0 x0 x1 x2 x3 x4 x5 x6 x7 x8 x9 x10 x11 == ref07_Depth_0 x0 x1 x2 x3 x4 x5 x6 x7 x8 x9 x10 x11) else (Bool.false)
def ans7 : Array Value → Option (Bool × Value) := fun args => match args.toList with
  | [.agg c0, .agg c1, .int .i64 x10, .int .i64 x11] => match c0.toList, c1.toList with
    | [.int .i64 x0, .int .i64 x1, .int .i64 x2, .int .i64 x3], [.int .i64 x4, .int .i64 x5, .int .i64 x6, .int .i64 x7, .int .i64 x8, .int .i64 x9] => some (law07_PlaneDepths_ok x0 x1 x2 x3 x4 x5 x6 x7 x8 x9 x10 x11, .bool (law07_PlaneDepths_0 x0 x1 x2 x3 x4 x5 x6 x7 x8 x9 x10 x11))
    | _, _ => none
  | _ => none
def tab32 : Tab := (7, .cond ans7) :: tab31
def tree7 (x0 x1 x2 x3 x4 x5 x6 x7 x8 x9 x10 x11 : Int) : Tr Value :=
  .node 0 (plane_Depth_ok x0 x1 x2 x3 x4 x5 x6 x7 x8 x9 x10 x11)
  (.node 26 (ref07_Valid_0 x0 x1 x2 x3 x4 x5 x6 x7 x8 x9 != 0)
   (.node 29 (plane_Depth_1 x0 x1 x2 x3 x4 x5 x6 x7 x8 x9 x10 x11 == ref07_Valid_0 x0 x1 x2 x3 x4 x5 x6 x7 x8 x9)
    (.leaf (some (.bool (plane_Depth_0 x0 x1 x2 x3 x4 x5 x6 x7 x8 x9 x10 x11 == 0))))
    (.leaf (some (.bool (Bool.false)))))
   (.node 35 (Decidable.decide (x10 < 0))
    (.node 49 (plane_Depth_1 x0 x1 x2 x3 x4 x5 x6 x7 x8 x9 x10 x11 == 6)
     (.leaf (some (.bool (plane_Depth_0 x0 x1 x2 x3 x4 x5 x6 x7 x8 x9 x10 x11 == 0))))
     (.leaf (some (.bool (Bool.false)))))
    (.node 38 (Decidable.decide (x10 > 5))
     (.node 49 (plane_Depth_1 x0 x1 x2 x3 x4 x5 x6 x7 x8 x9 x10 x11 == 6)
      (.leaf (some (.bool (plane_Depth_0 x0 x1 x2 x3 x4 x5 x6 x7 x8 x9 x10 x11 == 0))))
      (.leaf (some (.bool (Bool.false)))))
     (.node 42 (Decidable.decide (x11 < 0))
      (.node 49 (plane_Depth_1 x0 x1 x2 x3 x4 x5 x6 x7 x8 x9 x10 x11 == 6)
       (.leaf (some (.bool (plane_Depth_0 x0 x1 x2 x3 x4 x5 x6 x7 x8 x9 x10 x11 == 0))))
       (.leaf (some (.bool (Bool.false)))))
      (.node 46 (Decidable.decide (x11 > 1000000))
       (.node 49 (plane_Depth_1 x0 x1 x2 x3 x4 x5 x6 x7 x8 x9 x10 x11 == 6)
        (.leaf (some (.bool (plane_Depth_0 x0 x1 x2 x3 x4 x5 x6 x7 x8 x9 x10 x11 == 0))))
        (.leaf (some (.bool (Bool.false)))))
       (.node 57 (ref07_Side_0 x0 x1 x2 x3 x4 x5 x6 x7 x8 x9 != 1)
        (.node 59 (plane_Depth_1 x0 x1 x2 x3 x4 x5 x6 x7 x8 x9 x10 x11 == 8)
         (.leaf (some (.bool (plane_Depth_0 x0 x1 x2 x3 x4 x5 x6 x7 x8 x9 x10 x11 == 0))))
         (.leaf (some (.bool (Bool.false)))))
        (.node 65 (plane_Depth_1 x0 x1 x2 x3 x4 x5 x6 x7 x8 x9 x10 x11 == 0)
         (.node 0 (ref07_Depth_ok x0 x1 x2 x3 x4 x5 x6 x7 x8 x9 x10 x11)
          (.leaf (some (.bool (plane_Depth_0 x0 x1 x2 x3 x4 x5 x6 x7 x8 x9 x10 x11 == ref07_Depth_0 x0 x1 x2 x3 x4 x5 x6 x7 x8 x9 x10 x11))))
          (.leaf none))
         (.leaf (some (.bool (Bool.false)))))))))))
  (.leaf none)
theorem tree7_eq (x0 x1 x2 x3 x4 x5 x6 x7 x8 x9 x10 x11 : Int) : vals (evFnT Try.prog (tb Try.prog tab31) (tbT Try.prog tab31) ⟨[(26, 0), (29, 0), (35, 0), (38, 0), (42, 0), (46, 0), (49, 0), (57, 0), (59, 0), (65, 0)], [], []⟩ noLoops 300 7 #[.agg #[.int .i64 x0, .int .i64 x1, .int .i64 x2, .int .i64 x3], .agg #[.int .i64 x4, .int .i64 x5, .int .i64 x6, .int .i64 x7, .int .i64 x8, .int .i64 x9], .int .i64 x10, .int .i64 x11] []) = tree7 x0 x1 x2 x3 x4 x5 x6 x7 x8 x9 x10 x11 := by kernel_rfl
theorem tree7_res (x0 x1 x2 x3 x4 x5 x6 x7 x8 x9 x10 x11 : Int) : (tree7 x0 x1 x2 x3 x4 x5 x6 x7 x8 x9 x10 x11).res = if law07_PlaneDepths_ok x0 x1 x2 x3 x4 x5 x6 x7 x8 x9 x10 x11 = true then some (.bool (law07_PlaneDepths_0 x0 x1 x2 x3 x4 x5 x6 x7 x8 x9 x10 x11)) else none := by
  unfold tree7 law07_PlaneDepths_ok law07_PlaneDepths_0
  simp only [Tr.res]
  generalize (plane_Depth_ok x0 x1 x2 x3 x4 x5 x6 x7 x8 x9 x10 x11) = b0
  generalize (ref07_Valid_0 x0 x1 x2 x3 x4 x5 x6 x7 x8 x9 != 0) = b1
  generalize (plane_Depth_1 x0 x1 x2 x3 x4 x5 x6 x7 x8 x9 x10 x11 == ref07_Valid_0 x0 x1 x2 x3 x4 x5 x6 x7 x8 x9) = b2
  generalize (Decidable.decide (x10 < 0)) = b3
  generalize (plane_Depth_1 x0 x1 x2 x3 x4 x5 x6 x7 x8 x9 x10 x11 == 6) = b4
  generalize (Decidable.decide (x10 > 5)) = b5
  generalize (Decidable.decide (x11 < 0)) = b6
  generalize (Decidable.decide (x11 > 1000000)) = b7
  generalize (ref07_Side_0 x0 x1 x2 x3 x4 x5 x6 x7 x8 x9 != 1) = b8
  generalize (plane_Depth_1 x0 x1 x2 x3 x4 x5 x6 x7 x8 x9 x10 x11 == 8) = b9
  generalize (plane_Depth_1 x0 x1 x2 x3 x4 x5 x6 x7 x8 x9 x10 x11 == 0) = b10
  generalize (ref07_Depth_ok x0 x1 x2 x3 x4 x5 x6 x7 x8 x9 x10 x11) = b11
  cases b0 with
  | true =>
   cases b1 with
   | true =>
    cases b2 with
    | true =>
     first | (simp only [if_true, Bool.false_eq_true, if_false]; done) | rfl
    | false =>
     first | (simp only [if_true, Bool.false_eq_true, if_false]; done) | rfl
   | false =>
    cases b3 with
    | true =>
     cases b4 with
     | true =>
      first | (simp only [if_true, Bool.false_eq_true, if_false]; done) | rfl
     | false =>
      first | (simp only [if_true, Bool.false_eq_true, if_false]; done) | rfl
    | false =>
     cases b5 with
     | true =>
      cases b4 with
      | true =>
       first | (simp only [if_true, Bool.false_eq_true, if_false]; done) | rfl
      | false =>
       first | (simp only [if_true, Bool.false_eq_true, if_false]; done) | rfl
     | false =>
      cases b6 with
      | true =>
       cases b4 with
       | true =>
        first | (simp only [if_true, Bool.false_eq_true, if_false]; done) | rfl
       | false =>
        first | (simp only [if_true, Bool.false_eq_true, if_false]; done) | rfl
      | false =>
       cases b7 with
       | true =>
        cases b4 with
        | true =>
         first | (simp only [if_true, Bool.false_eq_true, if_false]; done) | rfl
        | false =>
         first | (simp only [if_true, Bool.false_eq_true, if_false]; done) | rfl
       | false =>
        cases b8 with
        | true =>
         cases b9 with
         | true =>
          first | (simp only [if_true, Bool.false_eq_true, if_false]; done) | rfl
         | false =>
          first | (simp only [if_true, Bool.false_eq_true, if_false]; done) | rfl
        | false =>
         cases b10 with
         | true =>
          cases b11 with
          | true =>
           first | (simp only [if_true, Bool.false_eq_true, if_false]; done) | rfl
          | false =>
           first | (simp only [if_true, Bool.false_eq_true, if_false]; done) | rfl
         | false =>
          first | (simp only [if_true, Bool.false_eq_true, if_false]; done) | rfl
  | false =>
   first | (simp only [if_true, Bool.false_eq_true, if_false]; done) | rfl
theorem tab32_ok : TabOk Try.prog tab32 := tab_cond mixed tab31_ok (by decide) fun args b v h hb => by
  unfold ans7 at h
  split at h
  · rename_i c0 c1 x10 x11 h0
    split at h
    · rename_i x0 x1 x2 x3 x4 x5 x6 x7 x8 x9 k1 k2
      injection h with h; injection h with h1 h2; subst h1 h2
      obtain rfl : c0 = #[.int .i64 x0, .int .i64 x1, .int .i64 x2, .int .i64 x3] := by rw [← Array.toArray_toList (xs := c0), k1]
      obtain rfl : c1 = #[.int .i64 x4, .int .i64 x5, .int .i64 x6, .int .i64 x7, .int .i64 x8, .int .i64 x9] := by rw [← Array.toArray_toList (xs := c1), k2]
      obtain rfl : args = #[.agg #[.int .i64 x0, .int .i64 x1, .int .i64 x2, .int .i64 x3], .agg #[.int .i64 x4, .int .i64 x5, .int .i64 x6, .int .i64 x7, .int .i64 x8, .int .i64 x9], .int .i64 x10, .int .i64 x11] := by rw [← Array.toArray_toList (xs := args), h0]
      exact ⟨rfl, rfl, ⟨[(26, 0), (29, 0), (35, 0), (38, 0), (42, 0), (46, 0), (49, 0), (57, 0), (59, 0), (65, 0)], [], []⟩, 300, by rw [tree7_eq, tree7_res, if_pos hb]⟩
    · cases h
  · cases h
end Go.Proofs.Ytkllldhkikmbbaa.Vx
