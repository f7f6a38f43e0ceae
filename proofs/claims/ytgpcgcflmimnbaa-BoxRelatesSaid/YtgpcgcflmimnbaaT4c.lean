/- The answers of the functions of the package and of its reference, read off their texts. -/
import Derived.Test.YtgpcgcflmimnbaaT4b
namespace Go.Proofs.Ytgpcgcflmimnbaa.Vx
open Go Go.RowKit Go.Proofs
set_option maxRecDepth 100000
set_option linter.unusedVariables false
set_option linter.unusedSimpArgs false

/- gangsaw/gangsawlaw06.BoxRelates -/
def law06_BoxRelates_0 (x0 x1 x2 x3 x4 x5 x6 x7 x8 x9 x10 x11 x12 x13 x14 : Int) : Bool :=
  if !box_Has_0 x0 x1 x2 x3 x4 x5 x12 x13 x14 == ref06_Has_0 x0 x1 x2 x3 x4 x5 x12 x13 x14 then (Bool.false) else if !box_Inside_0 x0 x1 x2 x3 x4 x5 x6 x7 x8 x9 x10 x11 == ref06_Inside_0 x0 x1 x2 x3 x4 x5 x6 x7 x8 x9 x10 x11 then (Bool.false) else if !box_Overlap_0 x0 x1 x2 x3 x4 x5 x6 x7 x8 x9 x10 x11 == ref06_Overlap_0 x0 x1 x2 x3 x4 x5 x6 x7 x8 x9 x10 x11 then (Bool.false) else if law06_both_0 x0 x1 x2 x3 x4 x5 x6 x7 x8 x9 x10 x11 != 0 then (if box_Touch_1 x0 x1 x2 x3 x4 x5 x6 x7 x8 x9 x10 x11 == law06_both_0 x0 x1 x2 x3 x4 x5 x6 x7 x8 x9 x10 x11 then (if box_Touch_0 x0 x1 x2 x3 x4 x5 x6 x7 x8 x9 x10 x11 == 0 then (Bool.true) else (Bool.false)) else (Bool.false)) else if Decidable.decide (ref06_Touch_0 x0 x1 x2 x3 x4 x5 x6 x7 x8 x9 x10 x11 < 0) then (if box_Touch_1 x0 x1 x2 x3 x4 x5 x6 x7 x8 x9 x10 x11 == 9 then (if box_Touch_0 x0 x1 x2 x3 x4 x5 x6 x7 x8 x9 x10 x11 == 0 then (Bool.true) else if Decidable.decide (ref06_Touch_0 x0 x1 x2 x3 x4 x5 x6 x7 x8 x9 x10 x11 ≥ 0) then (if box_Touch_1 x0 x1 x2 x3 x4 x5 x6 x7 x8 x9 x10 x11 == 0 then (if box_Touch_0 x0 x1 x2 x3 x4 x5 x6 x7 x8 x9 x10 x11 == ref06_Touch_0 x0 x1 x2 x3 x4 x5 x6 x7 x8 x9 x10 x11 then (Bool.true) else (Bool.false)) else (Bool.false)) else (Bool.false)) else if Decidable.decide (ref06_Touch_0 x0 x1 x2 x3 x4 x5 x6 x7 x8 x9 x10 x11 ≥ 0) then (if box_Touch_1 x0 x1 x2 x3 x4 x5 x6 x7 x8 x9 x10 x11 == 0 then (if box_Touch_0 x0 x1 x2 x3 x4 x5 x6 x7 x8 x9 x10 x11 == ref06_Touch_0 x0 x1 x2 x3 x4 x5 x6 x7 x8 x9 x10 x11 then (Bool.true) else (Bool.false)) else (Bool.false)) else (Bool.false)) else if Decidable.decide (ref06_Touch_0 x0 x1 x2 x3 x4 x5 x6 x7 x8 x9 x10 x11 ≥ 0) then (if box_Touch_1 x0 x1 x2 x3 x4 x5 x6 x7 x8 x9 x10 x11 == 0 then (if box_Touch_0 x0 x1 x2 x3 x4 x5 x6 x7 x8 x9 x10 x11 == ref06_Touch_0 x0 x1 x2 x3 x4 x5 x6 x7 x8 x9 x10 x11 then (Bool.true) else (Bool.false)) else (Bool.false)) else (Bool.false)
def ans4 : Ans := fun args => match args.toList with
  | [.agg c0, .agg c1, .agg c2] => match c0.toList, c1.toList, c2.toList with
    | [.int .i64 x0, .int .i64 x1, .int .i64 x2, .int .i64 x3, .int .i64 x4, .int .i64 x5], [.int .i64 x6, .int .i64 x7, .int .i64 x8, .int .i64 x9, .int .i64 x10, .int .i64 x11], [.int .i64 x12, .int .i64 x13, .int .i64 x14] => some (.bool (law06_BoxRelates_0 x0 x1 x2 x3 x4 x5 x6 x7 x8 x9 x10 x11 x12 x13 x14))
    | _, _, _ => none
  | _ => none
def tab24 : Tab := (4, .ans ans4) :: tab23
def tree4 (x0 x1 x2 x3 x4 x5 x6 x7 x8 x9 x10 x11 x12 x13 x14 : Int) : Tr Value :=
  .node 19 (!box_Has_0 x0 x1 x2 x3 x4 x5 x12 x13 x14 == ref06_Has_0 x0 x1 x2 x3 x4 x5 x12 x13 x14)
  (.leaf (some (.bool (Bool.false))))
  (.node 27 (!box_Inside_0 x0 x1 x2 x3 x4 x5 x6 x7 x8 x9 x10 x11 == ref06_Inside_0 x0 x1 x2 x3 x4 x5 x6 x7 x8 x9 x10 x11)
   (.leaf (some (.bool (Bool.false))))
   (.node 36 (!box_Overlap_0 x0 x1 x2 x3 x4 x5 x6 x7 x8 x9 x10 x11 == ref06_Overlap_0 x0 x1 x2 x3 x4 x5 x6 x7 x8 x9 x10 x11)
    (.leaf (some (.bool (Bool.false))))
    (.node 48 (law06_both_0 x0 x1 x2 x3 x4 x5 x6 x7 x8 x9 x10 x11 != 0)
     (.node 51 (box_Touch_1 x0 x1 x2 x3 x4 x5 x6 x7 x8 x9 x10 x11 == law06_both_0 x0 x1 x2 x3 x4 x5 x6 x7 x8 x9 x10 x11)
      (.node 54 (box_Touch_0 x0 x1 x2 x3 x4 x5 x6 x7 x8 x9 x10 x11 == 0)
       (.leaf (some (.bool (Bool.true))))
       (.leaf (some (.bool (Bool.false)))))
      (.leaf (some (.bool (Bool.false)))))
     (.node 60 (Decidable.decide (ref06_Touch_0 x0 x1 x2 x3 x4 x5 x6 x7 x8 x9 x10 x11 < 0))
      (.node 63 (box_Touch_1 x0 x1 x2 x3 x4 x5 x6 x7 x8 x9 x10 x11 == 9)
       (.node 67 (box_Touch_0 x0 x1 x2 x3 x4 x5 x6 x7 x8 x9 x10 x11 == 0)
        (.leaf (some (.bool (Bool.true))))
        (.node 71 (Decidable.decide (ref06_Touch_0 x0 x1 x2 x3 x4 x5 x6 x7 x8 x9 x10 x11 ≥ 0))
         (.node 74 (box_Touch_1 x0 x1 x2 x3 x4 x5 x6 x7 x8 x9 x10 x11 == 0)
          (.node 79 (box_Touch_0 x0 x1 x2 x3 x4 x5 x6 x7 x8 x9 x10 x11 == ref06_Touch_0 x0 x1 x2 x3 x4 x5 x6 x7 x8 x9 x10 x11)
           (.leaf (some (.bool (Bool.true))))
           (.leaf (some (.bool (Bool.false)))))
          (.leaf (some (.bool (Bool.false)))))
         (.leaf (some (.bool (Bool.false))))))
       (.node 71 (Decidable.decide (ref06_Touch_0 x0 x1 x2 x3 x4 x5 x6 x7 x8 x9 x10 x11 ≥ 0))
        (.node 74 (box_Touch_1 x0 x1 x2 x3 x4 x5 x6 x7 x8 x9 x10 x11 == 0)
         (.node 79 (box_Touch_0 x0 x1 x2 x3 x4 x5 x6 x7 x8 x9 x10 x11 == ref06_Touch_0 x0 x1 x2 x3 x4 x5 x6 x7 x8 x9 x10 x11)
          (.leaf (some (.bool (Bool.true))))
          (.leaf (some (.bool (Bool.false)))))
         (.leaf (some (.bool (Bool.false)))))
        (.leaf (some (.bool (Bool.false))))))
      (.node 71 (Decidable.decide (ref06_Touch_0 x0 x1 x2 x3 x4 x5 x6 x7 x8 x9 x10 x11 ≥ 0))
       (.node 74 (box_Touch_1 x0 x1 x2 x3 x4 x5 x6 x7 x8 x9 x10 x11 == 0)
        (.node 79 (box_Touch_0 x0 x1 x2 x3 x4 x5 x6 x7 x8 x9 x10 x11 == ref06_Touch_0 x0 x1 x2 x3 x4 x5 x6 x7 x8 x9 x10 x11)
         (.leaf (some (.bool (Bool.true))))
         (.leaf (some (.bool (Bool.false)))))
        (.leaf (some (.bool (Bool.false)))))
       (.leaf (some (.bool (Bool.false)))))))))
theorem tree4_eq (x0 x1 x2 x3 x4 x5 x6 x7 x8 x9 x10 x11 x12 x13 x14 : Int) : vals (evFnT Try.prog (tb Try.prog tab23) (tbT Try.prog tab23) ⟨[(19, 0), (27, 0), (36, 0), (48, 0), (51, 0), (54, 0), (60, 0), (63, 0), (67, 0), (71, 0), (74, 0), (79, 0)], [], []⟩ noLoops 300 4 #[.agg #[.int .i64 x0, .int .i64 x1, .int .i64 x2, .int .i64 x3, .int .i64 x4, .int .i64 x5], .agg #[.int .i64 x6, .int .i64 x7, .int .i64 x8, .int .i64 x9, .int .i64 x10, .int .i64 x11], .agg #[.int .i64 x12, .int .i64 x13, .int .i64 x14]] []) = tree4 x0 x1 x2 x3 x4 x5 x6 x7 x8 x9 x10 x11 x12 x13 x14 := by kernel_rfl
theorem tree4_res (x0 x1 x2 x3 x4 x5 x6 x7 x8 x9 x10 x11 x12 x13 x14 : Int) : (tree4 x0 x1 x2 x3 x4 x5 x6 x7 x8 x9 x10 x11 x12 x13 x14).res = some (.bool (law06_BoxRelates_0 x0 x1 x2 x3 x4 x5 x6 x7 x8 x9 x10 x11 x12 x13 x14)) := by
  unfold tree4 law06_BoxRelates_0
  simp only [Tr.res]
  generalize (!box_Has_0 x0 x1 x2 x3 x4 x5 x12 x13 x14 == ref06_Has_0 x0 x1 x2 x3 x4 x5 x12 x13 x14) = b0
  generalize (!box_Inside_0 x0 x1 x2 x3 x4 x5 x6 x7 x8 x9 x10 x11 == ref06_Inside_0 x0 x1 x2 x3 x4 x5 x6 x7 x8 x9 x10 x11) = b1
  generalize (!box_Overlap_0 x0 x1 x2 x3 x4 x5 x6 x7 x8 x9 x10 x11 == ref06_Overlap_0 x0 x1 x2 x3 x4 x5 x6 x7 x8 x9 x10 x11) = b2
  generalize (law06_both_0 x0 x1 x2 x3 x4 x5 x6 x7 x8 x9 x10 x11 != 0) = b3
  generalize (box_Touch_1 x0 x1 x2 x3 x4 x5 x6 x7 x8 x9 x10 x11 == law06_both_0 x0 x1 x2 x3 x4 x5 x6 x7 x8 x9 x10 x11) = b4
  generalize (box_Touch_0 x0 x1 x2 x3 x4 x5 x6 x7 x8 x9 x10 x11 == 0) = b5
  generalize (Decidable.decide (ref06_Touch_0 x0 x1 x2 x3 x4 x5 x6 x7 x8 x9 x10 x11 < 0)) = b6
  generalize (box_Touch_1 x0 x1 x2 x3 x4 x5 x6 x7 x8 x9 x10 x11 == 9) = b7
  generalize (Decidable.decide (ref06_Touch_0 x0 x1 x2 x3 x4 x5 x6 x7 x8 x9 x10 x11 ≥ 0)) = b8
  generalize (box_Touch_1 x0 x1 x2 x3 x4 x5 x6 x7 x8 x9 x10 x11 == 0) = b9
  generalize (box_Touch_0 x0 x1 x2 x3 x4 x5 x6 x7 x8 x9 x10 x11 == ref06_Touch_0 x0 x1 x2 x3 x4 x5 x6 x7 x8 x9 x10 x11) = b10
  cases b0 with
  | true =>
   first | (simp only [if_true, Bool.false_eq_true, if_false]; done) | rfl
  | false =>
   cases b1 with
   | true =>
    first | (simp only [if_true, Bool.false_eq_true, if_false]; done) | rfl
   | false =>
    cases b2 with
    | true =>
     first | (simp only [if_true, Bool.false_eq_true, if_false]; done) | rfl
    | false =>
     cases b3 with
     | true =>
      cases b4 with
      | true =>
       cases b5 with
       | true =>
        first | (simp only [if_true, Bool.false_eq_true, if_false]; done) | rfl
       | false =>
        first | (simp only [if_true, Bool.false_eq_true, if_false]; done) | rfl
      | false =>
       first | (simp only [if_true, Bool.false_eq_true, if_false]; done) | rfl
     | false =>
      cases b6 with
      | true =>
       cases b7 with
       | true =>
        cases b5 with
        | true =>
         first | (simp only [if_true, Bool.false_eq_true, if_false]; done) | rfl
        | false =>
         cases b8 with
         | true =>
          cases b9 with
          | true =>
           cases b10 with
           | true =>
            first | (simp only [if_true, Bool.false_eq_true, if_false]; done) | rfl
           | false =>
            first | (simp only [if_true, Bool.false_eq_true, if_false]; done) | rfl
          | false =>
           first | (simp only [if_true, Bool.false_eq_true, if_false]; done) | rfl
         | false =>
          first | (simp only [if_true, Bool.false_eq_true, if_false]; done) | rfl
       | false =>
        cases b8 with
        | true =>
         cases b9 with
         | true =>
          cases b10 with
          | true =>
           first | (simp only [if_true, Bool.false_eq_true, if_false]; done) | rfl
          | false =>
           first | (simp only [if_true, Bool.false_eq_true, if_false]; done) | rfl
         | false =>
          first | (simp only [if_true, Bool.false_eq_true, if_false]; done) | rfl
        | false =>
         first | (simp only [if_true, Bool.false_eq_true, if_false]; done) | rfl
      | false =>
       cases b8 with
       | true =>
        cases b9 with
        | true =>
         cases b10 with
         | true =>
          first | (simp only [if_true, Bool.false_eq_true, if_false]; done) | rfl
         | false =>
          first | (simp only [if_true, Bool.false_eq_true, if_false]; done) | rfl
        | false =>
         first | (simp only [if_true, Bool.false_eq_true, if_false]; done) | rfl
       | false =>
        first | (simp only [if_true, Bool.false_eq_true, if_false]; done) | rfl
theorem tab24_ok : TabOk Try.prog tab24 := tab_cons mixed tab23_ok (by decide) fun args v h => by
  unfold ans4 at h
  split at h
  · rename_i c0 c1 c2 h0
    split at h
    · rename_i x0 x1 x2 x3 x4 x5 x6 x7 x8 x9 x10 x11 x12 x13 x14 h1 h2 h3
      injection h with h; subst h
      obtain rfl : c0 = #[.int .i64 x0, .int .i64 x1, .int .i64 x2, .int .i64 x3, .int .i64 x4, .int .i64 x5] := by rw [← Array.toArray_toList (xs := c0), h1]
      obtain rfl : c1 = #[.int .i64 x6, .int .i64 x7, .int .i64 x8, .int .i64 x9, .int .i64 x10, .int .i64 x11] := by rw [← Array.toArray_toList (xs := c1), h2]
      obtain rfl : c2 = #[.int .i64 x12, .int .i64 x13, .int .i64 x14] := by rw [← Array.toArray_toList (xs := c2), h3]
      obtain rfl : args = #[.agg #[.int .i64 x0, .int .i64 x1, .int .i64 x2, .int .i64 x3, .int .i64 x4, .int .i64 x5], .agg #[.int .i64 x6, .int .i64 x7, .int .i64 x8, .int .i64 x9, .int .i64 x10, .int .i64 x11], .agg #[.int .i64 x12, .int .i64 x13, .int .i64 x14]] := by rw [← Array.toArray_toList (xs := args), h0]
      exact ⟨rfl, rfl, ⟨[(19, 0), (27, 0), (36, 0), (48, 0), (51, 0), (54, 0), (60, 0), (63, 0), (67, 0), (71, 0), (74, 0), (79, 0)], [], []⟩, 300, by rw [tree4_eq]; exact tree4_res _ _ _ _ _ _ _ _ _ _ _ _ _ _ _⟩
    · cases h
  · cases h
end Go.Proofs.Ytgpcgcflmimnbaa.Vx
