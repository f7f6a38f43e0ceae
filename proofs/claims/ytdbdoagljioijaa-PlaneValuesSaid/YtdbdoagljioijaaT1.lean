/- The answers of the functions of the package and of its reference, read off their texts. -/
import Derived.Test.YtdbdoagljioijaaXA
namespace Go.Proofs.Ytdbdoagljioijaa.Vx
open Go Go.RowKit Go.Proofs
set_option maxRecDepth 100000
set_option linter.unusedVariables false
set_option linter.unusedSimpArgs false
def tab0 : Tab := []
theorem tab0_ok : TabOk Try.prog tab0 := tab_nil

/- gangsaw/gangsawlaw07.awake -/
def ans12 : Ans := fun args => match args.toList with
  | [] => some (.bool true)
  | _ => none
def tab1 : Tab := (12, .ans ans12) :: tab0
theorem tab1_ok : TabOk Try.prog tab1 := tab_put tab0_ok fun args v h => by
  unfold ans12 at h
  split at h
  · rename_i h0
    injection h with h; subst h
    obtain rfl : args = #[] := by rw [← Array.toArray_toList (xs := args), h0]
    exact ⟨rfl, rfl, fun w => awake_any w⟩
  · cases h

/- gangsaw/plane.across -/
def ans34 : Ans := fun args => match args.toList with
  | [.agg c0] => match c0.toList with
    | [.int .i64 x0, .int .i64 x1, .int .i64 x2, .int .i64 x3] => some (.agg #[.int .i64 (x0), .int .i64 (x1), .int .i64 (x2)])
    | _ => none
  | _ => none
def tab2 : Tab := (34, .ans ans34) :: tab1
def tree34 (x0 x1 x2 x3 : Int) : Tr Value :=
  .leaf (some (.agg #[.int .i64 (x0), .int .i64 (x1), .int .i64 (x2)]))
theorem tree34_eq (x0 x1 x2 x3 : Int) : vals (evFnT Try.prog (tb Try.prog tab1) (tbT Try.prog tab1) [] 300 34 #[.agg #[.int .i64 x0, .int .i64 x1, .int .i64 x2, .int .i64 x3]] []) = tree34 x0 x1 x2 x3 := by kernel_rfl
theorem tree34_res (x0 x1 x2 x3 : Int) : (tree34 x0 x1 x2 x3).res = some (.agg #[.int .i64 (x0), .int .i64 (x1), .int .i64 (x2)]) := by
  rfl
theorem tab2_ok : TabOk Try.prog tab2 := tab_cons mixed tab1_ok fun args v h => by
  unfold ans34 at h
  split at h
  · rename_i c0 h0
    split at h
    · rename_i x0 x1 x2 x3 h1
      injection h with h; subst h
      obtain rfl : c0 = #[.int .i64 x0, .int .i64 x1, .int .i64 x2, .int .i64 x3] := by rw [← Array.toArray_toList (xs := c0), h1]
      obtain rfl : args = #[.agg #[.int .i64 x0, .int .i64 x1, .int .i64 x2, .int .i64 x3]] := by rw [← Array.toArray_toList (xs := args), h0]
      exact ⟨rfl, rfl, [], 300, by rw [tree34_eq]; exact tree34_res _ _ _ _⟩
    · cases h
  · cases h

/- gangsaw/plane.coordinates -/
def ans47 : Ans := fun args => match args.toList with
  | [.agg c0] => match c0.toList with
    | [.int .i64 x0, .int .i64 x1, .int .i64 x2] => some (.agg #[.int .i64 (x0), .int .i64 (x1), .int .i64 (x2)])
    | _ => none
  | _ => none
def tab3 : Tab := (47, .ans ans47) :: tab2
def tree47 (x0 x1 x2 : Int) : Tr Value :=
  .leaf (some (.agg #[.int .i64 (x0), .int .i64 (x1), .int .i64 (x2)]))
theorem tree47_eq (x0 x1 x2 : Int) : vals (evFnT Try.prog (tb Try.prog tab2) (tbT Try.prog tab2) [] 300 47 #[.agg #[.int .i64 x0, .int .i64 x1, .int .i64 x2]] []) = tree47 x0 x1 x2 := by kernel_rfl
theorem tree47_res (x0 x1 x2 : Int) : (tree47 x0 x1 x2).res = some (.agg #[.int .i64 (x0), .int .i64 (x1), .int .i64 (x2)]) := by
  rfl
theorem tab3_ok : TabOk Try.prog tab3 := tab_cons mixed tab2_ok fun args v h => by
  unfold ans47 at h
  split at h
  · rename_i c0 h0
    split at h
    · rename_i x0 x1 x2 h1
      injection h with h; subst h
      obtain rfl : c0 = #[.int .i64 x0, .int .i64 x1, .int .i64 x2] := by rw [← Array.toArray_toList (xs := c0), h1]
      obtain rfl : args = #[.agg #[.int .i64 x0, .int .i64 x1, .int .i64 x2]] := by rw [← Array.toArray_toList (xs := args), h0]
      exact ⟨rfl, rfl, [], 300, by rw [tree47_eq]; exact tree47_res _ _ _⟩
    · cases h
  · cases h

/- gangsaw/plane.coefficients -/
def ans35 : Ans := fun args => match args.toList with
  | [.agg c0] => match c0.toList with
    | [.int .i64 x0, .int .i64 x1, .int .i64 x2, .int .i64 x3] => some (.agg #[.int .i64 (x0), .int .i64 (x1), .int .i64 (x2)])
    | _ => none
  | _ => none
def tab4 : Tab := (35, .ans ans35) :: tab3
def tree35 (x0 x1 x2 x3 : Int) : Tr Value :=
  .leaf (some (.agg #[.int .i64 (x0), .int .i64 (x1), .int .i64 (x2)]))
theorem tree35_eq (x0 x1 x2 x3 : Int) : vals (evFnT Try.prog (tb Try.prog tab3) (tbT Try.prog tab3) [] 300 35 #[.agg #[.int .i64 x0, .int .i64 x1, .int .i64 x2, .int .i64 x3]] []) = tree35 x0 x1 x2 x3 := by kernel_rfl
theorem tree35_res (x0 x1 x2 x3 : Int) : (tree35 x0 x1 x2 x3).res = some (.agg #[.int .i64 (x0), .int .i64 (x1), .int .i64 (x2)]) := by
  rfl
theorem tab4_ok : TabOk Try.prog tab4 := tab_cons mixed tab3_ok fun args v h => by
  unfold ans35 at h
  split at h
  · rename_i c0 h0
    split at h
    · rename_i x0 x1 x2 x3 h1
      injection h with h; subst h
      obtain rfl : c0 = #[.int .i64 x0, .int .i64 x1, .int .i64 x2, .int .i64 x3] := by rw [← Array.toArray_toList (xs := c0), h1]
      obtain rfl : args = #[.agg #[.int .i64 x0, .int .i64 x1, .int .i64 x2, .int .i64 x3]] := by rw [← Array.toArray_toList (xs := args), h0]
      exact ⟨rfl, rfl, [], 300, by rw [tree35_eq]; exact tree35_res _ _ _ _⟩
    · cases h
  · cases h

/- gangsaw/plane.Check -/
def plane_Check_0 (x0 x1 x2 x3 : Int) : Int :=
  if Decidable.decide (x0 < -1000) then (6) else if Decidable.decide (x0 > 1000) then (6) else if Decidable.decide (x1 < -1000) then (6) else if Decidable.decide (x1 > 1000) then (6) else if Decidable.decide (x2 < -1000) then (6) else if Decidable.decide (x2 > 1000) then (6) else if Decidable.decide (x3 < -4000000000) then (6) else if Decidable.decide (x3 > 4000000000) then (6) else if x0 == 0 && (x1 == 0 && (x2 == 0 && Bool.true)) then (1) else (0)
def ans14 : Ans := fun args => match args.toList with
  | [.agg c0] => match c0.toList with
    | [.int .i64 x0, .int .i64 x1, .int .i64 x2, .int .i64 x3] => some (.int .i64 (plane_Check_0 x0 x1 x2 x3))
    | _ => none
  | _ => none
def tab5 : Tab := (14, .ans ans14) :: tab4
def tree14 (x0 x1 x2 x3 : Int) : Tr Value :=
  .node 11 (Decidable.decide (x0 < -1000))
  (.leaf (some (.int .i64 (6))))
  (.node 14 (Decidable.decide (x0 > 1000))
   (.leaf (some (.int .i64 (6))))
   (.node 11 (Decidable.decide (x1 < -1000))
    (.leaf (some (.int .i64 (6))))
    (.node 14 (Decidable.decide (x1 > 1000))
     (.leaf (some (.int .i64 (6))))
     (.node 11 (Decidable.decide (x2 < -1000))
      (.leaf (some (.int .i64 (6))))
      (.node 14 (Decidable.decide (x2 > 1000))
       (.leaf (some (.int .i64 (6))))
       (.node 19 (Decidable.decide (x3 < -4000000000))
        (.leaf (some (.int .i64 (6))))
        (.node 23 (Decidable.decide (x3 > 4000000000))
         (.leaf (some (.int .i64 (6))))
         (.node 28 (x0 == 0 && (x1 == 0 && (x2 == 0 && Bool.true)))
          (.leaf (some (.int .i64 (1))))
          (.leaf (some (.int .i64 (0))))))))))))
theorem tree14_eq (x0 x1 x2 x3 : Int) : vals (evFnT Try.prog (tb Try.prog tab4) (tbT Try.prog tab4) [(11, 0), (14, 0), (19, 0), (23, 0), (28, 0)] 300 14 #[.agg #[.int .i64 x0, .int .i64 x1, .int .i64 x2, .int .i64 x3]] []) = tree14 x0 x1 x2 x3 := by kernel_rfl
theorem tree14_res (x0 x1 x2 x3 : Int) : (tree14 x0 x1 x2 x3).res = some (.int .i64 (plane_Check_0 x0 x1 x2 x3)) := by
  unfold tree14 plane_Check_0
  simp only [Tr.res]
  generalize (Decidable.decide (x0 < -1000)) = b0
  generalize (Decidable.decide (x0 > 1000)) = b1
  generalize (Decidable.decide (x1 < -1000)) = b2
  generalize (Decidable.decide (x1 > 1000)) = b3
  generalize (Decidable.decide (x2 < -1000)) = b4
  generalize (Decidable.decide (x2 > 1000)) = b5
  generalize (Decidable.decide (x3 < -4000000000)) = b6
  generalize (Decidable.decide (x3 > 4000000000)) = b7
  generalize (x0 == 0 && (x1 == 0 && (x2 == 0 && Bool.true))) = b8
  cases b0 with
  | true =>
   first | (simp only [if_true, Bool.false_eq_true, if_false]; done) | rfl
  | false =>
   cases b1 with
   | true =>
    first | (simp only [if_true, Bool.false_eq_true, if_false]; done) | rfl
   | false =>
    cases b2 with
    | true =>
     first | (simp only [if_true, Bool.false_eq_true, if_false]; done) | rfl
    | false =>
     cases b3 with
     | true =>
      first | (simp only [if_true, Bool.false_eq_true, if_false]; done) | rfl
     | false =>
      cases b4 with
      | true =>
       first | (simp only [if_true, Bool.false_eq_true, if_false]; done) | rfl
      | false =>
       cases b5 with
       | true =>
        first | (simp only [if_true, Bool.false_eq_true, if_false]; done) | rfl
       | false =>
        cases b6 with
        | true =>
         first | (simp only [if_true, Bool.false_eq_true, if_false]; done) | rfl
        | false =>
         cases b7 with
         | true =>
          first | (simp only [if_true, Bool.false_eq_true, if_false]; done) | rfl
         | false =>
          cases b8 with
          | true =>
           first | (simp only [if_true, Bool.false_eq_true, if_false]; done) | rfl
          | false =>
           first | (simp only [if_true, Bool.false_eq_true, if_false]; done) | rfl
theorem tab5_ok : TabOk Try.prog tab5 := tab_cons mixed tab4_ok fun args v h => by
  unfold ans14 at h
  split at h
  · rename_i c0 h0
    split at h
    · rename_i x0 x1 x2 x3 h1
      injection h with h; subst h
      obtain rfl : c0 = #[.int .i64 x0, .int .i64 x1, .int .i64 x2, .int .i64 x3] := by rw [← Array.toArray_toList (xs := c0), h1]
      obtain rfl : args = #[.agg #[.int .i64 x0, .int .i64 x1, .int .i64 x2, .int .i64 x3]] := by rw [← Array.toArray_toList (xs := args), h0]
      exact ⟨rfl, rfl, [(11, 0), (14, 0), (19, 0), (23, 0), (28, 0)], 300, by rw [tree14_eq]; exact tree14_res _ _ _ _⟩
    · cases h
  · cases h

/- gangsaw/vector.coordinates -/
def ans54 : Ans := fun args => match args.toList with
  | [.agg c0] => match c0.toList with
    | [.int .i64 x0, .int .i64 x1, .int .i64 x2] => some (.agg #[.int .i64 (x0), .int .i64 (x1), .int .i64 (x2)])
    | _ => none
  | _ => none
def tab6 : Tab := (54, .ans ans54) :: tab5
def tree54 (x0 x1 x2 : Int) : Tr Value :=
  .leaf (some (.agg #[.int .i64 (x0), .int .i64 (x1), .int .i64 (x2)]))
theorem tree54_eq (x0 x1 x2 : Int) : vals (evFnT Try.prog (tb Try.prog tab5) (tbT Try.prog tab5) [] 300 54 #[.agg #[.int .i64 x0, .int .i64 x1, .int .i64 x2]] []) = tree54 x0 x1 x2 := by kernel_rfl
theorem tree54_res (x0 x1 x2 : Int) : (tree54 x0 x1 x2).res = some (.agg #[.int .i64 (x0), .int .i64 (x1), .int .i64 (x2)]) := by
  rfl
theorem tab6_ok : TabOk Try.prog tab6 := tab_cons mixed tab5_ok fun args v h => by
  unfold ans54 at h
  split at h
  · rename_i c0 h0
    split at h
    · rename_i x0 x1 x2 h1
      injection h with h; subst h
      obtain rfl : c0 = #[.int .i64 x0, .int .i64 x1, .int .i64 x2] := by rw [← Array.toArray_toList (xs := c0), h1]
      obtain rfl : args = #[.agg #[.int .i64 x0, .int .i64 x1, .int .i64 x2]] := by rw [← Array.toArray_toList (xs := args), h0]
      exact ⟨rfl, rfl, [], 300, by rw [tree54_eq]; exact tree54_res _ _ _⟩
    · cases h
  · cases h

/- gangsaw/vector.checkAll -/
def tab7 : Tab := (52, .inl [(19, 0), (22, 0)] 300) :: tab6
theorem tab7_ok : TabOk Try.prog tab7 := tab_inl mixed tab6_ok _ _ _

/- gangsaw/vector.dot -/
def vector_dot_0 (x0 x1 x2 x3 x4 x5 : Int) : Int :=
  (IntKind.i64.wrap (IntKind.i64.wrap (IntKind.i64.wrap (0 + IntKind.i64.wrap (x0 * x3)) + IntKind.i64.wrap (x1 * x4)) + IntKind.i64.wrap (x2 * x5)))
def ans53 : Ans := fun args => match args.toList with
  | [.agg c0, .agg c1] => match c0.toList, c1.toList with
    | [.int .i64 x0, .int .i64 x1, .int .i64 x2], [.int .i64 x3, .int .i64 x4, .int .i64 x5] => some (.int .i64 (vector_dot_0 x0 x1 x2 x3 x4 x5))
    | _, _ => none
  | _ => none
def tab8 : Tab := (53, .ans ans53) :: tab7
def tree53 (x0 x1 x2 x3 x4 x5 : Int) : Tr Value :=
  .leaf (some (.int .i64 (IntKind.i64.wrap (IntKind.i64.wrap (IntKind.i64.wrap (0 + IntKind.i64.wrap (x0 * x3)) + IntKind.i64.wrap (x1 * x4)) + IntKind.i64.wrap (x2 * x5)))))
theorem tree53_eq (x0 x1 x2 x3 x4 x5 : Int) : vals (evFnT Try.prog (tb Try.prog tab7) (tbT Try.prog tab7) [] 300 53 #[.agg #[.int .i64 x0, .int .i64 x1, .int .i64 x2], .agg #[.int .i64 x3, .int .i64 x4, .int .i64 x5]] []) = tree53 x0 x1 x2 x3 x4 x5 := by kernel_rfl
theorem tree53_res (x0 x1 x2 x3 x4 x5 : Int) : (tree53 x0 x1 x2 x3 x4 x5).res = some (.int .i64 (vector_dot_0 x0 x1 x2 x3 x4 x5)) := by
  rfl
theorem tab8_ok : TabOk Try.prog tab8 := tab_cons mixed tab7_ok fun args v h => by
  unfold ans53 at h
  split at h
  · rename_i c0 c1 h0
    split at h
    · rename_i x0 x1 x2 x3 x4 x5 h1 h2
      injection h with h; subst h
      obtain rfl : c0 = #[.int .i64 x0, .int .i64 x1, .int .i64 x2] := by rw [← Array.toArray_toList (xs := c0), h1]
      obtain rfl : c1 = #[.int .i64 x3, .int .i64 x4, .int .i64 x5] := by rw [← Array.toArray_toList (xs := c1), h2]
      obtain rfl : args = #[.agg #[.int .i64 x0, .int .i64 x1, .int .i64 x2], .agg #[.int .i64 x3, .int .i64 x4, .int .i64 x5]] := by rw [← Array.toArray_toList (xs := args), h0]
      exact ⟨rfl, rfl, [], 300, by rw [tree53_eq]; exact tree53_res _ _ _ _ _ _⟩
    · cases h
  · cases h

/- gangsaw/vector.Dot -/
def vector_Dot_0 (x0 x1 x2 x3 x4 x5 : Int) : Int :=
  if Decidable.decide (x0 < -1000000) then (0) else if Decidable.decide (x0 > 1000000) then (0) else if Decidable.decide (x1 < -1000000) then (0) else if Decidable.decide (x1 > 1000000) then (0) else if Decidable.decide (x2 < -1000000) then (0) else if Decidable.decide (x2 > 1000000) then (0) else if Decidable.decide (x3 < -1000000) then (0) else if Decidable.decide (x3 > 1000000) then (0) else if Decidable.decide (x4 < -1000000) then (0) else if Decidable.decide (x4 > 1000000) then (0) else if Decidable.decide (x5 < -1000000) then (0) else if Decidable.decide (x5 > 1000000) then (0) else (vector_dot_0 x0 x1 x2 x3 x4 x5)
def vector_Dot_1 (x0 x1 x2 x3 x4 x5 : Int) : Int :=
  if Decidable.decide (x0 < -1000000) then (6) else if Decidable.decide (x0 > 1000000) then (6) else if Decidable.decide (x1 < -1000000) then (6) else if Decidable.decide (x1 > 1000000) then (6) else if Decidable.decide (x2 < -1000000) then (6) else if Decidable.decide (x2 > 1000000) then (6) else if Decidable.decide (x3 < -1000000) then (6) else if Decidable.decide (x3 > 1000000) then (6) else if Decidable.decide (x4 < -1000000) then (6) else if Decidable.decide (x4 > 1000000) then (6) else if Decidable.decide (x5 < -1000000) then (6) else if Decidable.decide (x5 > 1000000) then (6) else (0)
def ans33 : Ans := fun args => match args.toList with
  | [.agg c0, .agg c1] => match c0.toList, c1.toList with
    | [.int .i64 x0, .int .i64 x1, .int .i64 x2], [.int .i64 x3, .int .i64 x4, .int .i64 x5] => some (.tuple #[.int .i64 (vector_Dot_0 x0 x1 x2 x3 x4 x5), .int .i64 (vector_Dot_1 x0 x1 x2 x3 x4 x5)])
    | _, _ => none
  | _ => none
def tab9 : Tab := (33, .ans ans33) :: tab8
def tree33 (x0 x1 x2 x3 x4 x5 : Int) : Tr Value :=
  .node 19 (Decidable.decide (x0 < -1000000))
  (.leaf (some (.tuple #[.int .i64 (0), .int .i64 (6)])))
  (.node 22 (Decidable.decide (x0 > 1000000))
   (.leaf (some (.tuple #[.int .i64 (0), .int .i64 (6)])))
   (.node 19 (Decidable.decide (x1 < -1000000))
    (.leaf (some (.tuple #[.int .i64 (0), .int .i64 (6)])))
    (.node 22 (Decidable.decide (x1 > 1000000))
     (.leaf (some (.tuple #[.int .i64 (0), .int .i64 (6)])))
     (.node 19 (Decidable.decide (x2 < -1000000))
      (.leaf (some (.tuple #[.int .i64 (0), .int .i64 (6)])))
      (.node 22 (Decidable.decide (x2 > 1000000))
       (.leaf (some (.tuple #[.int .i64 (0), .int .i64 (6)])))
       (.node 19 (Decidable.decide (x3 < -1000000))
        (.leaf (some (.tuple #[.int .i64 (0), .int .i64 (6)])))
        (.node 22 (Decidable.decide (x3 > 1000000))
         (.leaf (some (.tuple #[.int .i64 (0), .int .i64 (6)])))
         (.node 19 (Decidable.decide (x4 < -1000000))
          (.leaf (some (.tuple #[.int .i64 (0), .int .i64 (6)])))
          (.node 22 (Decidable.decide (x4 > 1000000))
           (.leaf (some (.tuple #[.int .i64 (0), .int .i64 (6)])))
           (.node 19 (Decidable.decide (x5 < -1000000))
            (.leaf (some (.tuple #[.int .i64 (0), .int .i64 (6)])))
            (.node 22 (Decidable.decide (x5 > 1000000))
             (.leaf (some (.tuple #[.int .i64 (0), .int .i64 (6)])))
             (.leaf (some (.tuple #[.int .i64 (vector_dot_0 x0 x1 x2 x3 x4 x5), .int .i64 (0)]))))))))))))))
theorem tree33_eq (x0 x1 x2 x3 x4 x5 : Int) : vals (evFnT Try.prog (tb Try.prog tab8) (tbT Try.prog tab8) [] 300 33 #[.agg #[.int .i64 x0, .int .i64 x1, .int .i64 x2], .agg #[.int .i64 x3, .int .i64 x4, .int .i64 x5]] []) = tree33 x0 x1 x2 x3 x4 x5 := by kernel_rfl
theorem tree33_res (x0 x1 x2 x3 x4 x5 : Int) : (tree33 x0 x1 x2 x3 x4 x5).res = some (.tuple #[.int .i64 (vector_Dot_0 x0 x1 x2 x3 x4 x5), .int .i64 (vector_Dot_1 x0 x1 x2 x3 x4 x5)]) := by
  unfold tree33 vector_Dot_0 vector_Dot_1
  simp only [Tr.res]
  generalize (Decidable.decide (x0 < -1000000)) = b0
  generalize (Decidable.decide (x0 > 1000000)) = b1
  generalize (Decidable.decide (x1 < -1000000)) = b2
  generalize (Decidable.decide (x1 > 1000000)) = b3
  generalize (Decidable.decide (x2 < -1000000)) = b4
  generalize (Decidable.decide (x2 > 1000000)) = b5
  generalize (Decidable.decide (x3 < -1000000)) = b6
  generalize (Decidable.decide (x3 > 1000000)) = b7
  generalize (Decidable.decide (x4 < -1000000)) = b8
  generalize (Decidable.decide (x4 > 1000000)) = b9
  generalize (Decidable.decide (x5 < -1000000)) = b10
  generalize (Decidable.decide (x5 > 1000000)) = b11
  cases b0 with
  | true =>
   first | (simp only [if_true, Bool.false_eq_true, if_false]; done) | rfl
  | false =>
   cases b1 with
   | true =>
    first | (simp only [if_true, Bool.false_eq_true, if_false]; done) | rfl
   | false =>
    cases b2 with
    | true =>
     first | (simp only [if_true, Bool.false_eq_true, if_false]; done) | rfl
    | false =>
     cases b3 with
     | true =>
      first | (simp only [if_true, Bool.false_eq_true, if_false]; done) | rfl
     | false =>
      cases b4 with
      | true =>
       first | (simp only [if_true, Bool.false_eq_true, if_false]; done) | rfl
      | false =>
       cases b5 with
       | true =>
        first | (simp only [if_true, Bool.false_eq_true, if_false]; done) | rfl
       | false =>
        cases b6 with
        | true =>
         first | (simp only [if_true, Bool.false_eq_true, if_false]; done) | rfl
        | false =>
         cases b7 with
         | true =>
          first | (simp only [if_true, Bool.false_eq_true, if_false]; done) | rfl
         | false =>
          cases b8 with
          | true =>
           first | (simp only [if_true, Bool.false_eq_true, if_false]; done) | rfl
          | false =>
           cases b9 with
           | true =>
            first | (simp only [if_true, Bool.false_eq_true, if_false]; done) | rfl
           | false =>
            cases b10 with
            | true =>
             first | (simp only [if_true, Bool.false_eq_true, if_false]; done) | rfl
            | false =>
             cases b11 with
             | true =>
              first | (simp only [if_true, Bool.false_eq_true, if_false]; done) | rfl
             | false =>
              first | (simp only [if_true, Bool.false_eq_true, if_false]; done) | rfl
theorem tab9_ok : TabOk Try.prog tab9 := tab_cons mixed tab8_ok fun args v h => by
  unfold ans33 at h
  split at h
  · rename_i c0 c1 h0
    split at h
    · rename_i x0 x1 x2 x3 x4 x5 h1 h2
      injection h with h; subst h
      obtain rfl : c0 = #[.int .i64 x0, .int .i64 x1, .int .i64 x2] := by rw [← Array.toArray_toList (xs := c0), h1]
      obtain rfl : c1 = #[.int .i64 x3, .int .i64 x4, .int .i64 x5] := by rw [← Array.toArray_toList (xs := c1), h2]
      obtain rfl : args = #[.agg #[.int .i64 x0, .int .i64 x1, .int .i64 x2], .agg #[.int .i64 x3, .int .i64 x4, .int .i64 x5]] := by rw [← Array.toArray_toList (xs := args), h0]
      exact ⟨rfl, rfl, [], 300, by rw [tree33_eq]; exact tree33_res _ _ _ _ _ _⟩
    · cases h
  · cases h

/- gangsaw/plane.Value -/
def plane_Value_0 (x0 x1 x2 x3 x4 x5 x6 : Int) : Int :=
  if plane_Check_0 x0 x1 x2 x3 != 0 then (0) else if vector_Dot_1 x0 x1 x2 x4 x5 x6 != 0 then (0) else (IntKind.i64.wrap (vector_Dot_0 x0 x1 x2 x4 x5 x6 - x3))
def plane_Value_1 (x0 x1 x2 x3 x4 x5 x6 : Int) : Int :=
  if plane_Check_0 x0 x1 x2 x3 != 0 then (plane_Check_0 x0 x1 x2 x3) else if vector_Dot_1 x0 x1 x2 x4 x5 x6 != 0 then (vector_Dot_1 x0 x1 x2 x4 x5 x6) else (0)
def ans13 : Ans := fun args => match args.toList with
  | [.agg c0, .agg c1] => match c0.toList, c1.toList with
    | [.int .i64 x0, .int .i64 x1, .int .i64 x2, .int .i64 x3], [.int .i64 x4, .int .i64 x5, .int .i64 x6] => some (.tuple #[.int .i64 (plane_Value_0 x0 x1 x2 x3 x4 x5 x6), .int .i64 (plane_Value_1 x0 x1 x2 x3 x4 x5 x6)])
    | _, _ => none
  | _ => none
def tab10 : Tab := (13, .ans ans13) :: tab9
def tree13 (x0 x1 x2 x3 x4 x5 x6 : Int) : Tr Value :=
  .node 12 (plane_Check_0 x0 x1 x2 x3 != 0)
  (.leaf (some (.tuple #[.int .i64 (0), .int .i64 (plane_Check_0 x0 x1 x2 x3)])))
  (.node 22 (vector_Dot_1 x0 x1 x2 x4 x5 x6 != 0)
   (.leaf (some (.tuple #[.int .i64 (0), .int .i64 (vector_Dot_1 x0 x1 x2 x4 x5 x6)])))
   (.leaf (some (.tuple #[.int .i64 (IntKind.i64.wrap (vector_Dot_0 x0 x1 x2 x4 x5 x6 - x3)), .int .i64 (0)]))))
theorem tree13_eq (x0 x1 x2 x3 x4 x5 x6 : Int) : vals (evFnT Try.prog (tb Try.prog tab9) (tbT Try.prog tab9) [(12, 0), (22, 0)] 300 13 #[.agg #[.int .i64 x0, .int .i64 x1, .int .i64 x2, .int .i64 x3], .agg #[.int .i64 x4, .int .i64 x5, .int .i64 x6]] []) = tree13 x0 x1 x2 x3 x4 x5 x6 := by kernel_rfl
theorem tree13_res (x0 x1 x2 x3 x4 x5 x6 : Int) : (tree13 x0 x1 x2 x3 x4 x5 x6).res = some (.tuple #[.int .i64 (plane_Value_0 x0 x1 x2 x3 x4 x5 x6), .int .i64 (plane_Value_1 x0 x1 x2 x3 x4 x5 x6)]) := by
  unfold tree13 plane_Value_0 plane_Value_1
  simp only [Tr.res]
  generalize (plane_Check_0 x0 x1 x2 x3 != 0) = b0
  generalize (vector_Dot_1 x0 x1 x2 x4 x5 x6 != 0) = b1
  cases b0 with
  | true =>
   first | (simp only [if_true, Bool.false_eq_true, if_false]; done) | rfl
  | false =>
   cases b1 with
   | true =>
    first | (simp only [if_true, Bool.false_eq_true, if_false]; done) | rfl
   | false =>
    first | (simp only [if_true, Bool.false_eq_true, if_false]; done) | rfl
theorem tab10_ok : TabOk Try.prog tab10 := tab_cons mixed tab9_ok fun args v h => by
  unfold ans13 at h
  split at h
  · rename_i c0 c1 h0
    split at h
    · rename_i x0 x1 x2 x3 x4 x5 x6 h1 h2
      injection h with h; subst h
      obtain rfl : c0 = #[.int .i64 x0, .int .i64 x1, .int .i64 x2, .int .i64 x3] := by rw [← Array.toArray_toList (xs := c0), h1]
      obtain rfl : c1 = #[.int .i64 x4, .int .i64 x5, .int .i64 x6] := by rw [← Array.toArray_toList (xs := c1), h2]
      obtain rfl : args = #[.agg #[.int .i64 x0, .int .i64 x1, .int .i64 x2, .int .i64 x3], .agg #[.int .i64 x4, .int .i64 x5, .int .i64 x6]] := by rw [← Array.toArray_toList (xs := args), h0]
      exact ⟨rfl, rfl, [(12, 0), (22, 0)], 300, by rw [tree13_eq]; exact tree13_res _ _ _ _ _ _ _⟩
    · cases h
  · cases h

/- gangsaw/gangsawref07.factor -/
def ref07_factor_0 (x0 : Int) : Bool :=
  if Decidable.decide (x0 ≥ -1000) then (if Decidable.decide (x0 ≤ 1000) then (Bool.true) else (Bool.false)) else (Bool.false)
def ans36 : Ans := fun args => match args.toList with
  | [.int .i64 x0] => some (.bool (ref07_factor_0 x0))
  | _ => none
def tab11 : Tab := (36, .ans ans36) :: tab10
def tree36 (x0 : Int) : Tr Value :=
  .node 4 (Decidable.decide (x0 ≥ -1000))
  (.node 7 (Decidable.decide (x0 ≤ 1000))
   (.leaf (some (.bool (Bool.true))))
   (.leaf (some (.bool (Bool.false)))))
  (.leaf (some (.bool (Bool.false))))
theorem tree36_eq (x0 : Int) : vals (evFnT Try.prog (tb Try.prog tab10) (tbT Try.prog tab10) [(4, 0), (7, 0)] 300 36 #[.int .i64 x0] []) = tree36 x0 := by kernel_rfl
theorem tree36_res (x0 : Int) : (tree36 x0).res = some (.bool (ref07_factor_0 x0)) := by
  unfold tree36 ref07_factor_0
  simp only [Tr.res]
  generalize (Decidable.decide (x0 ≥ -1000)) = b0
  generalize (Decidable.decide (x0 ≤ 1000)) = b1
  cases b0 with
  | true =>
   cases b1 with
   | true =>
    first | (simp only [if_true, Bool.false_eq_true, if_false]; done) | rfl
   | false =>
    first | (simp only [if_true, Bool.false_eq_true, if_false]; done) | rfl
  | false =>
   first | (simp only [if_true, Bool.false_eq_true, if_false]; done) | rfl
theorem tab11_ok : TabOk Try.prog tab11 := tab_cons mixed tab10_ok fun args v h => by
  unfold ans36 at h
  split at h
  · rename_i x0 h0
    injection h with h; subst h
    obtain rfl : args = #[.int .i64 x0] := by rw [← Array.toArray_toList (xs := args), h0]
    exact ⟨rfl, rfl, [(4, 0), (7, 0)], 300, by rw [tree36_eq]; exact tree36_res _⟩
  · cases h

/- gangsaw/gangsawref07.Check -/
def ref07_Check_0 (x0 x1 x2 x3 : Int) : Int :=
  if ref07_factor_0 x0 then (if ref07_factor_0 x1 then (if ref07_factor_0 x2 then (if Decidable.decide (x3 < -4000000000) then (6) else if Decidable.decide (x3 > 4000000000) then (6) else if x0 == 0 then (if x1 == 0 then (if x2 == 0 then (1) else (0)) else (0)) else (0)) else (6)) else (6)) else (6)
def ans15 : Ans := fun args => match args.toList with
  | [.agg c0] => match c0.toList with
    | [.int .i64 x0, .int .i64 x1, .int .i64 x2, .int .i64 x3] => some (.int .i64 (ref07_Check_0 x0 x1 x2 x3))
    | _ => none
  | _ => none
def tab12 : Tab := (15, .ans ans15) :: tab11
def tree15 (x0 x1 x2 x3 : Int) : Tr Value :=
  .node 5 (ref07_factor_0 x0)
  (.node 10 (ref07_factor_0 x1)
   (.node 16 (ref07_factor_0 x2)
    (.node 22 (Decidable.decide (x3 < -4000000000))
     (.leaf (some (.int .i64 (6))))
     (.node 27 (Decidable.decide (x3 > 4000000000))
      (.leaf (some (.int .i64 (6))))
      (.node 31 (x0 == 0)
       (.node 35 (x1 == 0)
        (.node 40 (x2 == 0)
         (.leaf (some (.int .i64 (1))))
         (.leaf (some (.int .i64 (0)))))
        (.leaf (some (.int .i64 (0)))))
       (.leaf (some (.int .i64 (0)))))))
    (.leaf (some (.int .i64 (6)))))
   (.leaf (some (.int .i64 (6)))))
  (.leaf (some (.int .i64 (6))))
theorem tree15_eq (x0 x1 x2 x3 : Int) : vals (evFnT Try.prog (tb Try.prog tab11) (tbT Try.prog tab11) [(5, 0), (10, 0), (16, 0), (22, 0), (27, 0), (31, 0), (35, 0), (40, 0)] 300 15 #[.agg #[.int .i64 x0, .int .i64 x1, .int .i64 x2, .int .i64 x3]] []) = tree15 x0 x1 x2 x3 := by kernel_rfl
theorem tree15_res (x0 x1 x2 x3 : Int) : (tree15 x0 x1 x2 x3).res = some (.int .i64 (ref07_Check_0 x0 x1 x2 x3)) := by
  unfold tree15 ref07_Check_0
  simp only [Tr.res]
  generalize (ref07_factor_0 x0) = b0
  generalize (ref07_factor_0 x1) = b1
  generalize (ref07_factor_0 x2) = b2
  generalize (Decidable.decide (x3 < -4000000000)) = b3
  generalize (Decidable.decide (x3 > 4000000000)) = b4
  generalize (x0 == 0) = b5
  generalize (x1 == 0) = b6
  generalize (x2 == 0) = b7
  cases b0 with
  | true =>
   cases b1 with
   | true =>
    cases b2 with
    | true =>
     cases b3 with
     | true =>
      first | (simp only [if_true, Bool.false_eq_true, if_false]; done) | rfl
     | false =>
      cases b4 with
      | true =>
       first | (simp only [if_true, Bool.false_eq_true, if_false]; done) | rfl
      | false =>
       cases b5 with
       | true =>
        cases b6 with
        | true =>
         cases b7 with
         | true =>
          first | (simp only [if_true, Bool.false_eq_true, if_false]; done) | rfl
         | false =>
          first | (simp only [if_true, Bool.false_eq_true, if_false]; done) | rfl
        | false =>
         first | (simp only [if_true, Bool.false_eq_true, if_false]; done) | rfl
       | false =>
        first | (simp only [if_true, Bool.false_eq_true, if_false]; done) | rfl
    | false =>
     first | (simp only [if_true, Bool.false_eq_true, if_false]; done) | rfl
   | false =>
    first | (simp only [if_true, Bool.false_eq_true, if_false]; done) | rfl
  | false =>
   first | (simp only [if_true, Bool.false_eq_true, if_false]; done) | rfl
theorem tab12_ok : TabOk Try.prog tab12 := tab_cons mixed tab11_ok fun args v h => by
  unfold ans15 at h
  split at h
  · rename_i c0 h0
    split at h
    · rename_i x0 x1 x2 x3 h1
      injection h with h; subst h
      obtain rfl : c0 = #[.int .i64 x0, .int .i64 x1, .int .i64 x2, .int .i64 x3] := by rw [← Array.toArray_toList (xs := c0), h1]
      obtain rfl : args = #[.agg #[.int .i64 x0, .int .i64 x1, .int .i64 x2, .int .i64 x3]] := by rw [← Array.toArray_toList (xs := args), h0]
      exact ⟨rfl, rfl, [(5, 0), (10, 0), (16, 0), (22, 0), (27, 0), (31, 0), (35, 0), (40, 0)], 300, by rw [tree15_eq]; exact tree15_res _ _ _ _⟩
    · cases h
  · cases h

/- gangsaw/gangsawref03.in -/
def ref03_in_0 (x0 : Int) : Bool :=
  if Decidable.decide (x0 ≥ -1000000) then (if Decidable.decide (x0 ≤ 1000000) then (Bool.true) else (Bool.false)) else (Bool.false)
def ans37 : Ans := fun args => match args.toList with
  | [.int .i64 x0] => some (.bool (ref03_in_0 x0))
  | _ => none
def tab13 : Tab := (37, .ans ans37) :: tab12
def tree37 (x0 : Int) : Tr Value :=
  .node 4 (Decidable.decide (x0 ≥ -1000000))
  (.node 7 (Decidable.decide (x0 ≤ 1000000))
   (.leaf (some (.bool (Bool.true))))
   (.leaf (some (.bool (Bool.false)))))
  (.leaf (some (.bool (Bool.false))))
theorem tree37_eq (x0 : Int) : vals (evFnT Try.prog (tb Try.prog tab12) (tbT Try.prog tab12) [(4, 0), (7, 0)] 300 37 #[.int .i64 x0] []) = tree37 x0 := by kernel_rfl
theorem tree37_res (x0 : Int) : (tree37 x0).res = some (.bool (ref03_in_0 x0)) := by
  unfold tree37 ref03_in_0
  simp only [Tr.res]
  generalize (Decidable.decide (x0 ≥ -1000000)) = b0
  generalize (Decidable.decide (x0 ≤ 1000000)) = b1
  cases b0 with
  | true =>
   cases b1 with
   | true =>
    first | (simp only [if_true, Bool.false_eq_true, if_false]; done) | rfl
   | false =>
    first | (simp only [if_true, Bool.false_eq_true, if_false]; done) | rfl
  | false =>
   first | (simp only [if_true, Bool.false_eq_true, if_false]; done) | rfl
theorem tab13_ok : TabOk Try.prog tab13 := tab_cons mixed tab12_ok fun args v h => by
  unfold ans37 at h
  split at h
  · rename_i x0 h0
    injection h with h; subst h
    obtain rfl : args = #[.int .i64 x0] := by rw [← Array.toArray_toList (xs := args), h0]
    exact ⟨rfl, rfl, [(4, 0), (7, 0)], 300, by rw [tree37_eq]; exact tree37_res _⟩
  · cases h

/- gangsaw/gangsawref03.In -/
def ref03_In_0 (x0 x1 x2 : Int) : Bool :=
  if ref03_in_0 x0 then (if ref03_in_0 x1 then (if ref03_in_0 x2 then (Bool.true) else (Bool.false)) else (Bool.false)) else (Bool.false)
def ans16 : Ans := fun args => match args.toList with
  | [.agg c0] => match c0.toList with
    | [.int .i64 x0, .int .i64 x1, .int .i64 x2] => some (.bool (ref03_In_0 x0 x1 x2))
    | _ => none
  | _ => none
def tab14 : Tab := (16, .ans ans16) :: tab13
def tree16 (x0 x1 x2 : Int) : Tr Value :=
  .node 5 (ref03_in_0 x0)
  (.node 9 (ref03_in_0 x1)
   (.node 14 (ref03_in_0 x2)
    (.leaf (some (.bool (Bool.true))))
    (.leaf (some (.bool (Bool.false)))))
   (.leaf (some (.bool (Bool.false)))))
  (.leaf (some (.bool (Bool.false))))
theorem tree16_eq (x0 x1 x2 : Int) : vals (evFnT Try.prog (tb Try.prog tab13) (tbT Try.prog tab13) [(5, 0), (9, 0), (14, 0)] 300 16 #[.agg #[.int .i64 x0, .int .i64 x1, .int .i64 x2]] []) = tree16 x0 x1 x2 := by kernel_rfl
theorem tree16_res (x0 x1 x2 : Int) : (tree16 x0 x1 x2).res = some (.bool (ref03_In_0 x0 x1 x2)) := by
  unfold tree16 ref03_In_0
  simp only [Tr.res]
  generalize (ref03_in_0 x0) = b0
  generalize (ref03_in_0 x1) = b1
  generalize (ref03_in_0 x2) = b2
  cases b0 with
  | true =>
   cases b1 with
   | true =>
    cases b2 with
    | true =>
     first | (simp only [if_true, Bool.false_eq_true, if_false]; done) | rfl
    | false =>
     first | (simp only [if_true, Bool.false_eq_true, if_false]; done) | rfl
   | false =>
    first | (simp only [if_true, Bool.false_eq_true, if_false]; done) | rfl
  | false =>
   first | (simp only [if_true, Bool.false_eq_true, if_false]; done) | rfl
theorem tab14_ok : TabOk Try.prog tab14 := tab_cons mixed tab13_ok fun args v h => by
  unfold ans16 at h
  split at h
  · rename_i c0 h0
    split at h
    · rename_i x0 x1 x2 h1
      injection h with h; subst h
      obtain rfl : c0 = #[.int .i64 x0, .int .i64 x1, .int .i64 x2] := by rw [← Array.toArray_toList (xs := c0), h1]
      obtain rfl : args = #[.agg #[.int .i64 x0, .int .i64 x1, .int .i64 x2]] := by rw [← Array.toArray_toList (xs := args), h0]
      exact ⟨rfl, rfl, [(5, 0), (9, 0), (14, 0)], 300, by rw [tree16_eq]; exact tree16_res _ _ _⟩
    · cases h
  · cases h

/- gangsaw/gangsawref07.Value -/
def ref07_Value_0 (x0 x1 x2 x3 x4 x5 x6 : Int) : Int :=
  (IntKind.i64.wrap (IntKind.i64.wrap (IntKind.i64.wrap (IntKind.i64.wrap (x0 * x4) + IntKind.i64.wrap (x1 * x5)) + IntKind.i64.wrap (x2 * x6)) - x3))
def ans17 : Ans := fun args => match args.toList with
  | [.agg c0, .agg c1] => match c0.toList, c1.toList with
    | [.int .i64 x0, .int .i64 x1, .int .i64 x2, .int .i64 x3], [.int .i64 x4, .int .i64 x5, .int .i64 x6] => some (.int .i64 (ref07_Value_0 x0 x1 x2 x3 x4 x5 x6))
    | _, _ => none
  | _ => none
def tab15 : Tab := (17, .ans ans17) :: tab14
def tree17 (x0 x1 x2 x3 x4 x5 x6 : Int) : Tr Value :=
  .leaf (some (.int .i64 (IntKind.i64.wrap (IntKind.i64.wrap (IntKind.i64.wrap (IntKind.i64.wrap (x0 * x4) + IntKind.i64.wrap (x1 * x5)) + IntKind.i64.wrap (x2 * x6)) - x3))))
theorem tree17_eq (x0 x1 x2 x3 x4 x5 x6 : Int) : vals (evFnT Try.prog (tb Try.prog tab14) (tbT Try.prog tab14) [] 300 17 #[.agg #[.int .i64 x0, .int .i64 x1, .int .i64 x2, .int .i64 x3], .agg #[.int .i64 x4, .int .i64 x5, .int .i64 x6]] []) = tree17 x0 x1 x2 x3 x4 x5 x6 := by kernel_rfl
theorem tree17_res (x0 x1 x2 x3 x4 x5 x6 : Int) : (tree17 x0 x1 x2 x3 x4 x5 x6).res = some (.int .i64 (ref07_Value_0 x0 x1 x2 x3 x4 x5 x6)) := by
  rfl
theorem tab15_ok : TabOk Try.prog tab15 := tab_cons mixed tab14_ok fun args v h => by
  unfold ans17 at h
  split at h
  · rename_i c0 c1 h0
    split at h
    · rename_i x0 x1 x2 x3 x4 x5 x6 h1 h2
      injection h with h; subst h
      obtain rfl : c0 = #[.int .i64 x0, .int .i64 x1, .int .i64 x2, .int .i64 x3] := by rw [← Array.toArray_toList (xs := c0), h1]
      obtain rfl : c1 = #[.int .i64 x4, .int .i64 x5, .int .i64 x6] := by rw [← Array.toArray_toList (xs := c1), h2]
      obtain rfl : args = #[.agg #[.int .i64 x0, .int .i64 x1, .int .i64 x2, .int .i64 x3], .agg #[.int .i64 x4, .int .i64 x5, .int .i64 x6]] := by rw [← Array.toArray_toList (xs := args), h0]
      exact ⟨rfl, rfl, [], 300, by rw [tree17_eq]; exact tree17_res _ _ _ _ _ _ _⟩
    · cases h
  · cases h

/- gangsaw/gangsawlaw07.PlaneValues -/
def law07_PlaneValues_0 (x0 x1 x2 x3 x4 x5 x6 : Int) : Bool :=
  if plane_Check_0 x0 x1 x2 x3 != ref07_Check_0 x0 x1 x2 x3 then (Bool.false) else if ref07_Check_0 x0 x1 x2 x3 != 0 then (if plane_Value_1 x0 x1 x2 x3 x4 x5 x6 == ref07_Check_0 x0 x1 x2 x3 then (if plane_Value_0 x0 x1 x2 x3 x4 x5 x6 == 0 then (Bool.true) else (Bool.false)) else (Bool.false)) else if ref03_In_0 x4 x5 x6 then (if plane_Value_1 x0 x1 x2 x3 x4 x5 x6 == 0 then (if plane_Value_0 x0 x1 x2 x3 x4 x5 x6 == ref07_Value_0 x0 x1 x2 x3 x4 x5 x6 then (Bool.true) else (Bool.false)) else (Bool.false)) else if plane_Value_1 x0 x1 x2 x3 x4 x5 x6 == 6 then (if plane_Value_0 x0 x1 x2 x3 x4 x5 x6 == 0 then (Bool.true) else (Bool.false)) else (Bool.false)
def ans3 : Ans := fun args => match args.toList with
  | [.agg c0, .agg c1] => match c0.toList, c1.toList with
    | [.int .i64 x0, .int .i64 x1, .int .i64 x2, .int .i64 x3], [.int .i64 x4, .int .i64 x5, .int .i64 x6] => some (.bool (law07_PlaneValues_0 x0 x1 x2 x3 x4 x5 x6))
    | _, _ => none
  | _ => none
def tab16 : Tab := (3, .ans ans3) :: tab15
def tree3 (x0 x1 x2 x3 x4 x5 x6 : Int) : Tr Value :=
  .node 20 (plane_Check_0 x0 x1 x2 x3 != ref07_Check_0 x0 x1 x2 x3)
  (.leaf (some (.bool (Bool.false))))
  (.node 24 (ref07_Check_0 x0 x1 x2 x3 != 0)
   (.node 27 (plane_Value_1 x0 x1 x2 x3 x4 x5 x6 == ref07_Check_0 x0 x1 x2 x3)
    (.node 30 (plane_Value_0 x0 x1 x2 x3 x4 x5 x6 == 0)
     (.leaf (some (.bool (Bool.true))))
     (.leaf (some (.bool (Bool.false)))))
    (.leaf (some (.bool (Bool.false)))))
   (.node 33 (ref03_In_0 x4 x5 x6)
    (.node 42 (plane_Value_1 x0 x1 x2 x3 x4 x5 x6 == 0)
     (.node 48 (plane_Value_0 x0 x1 x2 x3 x4 x5 x6 == ref07_Value_0 x0 x1 x2 x3 x4 x5 x6)
      (.leaf (some (.bool (Bool.true))))
      (.leaf (some (.bool (Bool.false)))))
     (.leaf (some (.bool (Bool.false)))))
    (.node 36 (plane_Value_1 x0 x1 x2 x3 x4 x5 x6 == 6)
     (.node 39 (plane_Value_0 x0 x1 x2 x3 x4 x5 x6 == 0)
      (.leaf (some (.bool (Bool.true))))
      (.leaf (some (.bool (Bool.false)))))
     (.leaf (some (.bool (Bool.false)))))))
theorem tree3_eq (x0 x1 x2 x3 x4 x5 x6 : Int) : vals (evFnT Try.prog (tb Try.prog tab15) (tbT Try.prog tab15) [(20, 0), (24, 0), (27, 0), (30, 0), (33, 0), (36, 0), (39, 0), (42, 0), (48, 0)] 300 3 #[.agg #[.int .i64 x0, .int .i64 x1, .int .i64 x2, .int .i64 x3], .agg #[.int .i64 x4, .int .i64 x5, .int .i64 x6]] []) = tree3 x0 x1 x2 x3 x4 x5 x6 := by kernel_rfl
theorem tree3_res (x0 x1 x2 x3 x4 x5 x6 : Int) : (tree3 x0 x1 x2 x3 x4 x5 x6).res = some (.bool (law07_PlaneValues_0 x0 x1 x2 x3 x4 x5 x6)) := by
  unfold tree3 law07_PlaneValues_0
  simp only [Tr.res]
  generalize (plane_Check_0 x0 x1 x2 x3 != ref07_Check_0 x0 x1 x2 x3) = b0
  generalize (ref07_Check_0 x0 x1 x2 x3 != 0) = b1
  generalize (plane_Value_1 x0 x1 x2 x3 x4 x5 x6 == ref07_Check_0 x0 x1 x2 x3) = b2
  generalize (plane_Value_0 x0 x1 x2 x3 x4 x5 x6 == 0) = b3
  generalize (ref03_In_0 x4 x5 x6) = b4
  generalize (plane_Value_1 x0 x1 x2 x3 x4 x5 x6 == 0) = b5
  generalize (plane_Value_0 x0 x1 x2 x3 x4 x5 x6 == ref07_Value_0 x0 x1 x2 x3 x4 x5 x6) = b6
  generalize (plane_Value_1 x0 x1 x2 x3 x4 x5 x6 == 6) = b7
  cases b0 with
  | true =>
   first | (simp only [if_true, Bool.false_eq_true, if_false]; done) | rfl
  | false =>
   cases b1 with
   | true =>
    cases b2 with
    | true =>
     cases b3 with
     | true =>
      first | (simp only [if_true, Bool.false_eq_true, if_false]; done) | rfl
     | false =>
      first | (simp only [if_true, Bool.false_eq_true, if_false]; done) | rfl
    | false =>
     first | (simp only [if_true, Bool.false_eq_true, if_false]; done) | rfl
   | false =>
    cases b4 with
    | true =>
     cases b5 with
     | true =>
      cases b6 with
      | true =>
       first | (simp only [if_true, Bool.false_eq_true, if_false]; done) | rfl
      | false =>
       first | (simp only [if_true, Bool.false_eq_true, if_false]; done) | rfl
     | false =>
      first | (simp only [if_true, Bool.false_eq_true, if_false]; done) | rfl
    | false =>
     cases b7 with
     | true =>
      cases b3 with
      | true =>
       first | (simp only [if_true, Bool.false_eq_true, if_false]; done) | rfl
      | false =>
       first | (simp only [if_true, Bool.false_eq_true, if_false]; done) | rfl
     | false =>
      first | (simp only [if_true, Bool.false_eq_true, if_false]; done) | rfl
theorem tab16_ok : TabOk Try.prog tab16 := tab_cons mixed tab15_ok fun args v h => by
  unfold ans3 at h
  split at h
  · rename_i c0 c1 h0
    split at h
    · rename_i x0 x1 x2 x3 x4 x5 x6 h1 h2
      injection h with h; subst h
      obtain rfl : c0 = #[.int .i64 x0, .int .i64 x1, .int .i64 x2, .int .i64 x3] := by rw [← Array.toArray_toList (xs := c0), h1]
      obtain rfl : c1 = #[.int .i64 x4, .int .i64 x5, .int .i64 x6] := by rw [← Array.toArray_toList (xs := c1), h2]
      obtain rfl : args = #[.agg #[.int .i64 x0, .int .i64 x1, .int .i64 x2, .int .i64 x3], .agg #[.int .i64 x4, .int .i64 x5, .int .i64 x6]] := by rw [← Array.toArray_toList (xs := args), h0]
      exact ⟨rfl, rfl, [(20, 0), (24, 0), (27, 0), (30, 0), (33, 0), (36, 0), (39, 0), (42, 0), (48, 0)], 300, by rw [tree3_eq]; exact tree3_res _ _ _ _ _ _ _⟩
    · cases h
  · cases h
end Go.Proofs.Ytdbdoagljioijaa.Vx
