/- The answers of the functions of the package and of its reference, read off their texts. -/
import Derived.Test.YtkllldhkikmbbaaXA
namespace Go.Proofs.Ytkllldhkikmbbaa.Vx
open Go Go.RowKit Go.Proofs
set_option maxRecDepth 100000
set_option linter.unusedVariables false
set_option linter.unusedSimpArgs false
def tab0 : Tab := []
theorem tab0_ok : TabOk Try.prog tab0 := tab_nil

/- gangsaw/gangsawlaw07.awake -/
def ans12 : Ans := fun args => match args.toList with
  | [] => some (.bool true)
  | _ => none
def tab1 : Tab := (12, .ans ans12) :: tab0
theorem tab1_ok : TabOk Try.prog tab1 := tab_put tab0_ok (by decide) fun args v h => by
  unfold ans12 at h
  split at h
  · rename_i h0
    injection h with h; subst h
    obtain rfl : args = #[] := by rw [← Array.toArray_toList (xs := args), h0]
    exact ⟨rfl, rfl, fun w => awake_any w⟩
  · cases h

/- gangsaw/plane.across -/
def ans34 : Ans := fun args => match args.toList with
  | [.agg c0] => match c0.toList with
    | [.int .i64 x0, .int .i64 x1, .int .i64 x2, .int .i64 x3] => some (.agg #[.int .i64 (x0), .int .i64 (x1), .int .i64 (x2)])
    | _ => none
  | _ => none
def tab2 : Tab := (34, .ans ans34) :: tab1
def tree34 (x0 x1 x2 x3 : Int) : Tr Value :=
  .leaf (some (.agg #[.int .i64 (x0), .int .i64 (x1), .int .i64 (x2)]))
theorem tree34_eq (x0 x1 x2 x3 : Int) : vals (evFnT Try.prog (tb Try.prog tab1) (tbT Try.prog tab1) ⟨[], [], []⟩ noLoops 300 34 #[.agg #[.int .i64 x0, .int .i64 x1, .int .i64 x2, .int .i64 x3]] []) = tree34 x0 x1 x2 x3 := by kernel_rfl
theorem tree34_res (x0 x1 x2 x3 : Int) : (tree34 x0 x1 x2 x3).res = some (.agg #[.int .i64 (x0), .int .i64 (x1), .int .i64 (x2)]) := by
  rfl
theorem tab2_ok : TabOk Try.prog tab2 := tab_cons mixed tab1_ok (by decide) fun args v h => by
  unfold ans34 at h
  split at h
  · rename_i c0 h0
    split at h
    · rename_i x0 x1 x2 x3 h1
      injection h with h; subst h
      obtain rfl : c0 = #[.int .i64 x0, .int .i64 x1, .int .i64 x2, .int .i64 x3] := by rw [← Array.toArray_toList (xs := c0), h1]
      obtain rfl : args = #[.agg #[.int .i64 x0, .int .i64 x1, .int .i64 x2, .int .i64 x3]] := by rw [← Array.toArray_toList (xs := args), h0]
      exact ⟨rfl, rfl, ⟨[], [], []⟩, 300, by rw [tree34_eq]; exact tree34_res _ _ _ _⟩
    · cases h
  · cases h

/- gangsaw/plane.coordinates -/
def ans47 : Ans := fun args => match args.toList with
  | [.agg c0] => match c0.toList with
    | [.int .i64 x0, .int .i64 x1, .int .i64 x2] => some (.agg #[.int .i64 (x0), .int .i64 (x1), .int .i64 (x2)])
    | _ => none
  | _ => none
def tab3 : Tab := (47, .ans ans47) :: tab2
def tree47 (x0 x1 x2 : Int) : Tr Value :=
  .leaf (some (.agg #[.int .i64 (x0), .int .i64 (x1), .int .i64 (x2)]))
theorem tree47_eq (x0 x1 x2 : Int) : vals (evFnT Try.prog (tb Try.prog tab2) (tbT Try.prog tab2) ⟨[], [], []⟩ noLoops 300 47 #[.agg #[.int .i64 x0, .int .i64 x1, .int .i64 x2]] []) = tree47 x0 x1 x2 := by kernel_rfl
theorem tree47_res (x0 x1 x2 : Int) : (tree47 x0 x1 x2).res = some (.agg #[.int .i64 (x0), .int .i64 (x1), .int .i64 (x2)]) := by
  rfl
theorem tab3_ok : TabOk Try.prog tab3 := tab_cons mixed tab2_ok (by decide) fun args v h => by
  unfold ans47 at h
  split at h
  · rename_i c0 h0
    split at h
    · rename_i x0 x1 x2 h1
      injection h with h; subst h
      obtain rfl : c0 = #[.int .i64 x0, .int .i64 x1, .int .i64 x2] := by rw [← Array.toArray_toList (xs := c0), h1]
      obtain rfl : args = #[.agg #[.int .i64 x0, .int .i64 x1, .int .i64 x2]] := by rw [← Array.toArray_toList (xs := args), h0]
      exact ⟨rfl, rfl, ⟨[], [], []⟩, 300, by rw [tree47_eq]; exact tree47_res _ _ _⟩
    · cases h
  · cases h

/- gangsaw/plane.coefficients -/
def ans35 : Ans := fun args => match args.toList with
  | [.agg c0] => match c0.toList with
    | [.int .i64 x0, .int .i64 x1, .int .i64 x2, .int .i64 x3] => some (.agg #[.int .i64 (x0), .int .i64 (x1), .int .i64 (x2)])
    | _ => none
  | _ => none
def tab4 : Tab := (35, .ans ans35) :: tab3
def tree35 (x0 x1 x2 x3 : Int) : Tr Value :=
  .leaf (some (.agg #[.int .i64 (x0), .int .i64 (x1), .int .i64 (x2)]))
theorem tree35_eq (x0 x1 x2 x3 : Int) : vals (evFnT Try.prog (tb Try.prog tab3) (tbT Try.prog tab3) ⟨[], [], []⟩ noLoops 300 35 #[.agg #[.int .i64 x0, .int .i64 x1, .int .i64 x2, .int .i64 x3]] []) = tree35 x0 x1 x2 x3 := by kernel_rfl
theorem tree35_res (x0 x1 x2 x3 : Int) : (tree35 x0 x1 x2 x3).res = some (.agg #[.int .i64 (x0), .int .i64 (x1), .int .i64 (x2)]) := by
  rfl
theorem tab4_ok : TabOk Try.prog tab4 := tab_cons mixed tab3_ok (by decide) fun args v h => by
  unfold ans35 at h
  split at h
  · rename_i c0 h0
    split at h
    · rename_i x0 x1 x2 x3 h1
      injection h with h; subst h
      obtain rfl : c0 = #[.int .i64 x0, .int .i64 x1, .int .i64 x2, .int .i64 x3] := by rw [← Array.toArray_toList (xs := c0), h1]
      obtain rfl : args = #[.agg #[.int .i64 x0, .int .i64 x1, .int .i64 x2, .int .i64 x3]] := by rw [← Array.toArray_toList (xs := args), h0]
      exact ⟨rfl, rfl, ⟨[], [], []⟩, 300, by rw [tree35_eq]; exact tree35_res _ _ _ _⟩
    · cases h
  · cases h

/- gangsaw/plane.Check -/
def plane_Check_0 (x0 x1 x2 x3 : Int) : Int :=
  if Decidable.decide (x0 < -1000) then (6) else if Decidable.decide (x0 > 1000) then (6) else if Decidable.decide (x1 < -1000) then (6) else if Decidable.decide (x1 > 1000) then (6) else if Decidable.decide (x2 < -1000) then (6) else if Decidable.decide (x2 > 1000) then (6) else if Decidable.decide (x3 < -4000000000) then (6) else if Decidable.decide (x3 > 4000000000) then (6) else if x0 == 0 && (x1 == 0 && (x2 == 0 && Bool.true)) then (1) else (0)
def ans14 : Ans := fun args => match args.toList with
  | [.agg c0] => match c0.toList with
    | [.int .i64 x0, .int .i64 x1, .int .i64 x2, .int .i64 x3] => some (.int .i64 (plane_Check_0 x0 x1 x2 x3))
    | _ => none
  | _ => none
def tab5 : Tab := (14, .ans ans14) :: tab4
def tree14 (x0 x1 x2 x3 : Int) : Tr Value :=
  .node 11 (Decidable.decide (x0 < -1000))
  (.leaf (some (.int .i64 (6))))
  (.node 14 (Decidable.decide (x0 > 1000))
   (.leaf (some (.int .i64 (6))))
   (.node 11 (Decidable.decide (x1 < -1000))
    (.leaf (some (.int .i64 (6))))
    (.node 14 (Decidable.decide (x1 > 1000))
     (.leaf (some (.int .i64 (6))))
     (.node 11 (Decidable.decide (x2 < -1000))
      (.leaf (some (.int .i64 (6))))
      (.node 14 (Decidable.decide (x2 > 1000))
       (.leaf (some (.int .i64 (6))))
       (.node 19 (Decidable.decide (x3 < -4000000000))
        (.leaf (some (.int .i64 (6))))
        (.node 23 (Decidable.decide (x3 > 4000000000))
         (.leaf (some (.int .i64 (6))))
         (.node 28 (x0 == 0 && (x1 == 0 && (x2 == 0 && Bool.true)))
          (.leaf (some (.int .i64 (1))))
          (.leaf (some (.int .i64 (0))))))))))))
theorem tree14_eq (x0 x1 x2 x3 : Int) : vals (evFnT Try.prog (tb Try.prog tab4) (tbT Try.prog tab4) ⟨[(11, 0), (14, 0), (19, 0), (23, 0), (28, 0)], [], []⟩ noLoops 300 14 #[.agg #[.int .i64 x0, .int .i64 x1, .int .i64 x2, .int .i64 x3]] []) = tree14 x0 x1 x2 x3 := by kernel_rfl
theorem tree14_res (x0 x1 x2 x3 : Int) : (tree14 x0 x1 x2 x3).res = some (.int .i64 (plane_Check_0 x0 x1 x2 x3)) := by
  unfold tree14 plane_Check_0
  simp only [Tr.res]
  generalize (Decidable.decide (x0 < -1000)) = b0
  generalize (Decidable.decide (x0 > 1000)) = b1
  generalize (Decidable.decide (x1 < -1000)) = b2
  generalize (Decidable.decide (x1 > 1000)) = b3
  generalize (Decidable.decide (x2 < -1000)) = b4
  generalize (Decidable.decide (x2 > 1000)) = b5
  generalize (Decidable.decide (x3 < -4000000000)) = b6
  generalize (Decidable.decide (x3 > 4000000000)) = b7
  generalize (x0 == 0 && (x1 == 0 && (x2 == 0 && Bool.true))) = b8
  cases b0 with
  | true =>
   first | (simp only [if_true, Bool.false_eq_true, if_false]; done) | rfl
  | false =>
   cases b1 with
   | true =>
    first | (simp only [if_true, Bool.false_eq_true, if_false]; done) | rfl
   | false =>
    cases b2 with
    | true =>
     first | (simp only [if_true, Bool.false_eq_true, if_false]; done) | rfl
    | false =>
     cases b3 with
     | true =>
      first | (simp only [if_true, Bool.false_eq_true, if_false]; done) | rfl
     | false =>
      cases b4 with
      | true =>
       first | (simp only [if_true, Bool.false_eq_true, if_false]; done) | rfl
      | false =>
       cases b5 with
       | true =>
        first | (simp only [if_true, Bool.false_eq_true, if_false]; done) | rfl
       | false =>
        cases b6 with
        | true =>
         first | (simp only [if_true, Bool.false_eq_true, if_false]; done) | rfl
        | false =>
         cases b7 with
         | true =>
          first | (simp only [if_true, Bool.false_eq_true, if_false]; done) | rfl
         | false =>
          cases b8 with
          | true =>
           first | (simp only [if_true, Bool.false_eq_true, if_false]; done) | rfl
          | false =>
           first | (simp only [if_true, Bool.false_eq_true, if_false]; done) | rfl
theorem tab5_ok : TabOk Try.prog tab5 := tab_cons mixed tab4_ok (by decide) fun args v h => by
  unfold ans14 at h
  split at h
  · rename_i c0 h0
    split at h
    · rename_i x0 x1 x2 x3 h1
      injection h with h; subst h
      obtain rfl : c0 = #[.int .i64 x0, .int .i64 x1, .int .i64 x2, .int .i64 x3] := by rw [← Array.toArray_toList (xs := c0), h1]
      obtain rfl : args = #[.agg #[.int .i64 x0, .int .i64 x1, .int .i64 x2, .int .i64 x3]] := by rw [← Array.toArray_toList (xs := args), h0]
      exact ⟨rfl, rfl, ⟨[(11, 0), (14, 0), (19, 0), (23, 0), (28, 0)], [], []⟩, 300, by rw [tree14_eq]; exact tree14_res _ _ _ _⟩
    · cases h
  · cases h

/- gangsaw/vector.coordinates -/
def ans54 : Ans := fun args => match args.toList with
  | [.agg c0] => match c0.toList with
    | [.int .i64 x0, .int .i64 x1, .int .i64 x2] => some (.agg #[.int .i64 (x0), .int .i64 (x1), .int .i64 (x2)])
    | _ => none
  | _ => none
def tab6 : Tab := (54, .ans ans54) :: tab5
def tree54 (x0 x1 x2 : Int) : Tr Value :=
  .leaf (some (.agg #[.int .i64 (x0), .int .i64 (x1), .int .i64 (x2)]))
theorem tree54_eq (x0 x1 x2 : Int) : vals (evFnT Try.prog (tb Try.prog tab5) (tbT Try.prog tab5) ⟨[], [], []⟩ noLoops 300 54 #[.agg #[.int .i64 x0, .int .i64 x1, .int .i64 x2]] []) = tree54 x0 x1 x2 := by kernel_rfl
theorem tree54_res (x0 x1 x2 : Int) : (tree54 x0 x1 x2).res = some (.agg #[.int .i64 (x0), .int .i64 (x1), .int .i64 (x2)]) := by
  rfl
theorem tab6_ok : TabOk Try.prog tab6 := tab_cons mixed tab5_ok (by decide) fun args v h => by
  unfold ans54 at h
  split at h
  · rename_i c0 h0
    split at h
    · rename_i x0 x1 x2 h1
      injection h with h; subst h
      obtain rfl : c0 = #[.int .i64 x0, .int .i64 x1, .int .i64 x2] := by rw [← Array.toArray_toList (xs := c0), h1]
      obtain rfl : args = #[.agg #[.int .i64 x0, .int .i64 x1, .int .i64 x2]] := by rw [← Array.toArray_toList (xs := args), h0]
      exact ⟨rfl, rfl, ⟨[], [], []⟩, 300, by rw [tree54_eq]; exact tree54_res _ _ _⟩
    · cases h
  · cases h

/- gangsaw/vector.checkAll -/
def tab7 : Tab := (52, .inl ⟨[(19, 0), (22, 0)], [], []⟩ 300) :: tab6
theorem tab7_ok : TabOk Try.prog tab7 := tab_inl mixed tab6_ok _ _ _

/- gangsaw/vector.dot -/
def vector_dot_0 (x0 x1 x2 x3 x4 x5 : Int) : Int :=
  (IntKind.i64.wrap (IntKind.i64.wrap (IntKind.i64.wrap (0 + IntKind.i64.wrap (x0 * x3)) + IntKind.i64.wrap (x1 * x4)) + IntKind.i64.wrap (x2 * x5)))
def ans53 : Ans := fun args => match args.toList with
  | [.agg c0, .agg c1] => match c0.toList, c1.toList with
    | [.int .i64 x0, .int .i64 x1, .int .i64 x2], [.int .i64 x3, .int .i64 x4, .int .i64 x5] => some (.int .i64 (vector_dot_0 x0 x1 x2 x3 x4 x5))
    | _, _ => none
  | _ => none
def tab8 : Tab := (53, .ans ans53) :: tab7
def tree53 (x0 x1 x2 x3 x4 x5 : Int) : Tr Value :=
  .leaf (some (.int .i64 (IntKind.i64.wrap (IntKind.i64.wrap (IntKind.i64.wrap (0 + IntKind.i64.wrap (x0 * x3)) + IntKind.i64.wrap (x1 * x4)) + IntKind.i64.wrap (x2 * x5)))))
theorem tree53_eq (x0 x1 x2 x3 x4 x5 : Int) : vals (evFnT Try.prog (tb Try.prog tab7) (tbT Try.prog tab7) ⟨[], [], []⟩ noLoops 300 53 #[.agg #[.int .i64 x0, .int .i64 x1, .int .i64 x2], .agg #[.int .i64 x3, .int .i64 x4, .int .i64 x5]] []) = tree53 x0 x1 x2 x3 x4 x5 := by kernel_rfl
theorem tree53_res (x0 x1 x2 x3 x4 x5 : Int) : (tree53 x0 x1 x2 x3 x4 x5).res = some (.int .i64 (vector_dot_0 x0 x1 x2 x3 x4 x5)) := by
  rfl
theorem tab8_ok : TabOk Try.prog tab8 := tab_cons mixed tab7_ok (by decide) fun args v h => by
  unfold ans53 at h
  split at h
  · rename_i c0 c1 h0
    split at h
    · rename_i x0 x1 x2 x3 x4 x5 h1 h2
      injection h with h; subst h
      obtain rfl : c0 = #[.int .i64 x0, .int .i64 x1, .int .i64 x2] := by rw [← Array.toArray_toList (xs := c0), h1]
      obtain rfl : c1 = #[.int .i64 x3, .int .i64 x4, .int .i64 x5] := by rw [← Array.toArray_toList (xs := c1), h2]
      obtain rfl : args = #[.agg #[.int .i64 x0, .int .i64 x1, .int .i64 x2], .agg #[.int .i64 x3, .int .i64 x4, .int .i64 x5]] := by rw [← Array.toArray_toList (xs := args), h0]
      exact ⟨rfl, rfl, ⟨[], [], []⟩, 300, by rw [tree53_eq]; exact tree53_res _ _ _ _ _ _⟩
    · cases h
  · cases h

/- gangsaw/vector.Dot -/
def vector_Dot_0 (x0 x1 x2 x3 x4 x5 : Int) : Int :=
  if Decidable.decide (x0 < -1000000) then (0) else if Decidable.decide (x0 > 1000000) then (0) else if Decidable.decide (x1 < -1000000) then (0) else if Decidable.decide (x1 > 1000000) then (0) else if Decidable.decide (x2 < -1000000) then (0) else if Decidable.decide (x2 > 1000000) then (0) else if Decidable.decide (x3 < -1000000) then (0) else if Decidable.decide (x3 > 1000000) then (0) else if Decidable.decide (x4 < -1000000) then (0) else if Decidable.decide (x4 > 1000000) then (0) else if Decidable.decide (x5 < -1000000) then (0) else if Decidable.decide (x5 > 1000000) then (0) else (vector_dot_0 x0 x1 x2 x3 x4 x5)
def vector_Dot_1 (x0 x1 x2 x3 x4 x5 : Int) : Int :=
  if Decidable.decide (x0 < -1000000) then (6) else if Decidable.decide (x0 > 1000000) then (6) else if Decidable.decide (x1 < -1000000) then (6) else if Decidable.decide (x1 > 1000000) then (6) else if Decidable.decide (x2 < -1000000) then (6) else if Decidable.decide (x2 > 1000000) then (6) else if Decidable.decide (x3 < -1000000) then (6) else if Decidable.decide (x3 > 1000000) then (6) else if Decidable.decide (x4 < -1000000) then (6) else if Decidable.decide (x4 > 1000000) then (6) else if Decidable.decide (x5 < -1000000) then (6) else if Decidable.decide (x5 > 1000000) then (6) else (0)
def ans33 : Ans := fun args => match args.toList with
  | [.agg c0, .agg c1] => match c0.toList, c1.toList with
    | [.int .i64 x0, .int .i64 x1, .int .i64 x2], [.int .i64 x3, .int .i64 x4, .int .i64 x5] => some (.tuple #[.int .i64 (vector_Dot_0 x0 x1 x2 x3 x4 x5), .int .i64 (vector_Dot_1 x0 x1 x2 x3 x4 x5)])
    | _, _ => none
  | _ => none
def tab9 : Tab := (33, .ans ans33) :: tab8
def tree33 (x0 x1 x2 x3 x4 x5 : Int) : Tr Value :=
  .node 19 (Decidable.decide (x0 < -1000000))
  (.leaf (some (.tuple #[.int .i64 (0), .int .i64 (6)])))
  (.node 22 (Decidable.decide (x0 > 1000000))
   (.leaf (some (.tuple #[.int .i64 (0), .int .i64 (6)])))
   (.node 19 (Decidable.decide (x1 < -1000000))
    (.leaf (some (.tuple #[.int .i64 (0), .int .i64 (6)])))
    (.node 22 (Decidable.decide (x1 > 1000000))
     (.leaf (some (.tuple #[.int .i64 (0), .int .i64 (6)])))
     (.node 19 (Decidable.decide (x2 < -1000000))
      (.leaf (some (.tuple #[.int .i64 (0), .int .i64 (6)])))
      (.node 22 (Decidable.decide (x2 > 1000000))
       (.leaf (some (.tuple #[.int .i64 (0), .int .i64 (6)])))
       (.node 19 (Decidable.decide (x3 < -1000000))
        (.leaf (some (.tuple #[.int .i64 (0), .int .i64 (6)])))
        (.node 22 (Decidable.decide (x3 > 1000000))
         (.leaf (some (.tuple #[.int .i64 (0), .int .i64 (6)])))
         (.node 19 (Decidable.decide (x4 < -1000000))
          (.leaf (some (.tuple #[.int .i64 (0), .int .i64 (6)])))
          (.node 22 (Decidable.decide (x4 > 1000000))
           (.leaf (some (.tuple #[.int .i64 (0), .int .i64 (6)])))
           (.node 19 (Decidable.decide (x5 < -1000000))
            (.leaf (some (.tuple #[.int .i64 (0), .int .i64 (6)])))
            (.node 22 (Decidable.decide (x5 > 1000000))
             (.leaf (some (.tuple #[.int .i64 (0), .int .i64 (6)])))
             (.leaf (some (.tuple #[.int .i64 (vector_dot_0 x0 x1 x2 x3 x4 x5), .int .i64 (0)]))))))))))))))
theorem tree33_eq (x0 x1 x2 x3 x4 x5 : Int) : vals (evFnT Try.prog (tb Try.prog tab8) (tbT Try.prog tab8) ⟨[], [], []⟩ noLoops 300 33 #[.agg #[.int .i64 x0, .int .i64 x1, .int .i64 x2], .agg #[.int .i64 x3, .int .i64 x4, .int .i64 x5]] []) = tree33 x0 x1 x2 x3 x4 x5 := by kernel_rfl
theorem tree33_res (x0 x1 x2 x3 x4 x5 : Int) : (tree33 x0 x1 x2 x3 x4 x5).res = some (.tuple #[.int .i64 (vector_Dot_0 x0 x1 x2 x3 x4 x5), .int .i64 (vector_Dot_1 x0 x1 x2 x3 x4 x5)]) := by
  unfold tree33 vector_Dot_0 vector_Dot_1
  simp only [Tr.res]
  generalize (Decidable.decide (x0 < -1000000)) = b0
  generalize (Decidable.decide (x0 > 1000000)) = b1
  generalize (Decidable.decide (x1 < -1000000)) = b2
  generalize (Decidable.decide (x1 > 1000000)) = b3
  generalize (Decidable.decide (x2 < -1000000)) = b4
  generalize (Decidable.decide (x2 > 1000000)) = b5
  generalize (Decidable.decide (x3 < -1000000)) = b6
  generalize (Decidable.decide (x3 > 1000000)) = b7
  generalize (Decidable.decide (x4 < -1000000)) = b8
  generalize (Decidable.decide (x4 > 1000000)) = b9
  generalize (Decidable.decide (x5 < -1000000)) = b10
  generalize (Decidable.decide (x5 > 1000000)) = b11
  cases b0 with
  | true =>
   first | (simp only [if_true, Bool.false_eq_true, if_false]; done) | rfl
  | false =>
   cases b1 with
   | true =>
    first | (simp only [if_true, Bool.false_eq_true, if_false]; done) | rfl
   | false =>
    cases b2 with
    | true =>
     first | (simp only [if_true, Bool.false_eq_true, if_false]; done) | rfl
    | false =>
     cases b3 with
     | true =>
      first | (simp only [if_true, Bool.false_eq_true, if_false]; done) | rfl
     | false =>
      cases b4 with
      | true =>
       first | (simp only [if_true, Bool.false_eq_true, if_false]; done) | rfl
      | false =>
       cases b5 with
       | true =>
        first | (simp only [if_true, Bool.false_eq_true, if_false]; done) | rfl
       | false =>
        cases b6 with
        | true =>
         first | (simp only [if_true, Bool.false_eq_true, if_false]; done) | rfl
        | false =>
         cases b7 with
         | true =>
          first | (simp only [if_true, Bool.false_eq_true, if_false]; done) | rfl
         | false =>
          cases b8 with
          | true =>
           first | (simp only [if_true, Bool.false_eq_true, if_false]; done) | rfl
          | false =>
           cases b9 with
           | true =>
            first | (simp only [if_true, Bool.false_eq_true, if_false]; done) | rfl
           | false =>
            cases b10 with
            | true =>
             first | (simp only [if_true, Bool.false_eq_true, if_false]; done) | rfl
            | false =>
             cases b11 with
             | true =>
              first | (simp only [if_true, Bool.false_eq_true, if_false]; done) | rfl
             | false =>
              first | (simp only [if_true, Bool.false_eq_true, if_false]; done) | rfl
theorem tab9_ok : TabOk Try.prog tab9 := tab_cons mixed tab8_ok (by decide) fun args v h => by
  unfold ans33 at h
  split at h
  · rename_i c0 c1 h0
    split at h
    · rename_i x0 x1 x2 x3 x4 x5 h1 h2
      injection h with h; subst h
      obtain rfl : c0 = #[.int .i64 x0, .int .i64 x1, .int .i64 x2] := by rw [← Array.toArray_toList (xs := c0), h1]
      obtain rfl : c1 = #[.int .i64 x3, .int .i64 x4, .int .i64 x5] := by rw [← Array.toArray_toList (xs := c1), h2]
      obtain rfl : args = #[.agg #[.int .i64 x0, .int .i64 x1, .int .i64 x2], .agg #[.int .i64 x3, .int .i64 x4, .int .i64 x5]] := by rw [← Array.toArray_toList (xs := args), h0]
      exact ⟨rfl, rfl, ⟨[], [], []⟩, 300, by rw [tree33_eq]; exact tree33_res _ _ _ _ _ _⟩
    · cases h
  · cases h

/- gangsaw/plane.Value -/
def plane_Value_0 (x0 x1 x2 x3 x4 x5 x6 : Int) : Int :=
  if plane_Check_0 x0 x1 x2 x3 != 0 then (0) else if vector_Dot_1 x0 x1 x2 x4 x5 x6 != 0 then (0) else (IntKind.i64.wrap (vector_Dot_0 x0 x1 x2 x4 x5 x6 - x3))
def plane_Value_1 (x0 x1 x2 x3 x4 x5 x6 : Int) : Int :=
  if plane_Check_0 x0 x1 x2 x3 != 0 then (plane_Check_0 x0 x1 x2 x3) else if vector_Dot_1 x0 x1 x2 x4 x5 x6 != 0 then (vector_Dot_1 x0 x1 x2 x4 x5 x6) else (0)
def ans13 : Ans := fun args => match args.toList with
  | [.agg c0, .agg c1] => match c0.toList, c1.toList with
    | [.int .i64 x0, .int .i64 x1, .int .i64 x2, .int .i64 x3], [.int .i64 x4, .int .i64 x5, .int .i64 x6] => some (.tuple #[.int .i64 (plane_Value_0 x0 x1 x2 x3 x4 x5 x6), .int .i64 (plane_Value_1 x0 x1 x2 x3 x4 x5 x6)])
    | _, _ => none
  | _ => none
def tab10 : Tab := (13, .ans ans13) :: tab9
def tree13 (x0 x1 x2 x3 x4 x5 x6 : Int) : Tr Value :=
  .node 12 (plane_Check_0 x0 x1 x2 x3 != 0)
  (.leaf (some (.tuple #[.int .i64 (0), .int .i64 (plane_Check_0 x0 x1 x2 x3)])))
  (.node 22 (vector_Dot_1 x0 x1 x2 x4 x5 x6 != 0)
   (.leaf (some (.tuple #[.int .i64 (0), .int .i64 (vector_Dot_1 x0 x1 x2 x4 x5 x6)])))
   (.leaf (some (.tuple #[.int .i64 (IntKind.i64.wrap (vector_Dot_0 x0 x1 x2 x4 x5 x6 - x3)), .int .i64 (0)]))))
theorem tree13_eq (x0 x1 x2 x3 x4 x5 x6 : Int) : vals (evFnT Try.prog (tb Try.prog tab9) (tbT Try.prog tab9) ⟨[(12, 0), (22, 0)], [], []⟩ noLoops 300 13 #[.agg #[.int .i64 x0, .int .i64 x1, .int .i64 x2, .int .i64 x3], .agg #[.int .i64 x4, .int .i64 x5, .int .i64 x6]] []) = tree13 x0 x1 x2 x3 x4 x5 x6 := by kernel_rfl
theorem tree13_res (x0 x1 x2 x3 x4 x5 x6 : Int) : (tree13 x0 x1 x2 x3 x4 x5 x6).res = some (.tuple #[.int .i64 (plane_Value_0 x0 x1 x2 x3 x4 x5 x6), .int .i64 (plane_Value_1 x0 x1 x2 x3 x4 x5 x6)]) := by
  unfold tree13 plane_Value_0 plane_Value_1
  simp only [Tr.res]
  generalize (plane_Check_0 x0 x1 x2 x3 != 0) = b0
  generalize (vector_Dot_1 x0 x1 x2 x4 x5 x6 != 0) = b1
  cases b0 with
  | true =>
   first | (simp only [if_true, Bool.false_eq_true, if_false]; done) | rfl
  | false =>
   cases b1 with
   | true =>
    first | (simp only [if_true, Bool.false_eq_true, if_false]; done) | rfl
   | false =>
    first | (simp only [if_true, Bool.false_eq_true, if_false]; done) | rfl
theorem tab10_ok : TabOk Try.prog tab10 := tab_cons mixed tab9_ok (by decide) fun args v h => by
  unfold ans13 at h
  split at h
  · rename_i c0 c1 h0
    split at h
    · rename_i x0 x1 x2 x3 x4 x5 x6 h1 h2
      injection h with h; subst h
      obtain rfl : c0 = #[.int .i64 x0, .int .i64 x1, .int .i64 x2, .int .i64 x3] := by rw [← Array.toArray_toList (xs := c0), h1]
      obtain rfl : c1 = #[.int .i64 x4, .int .i64 x5, .int .i64 x6] := by rw [← Array.toArray_toList (xs := c1), h2]
      obtain rfl : args = #[.agg #[.int .i64 x0, .int .i64 x1, .int .i64 x2, .int .i64 x3], .agg #[.int .i64 x4, .int .i64 x5, .int .i64 x6]] := by rw [← Array.toArray_toList (xs := args), h0]
      exact ⟨rfl, rfl, ⟨[(12, 0), (22, 0)], [], []⟩, 300, by rw [tree13_eq]; exact tree13_res _ _ _ _ _ _ _⟩
    · cases h
  · cases h

/- gangsaw/vector.divisor -/
/-- Euclid's algorithm. -/
def euclid : Nat → Int → Int → Int
  | 0, a, _ => a
  | k + 1, a, b => if b = 0 then a else euclid k b (a.tmod b)
def gcdA (a b : Int) : Int := euclid (b.natAbs + 1) a b
def vector_divisor_0 (x0 x1 : Int) : Int := imax (gcdA x0 x1) (IntKind.i64.wrap (0 - gcdA x0 x1))
def ans61 : Ans := fun args => match args.toList with
  | [.int .i64 x0, .int .i64 x1] => some (.int .i64 (vector_divisor_0 x0 x1))
  | _ => none
def tab11 : Tab := (61, .ans ans61) :: tab10
def o61 : Opts := ⟨[(6, 0), (10, 0)], [(1, [5, 6, 7, 8, 9, 10])], []⟩
noncomputable def b61 : Code := (((Try.prog.funcs[61]?).bind (·.body)).bind (loopAt · 1)).getD .skip
def T61 (a b : Int) : Array Value := #[.int .i64 a, .int .i64 b, undef, undef, .int .i64 0, lost, lost, lost, lost, lost, lost, undef, undef, undef, undef]
def E61 (a : Int) : Array Value := #[.int .i64 a, .int .i64 0, undef, undef, .int .i64 0, .int .i64 0, .bool false, lost, lost, lost, lost, undef, undef, undef, undef]
theorem body61 (l : Tab) (a b : Int) : evCodeT Try.prog (tb Try.prog l) (tbT Try.prog l) o61 noLoops 0 100 b61 (T61 a b) [] =
    .node 6 (b != 0) (.node 10 (b == 0) (.leaf none) (.leaf (some (.normal, #[.int .i64 b, .int .i64 (a.tmod b), undef, undef, .int .i64 0, .int .i64 b, .bool true, .int .i64 b, .int .i64 a, .int .i64 b, .int .i64 (a.tmod b), undef, undef, undef, undef], []))))
      (.leaf (some (.exit 0, #[.int .i64 a, .int .i64 b, undef, undef, .int .i64 0, .int .i64 b, .bool false, lost, lost, lost, lost, undef, undef, undef, undef], []))) := by kernel_rfl
theorem loops61 : loopsOf b61 = [] := by kernel_rfl
def step61 (s : Int × Int) : Option ((Int × Int) ⊕ (Exit × Array Value × AH)) := if s.2 = 0 then some (.inr (.exit 0, E61 s.1, [])) else some (.inl (s.2, s.1.tmod s.2))
theorem iter61 : ∀ (k : Nat) (a b : Int), b.natAbs < k → iter step61 k (a, b) = some (.exit 0, E61 (euclid k a b), []) := by
  intro k
  induction k with
  | zero => intro a b h; omega
  | succ k ih =>
    intro a b h
    unfold iter step61 euclid
    by_cases hb : b = 0
    · simp [hb]
    · simp only [hb, if_false]
      refine ih b (a.tmod b) ?_
      have h1 : (a.tmod b).natAbs = a.natAbs % b.natAbs := Int.natAbs_tmod ..
      have h2 := Nat.mod_lt a.natAbs (show b.natAbs > 0 by omega)
      omega
theorem round61 (l : Tab) (a b : Int) : ∃ n, evRound Try.prog (tb Try.prog l) o61.hints 0 n b61 (T61 a b) [] = some (.exit 0, E61 (gcdA a b), []) := by
  have hd : headId b61 = 1 := by kernel_rfl
  refine loop_ok (fun s : Int × Int => T61 s.1 s.2) (fun _ => []) step61 ?_ ?_ (b.natAbs + 1) (a, b) _ (iter61 _ a b (by omega))
  · rintro ⟨a, b⟩ s' h
    unfold step61 at h
    simp only at h
    split at h
    · cases h
    · rename_i hb
      simp only [Option.some.injEq, Sum.inl.injEq] at h
      subst h
      have hr : (evCodeT Try.prog (tb Try.prog l) (tbT Try.prog l) o61 noLoops 0 100 b61 (T61 a b) []).res = some (.normal, #[.int .i64 b, .int .i64 (a.tmod b), undef, undef, .int .i64 0, .int .i64 b, .bool true, .int .i64 b, .int .i64 a, .int .i64 b, .int .i64 (a.tmod b), undef, undef, undef, undef], []) := by
        rw [body61 l]; simp [Tr.res, hb]
      obtain ⟨m, h1⟩ := evCodeT_res (tbT_ok l) (body := b61) LOk.none 100 b61 (fun b hb => by rw [loops61] at hb; cases hb) _ _ _ hr
      refine ⟨m, _, _, h1, ?_⟩
      rw [hd]
      kernel_rfl
  · rintro ⟨a, b⟩ r h
    unfold step61 at h
    simp only at h
    split at h
    · rename_i hb
      simp only [Option.some.injEq, Sum.inr.injEq] at h
      subst h hb
      refine ⟨by simp, ?_⟩
      have hr : (evCodeT Try.prog (tb Try.prog l) (tbT Try.prog l) o61 noLoops 0 100 b61 (T61 a 0) []).res = some (.exit 0, E61 a, []) := by
        rw [body61 l]; simp [Tr.res]; rfl
      exact evCodeT_res (tbT_ok l) (body := b61) LOk.none 100 b61 (fun b hb => by rw [loops61] at hb; cases hb) _ _ _ hr
    · cases h
/-- What is known of the loop. -/
def known61 (t : Array Value) (H : AH) : Tr (Exit × Array Value × AH) :=
  match t.toList, H with
  | [.int .i64 a, .int .i64 b, v2, v3, v4, v5, v6, v7, v8, v9, v10, v11, v12, v13, v14], [] =>
    if veqL (veq 5) [v2, v3, v4, v5, v6, v7, v8, v9, v10, v11, v12, v13, v14] [undef, undef, .int .i64 0, lost, lost, lost, lost, lost, lost, undef, undef, undef, undef] then .leaf (some (.exit 0, E61 (gcdA a b), [])) else .leaf none
  | _, _ => .leaf none
def lt61 : LoopT := fun id => if id = 1 then some known61 else none
theorem at61 {fn : Func} {c : Code} (hf : Try.prog.funcs[61]? = some fn) (hb : fn.body = some c) {b : Code} (h : loopAt c 1 = some b) : b = b61 := by
  unfold b61
  rw [hf]
  simp only [Option.bind_some, hb, h, Option.getD_some]
theorem lok61 (l : Tab) {fn : Func} {c : Code} (hf : Try.prog.funcs[61]? = some fn) (hb : fn.body = some c) : LOk Try.prog (tb Try.prog l) o61.hints 0 c lt61 := by
  intro id ans h b hl t H r hr
  unfold lt61 at h
  split at h
  · rename_i he
    subst he
    simp only [Option.some.injEq] at h
    subst h
    obtain rfl := at61 hf hb hl
    unfold known61 at hr
    split at hr
    · rename_i a b v2 v3 v4 v5 v6 v7 v8 v9 v10 v11 v12 v13 v14 ht
      split at hr
      · rename_i hv
        have hv := veqL_eq (veq_eq 5) _ _ hv
        simp only [List.cons.injEq, and_true] at hv
        obtain ⟨rfl, rfl, rfl, rfl, rfl, rfl, rfl, rfl, rfl, rfl, rfl, rfl, rfl⟩ := hv
        obtain rfl : t = T61 a b := by rw [← Array.toArray_toList (xs := t), ht]; rfl
        simp only [Tr.res, Option.some.injEq] at hr
        subst hr
        exact round61 l a b
      · cases hr
    · cases hr
  · cases h
theorem fn61 (l : Tab) (a b : Int) : vals (evFnT Try.prog (tb Try.prog l) (tbT Try.prog l) o61 lt61 100 61 #[.int .i64 a, .int .i64 b] []) = .leaf (some (.int .i64 (vector_divisor_0 a b))) := by kernel_rfl
theorem tab11_ok : TabOk Try.prog tab11 := tab_loops mixed tab10_ok (by decide) fun args v h => by
  unfold ans61 at h
  split at h
  · rename_i a b h0
    injection h with h; subst h
    obtain rfl : args = #[.int .i64 a, .int .i64 b] := by rw [← Array.toArray_toList (xs := args), h0]
    exact ⟨rfl, rfl, o61, lt61, 100, fun _ _ hf hb => lok61 _ hf hb, by rw [fn61]; rfl⟩
  · cases h

/- gangsaw/vector.vectorOf -/
def ans62 : Ans := fun args => match args.toList with
  | [.agg c0] => match c0.toList with
    | [.int .i64 x0, .int .i64 x1, .int .i64 x2] => some (.agg #[.int .i64 (x0), .int .i64 (x1), .int .i64 (x2)])
    | _ => none
  | _ => none
def tab12 : Tab := (62, .ans ans62) :: tab11
def tree62 (x0 x1 x2 : Int) : Tr Value :=
  .leaf (some (.agg #[.int .i64 (x0), .int .i64 (x1), .int .i64 (x2)]))
theorem tree62_eq (x0 x1 x2 : Int) : vals (evFnT Try.prog (tb Try.prog tab11) (tbT Try.prog tab11) ⟨[], [], []⟩ noLoops 300 62 #[.agg #[.int .i64 x0, .int .i64 x1, .int .i64 x2]] []) = tree62 x0 x1 x2 := by kernel_rfl
theorem tree62_res (x0 x1 x2 : Int) : (tree62 x0 x1 x2).res = some (.agg #[.int .i64 (x0), .int .i64 (x1), .int .i64 (x2)]) := by
  rfl
theorem tab12_ok : TabOk Try.prog tab12 := tab_cons mixed tab11_ok (by decide) fun args v h => by
  unfold ans62 at h
  split at h
  · rename_i c0 h0
    split at h
    · rename_i x0 x1 x2 h1
      injection h with h; subst h
      obtain rfl : c0 = #[.int .i64 x0, .int .i64 x1, .int .i64 x2] := by rw [← Array.toArray_toList (xs := c0), h1]
      obtain rfl : args = #[.agg #[.int .i64 x0, .int .i64 x1, .int .i64 x2]] := by rw [← Array.toArray_toList (xs := args), h0]
      exact ⟨rfl, rfl, ⟨[], [], []⟩, 300, by rw [tree62_eq]; exact tree62_res _ _ _⟩
    · cases h
  · cases h

/- gangsaw/vector.Primitive -/
def vector_Primitive_ok (x0 x1 x2 : Int) : Bool :=
  if Decidable.decide (x0 < -1000000) then (Bool.true) else if Decidable.decide (x0 > 1000000) then (Bool.true) else if Decidable.decide (x1 < -1000000) then (Bool.true) else if Decidable.decide (x1 > 1000000) then (Bool.true) else if Decidable.decide (x2 < -1000000) then (Bool.true) else if Decidable.decide (x2 > 1000000) then (Bool.true) else if x0 == 0 && (x1 == 0 && (x2 == 0 && Bool.true)) then (Bool.true) else if vector_divisor_0 (vector_divisor_0 (vector_divisor_0 0 x0) x1) x2 == 0 then (Bool.false) else if vector_divisor_0 (vector_divisor_0 (vector_divisor_0 0 x0) x1) x2 == 0 then (Bool.false) else if vector_divisor_0 (vector_divisor_0 (vector_divisor_0 0 x0) x1) x2 == 0 then (Bool.false) else (Bool.true)
def vector_Primitive_0 (x0 x1 x2 : Int) : Int :=
  if Decidable.decide (x0 < -1000000) then (0) else if Decidable.decide (x0 > 1000000) then (0) else if Decidable.decide (x1 < -1000000) then (0) else if Decidable.decide (x1 > 1000000) then (0) else if Decidable.decide (x2 < -1000000) then (0) else if Decidable.decide (x2 > 1000000) then (0) else if x0 == 0 && (x1 == 0 && (x2 == 0 && Bool.true)) then (0) else (IntKind.i64.wrap (x0.tdiv (vector_divisor_0 (vector_divisor_0 (vector_divisor_0 0 x0) x1) x2)))
def vector_Primitive_1 (x0 x1 x2 : Int) : Int :=
  if Decidable.decide (x0 < -1000000) then (0) else if Decidable.decide (x0 > 1000000) then (0) else if Decidable.decide (x1 < -1000000) then (0) else if Decidable.decide (x1 > 1000000) then (0) else if Decidable.decide (x2 < -1000000) then (0) else if Decidable.decide (x2 > 1000000) then (0) else if x0 == 0 && (x1 == 0 && (x2 == 0 && Bool.true)) then (0) else (IntKind.i64.wrap (x1.tdiv (vector_divisor_0 (vector_divisor_0 (vector_divisor_0 0 x0) x1) x2)))
def vector_Primitive_2 (x0 x1 x2 : Int) : Int :=
  if Decidable.decide (x0 < -1000000) then (0) else if Decidable.decide (x0 > 1000000) then (0) else if Decidable.decide (x1 < -1000000) then (0) else if Decidable.decide (x1 > 1000000) then (0) else if Decidable.decide (x2 < -1000000) then (0) else if Decidable.decide (x2 > 1000000) then (0) else if x0 == 0 && (x1 == 0 && (x2 == 0 && Bool.true)) then (0) else (IntKind.i64.wrap (x2.tdiv (vector_divisor_0 (vector_divisor_0 (vector_divisor_0 0 x0) x1) x2)))
def vector_Primitive_3 (x0 x1 x2 : Int) : Int :=
  if Decidable.decide (x0 < -1000000) then (0) else if Decidable.decide (x0 > 1000000) then (0) else if Decidable.decide (x1 < -1000000) then (0) else if Decidable.decide (x1 > 1000000) then (0) else if Decidable.decide (x2 < -1000000) then (0) else if Decidable.decide (x2 > 1000000) then (0) else if x0 == 0 && (x1 == 0 && (x2 == 0 && Bool.true)) then (0) else (vector_divisor_0 (vector_divisor_0 (vector_divisor_0 0 x0) x1) x2)
def vector_Primitive_4 (x0 x1 x2 : Int) : Int :=
  if Decidable.decide (x0 < -1000000) then (6) else if Decidable.decide (x0 > 1000000) then (6) else if Decidable.decide (x1 < -1000000) then (6) else if Decidable.decide (x1 > 1000000) then (6) else if Decidable.decide (x2 < -1000000) then (6) else if Decidable.decide (x2 > 1000000) then (6) else if x0 == 0 && (x1 == 0 && (x2 == 0 && Bool.true)) then (1) else (0)
def ans57 : Array Value → Option (Bool × Value) := fun args => match args.toList with
  | [.agg c0] => match c0.toList with
    | [.int .i64 x0, .int .i64 x1, .int .i64 x2] => some (vector_Primitive_ok x0 x1 x2, .tuple #[.agg #[.int .i64 (vector_Primitive_0 x0 x1 x2), .int .i64 (vector_Primitive_1 x0 x1 x2), .int .i64 (vector_Primitive_2 x0 x1 x2)], .int .i64 (vector_Primitive_3 x0 x1 x2), .int .i64 (vector_Primitive_4 x0 x1 x2)])
    | _ => none
  | _ => none
def tab13 : Tab := (57, .cond ans57) :: tab12
def tree57 (x0 x1 x2 : Int) : Tr Value :=
  .node 19 (Decidable.decide (x0 < -1000000))
  (.leaf (some (.tuple #[.agg #[.int .i64 (0), .int .i64 (0), .int .i64 (0)], .int .i64 (0), .int .i64 (6)])))
  (.node 22 (Decidable.decide (x0 > 1000000))
   (.leaf (some (.tuple #[.agg #[.int .i64 (0), .int .i64 (0), .int .i64 (0)], .int .i64 (0), .int .i64 (6)])))
   (.node 19 (Decidable.decide (x1 < -1000000))
    (.leaf (some (.tuple #[.agg #[.int .i64 (0), .int .i64 (0), .int .i64 (0)], .int .i64 (0), .int .i64 (6)])))
    (.node 22 (Decidable.decide (x1 > 1000000))
     (.leaf (some (.tuple #[.agg #[.int .i64 (0), .int .i64 (0), .int .i64 (0)], .int .i64 (0), .int .i64 (6)])))
     (.node 19 (Decidable.decide (x2 < -1000000))
      (.leaf (some (.tuple #[.agg #[.int .i64 (0), .int .i64 (0), .int .i64 (0)], .int .i64 (0), .int .i64 (6)])))
      (.node 22 (Decidable.decide (x2 > 1000000))
       (.leaf (some (.tuple #[.agg #[.int .i64 (0), .int .i64 (0), .int .i64 (0)], .int .i64 (0), .int .i64 (6)])))
       (.node 19 (x0 == 0 && (x1 == 0 && (x2 == 0 && Bool.true)))
        (.leaf (some (.tuple #[.agg #[.int .i64 (0), .int .i64 (0), .int .i64 (0)], .int .i64 (0), .int .i64 (1)])))
        (.node 39 (vector_divisor_0 (vector_divisor_0 (vector_divisor_0 0 x0) x1) x2 == 0)
         (.leaf none)
         (.node 39 (vector_divisor_0 (vector_divisor_0 (vector_divisor_0 0 x0) x1) x2 == 0)
          (.leaf none)
          (.node 39 (vector_divisor_0 (vector_divisor_0 (vector_divisor_0 0 x0) x1) x2 == 0)
           (.leaf none)
           (.leaf (some (.tuple #[.agg #[.int .i64 (IntKind.i64.wrap (x0.tdiv (vector_divisor_0 (vector_divisor_0 (vector_divisor_0 0 x0) x1) x2))), .int .i64 (IntKind.i64.wrap (x1.tdiv (vector_divisor_0 (vector_divisor_0 (vector_divisor_0 0 x0) x1) x2))), .int .i64 (IntKind.i64.wrap (x2.tdiv (vector_divisor_0 (vector_divisor_0 (vector_divisor_0 0 x0) x1) x2)))], .int .i64 (vector_divisor_0 (vector_divisor_0 (vector_divisor_0 0 x0) x1) x2), .int .i64 (0)]))))))))))))
theorem tree57_eq (x0 x1 x2 : Int) : vals (evFnT Try.prog (tb Try.prog tab12) (tbT Try.prog tab12) ⟨[(19, 0), (39, 0)], [], []⟩ noLoops 300 57 #[.agg #[.int .i64 x0, .int .i64 x1, .int .i64 x2]] []) = tree57 x0 x1 x2 := by kernel_rfl
theorem tree57_res (x0 x1 x2 : Int) : (tree57 x0 x1 x2).res = if vector_Primitive_ok x0 x1 x2 = true then some (.tuple #[.agg #[.int .i64 (vector_Primitive_0 x0 x1 x2), .int .i64 (vector_Primitive_1 x0 x1 x2), .int .i64 (vector_Primitive_2 x0 x1 x2)], .int .i64 (vector_Primitive_3 x0 x1 x2), .int .i64 (vector_Primitive_4 x0 x1 x2)]) else none := by
  unfold tree57 vector_Primitive_ok vector_Primitive_0 vector_Primitive_1 vector_Primitive_2 vector_Primitive_3 vector_Primitive_4
  simp only [Tr.res]
  generalize (Decidable.decide (x0 < -1000000)) = b0
  generalize (Decidable.decide (x0 > 1000000)) = b1
  generalize (Decidable.decide (x1 < -1000000)) = b2
  generalize (Decidable.decide (x1 > 1000000)) = b3
  generalize (Decidable.decide (x2 < -1000000)) = b4
  generalize (Decidable.decide (x2 > 1000000)) = b5
  generalize (x0 == 0 && (x1 == 0 && (x2 == 0 && Bool.true))) = b6
  generalize (vector_divisor_0 (vector_divisor_0 (vector_divisor_0 0 x0) x1) x2 == 0) = b7
  cases b0 with
  | true =>
   first | (simp only [if_true, Bool.false_eq_true, if_false]; done) | rfl
  | false =>
   cases b1 with
   | true =>
    first | (simp only [if_true, Bool.false_eq_true, if_false]; done) | rfl
   | false =>
    cases b2 with
    | true =>
     first | (simp only [if_true, Bool.false_eq_true, if_false]; done) | rfl
    | false =>
     cases b3 with
     | true =>
      first | (simp only [if_true, Bool.false_eq_true, if_false]; done) | rfl
     | false =>
      cases b4 with
      | true =>
       first | (simp only [if_true, Bool.false_eq_true, if_false]; done) | rfl
      | false =>
       cases b5 with
       | true =>
        first | (simp only [if_true, Bool.false_eq_true, if_false]; done) | rfl
       | false =>
        cases b6 with
        | true =>
         first | (simp only [if_true, Bool.false_eq_true, if_false]; done) | rfl
        | false =>
         cases b7 with
         | true =>
          first | (simp only [if_true, Bool.false_eq_true, if_false]; done) | rfl
         | false =>
          first | (simp only [if_true, Bool.false_eq_true, if_false]; done) | rfl
theorem tab13_ok : TabOk Try.prog tab13 := tab_cond mixed tab12_ok (by decide) fun args b v h hb => by
  unfold ans57 at h
  split at h
  · rename_i c0 h0
    split at h
    · rename_i x0 x1 x2 k1
      injection h with h; injection h with h1 h2; subst h1 h2
      obtain rfl : c0 = #[.int .i64 x0, .int .i64 x1, .int .i64 x2] := by rw [← Array.toArray_toList (xs := c0), k1]
      obtain rfl : args = #[.agg #[.int .i64 x0, .int .i64 x1, .int .i64 x2]] := by rw [← Array.toArray_toList (xs := args), h0]
      exact ⟨rfl, rfl, ⟨[(19, 0), (39, 0)], [], []⟩, 300, by rw [tree57_eq, tree57_res, if_pos hb]⟩
    · cases h
  · cases h

/- gangsaw/plane.dividedDown -/
def plane_dividedDown_ok (_x0 x1 : Int) : Bool :=
  if x1 == 0 then (Bool.false) else if x1 == 0 then (Bool.false) else (Bool.true)
def plane_dividedDown_0 (x0 x1 : Int) : Int :=
  if Decidable.decide (x0.tmod x1 < 0) then (IntKind.i64.wrap (IntKind.i64.wrap (x0.tdiv x1) - 1)) else (IntKind.i64.wrap (x0.tdiv x1))
def ans58 : Array Value → Option (Bool × Value) := fun args => match args.toList with
  | [.int .i64 x0, .int .i64 x1] => some (plane_dividedDown_ok x0 x1, .int .i64 (plane_dividedDown_0 x0 x1))
  | _ => none
def tab14 : Tab := (58, .cond ans58) :: tab13
def tree58 (x0 x1 : Int) : Tr Value :=
  .node 7 (x1 == 0)
  (.leaf none)
  (.node 8 (Decidable.decide (x0.tmod x1 < 0))
   (.node 11 (x1 == 0)
    (.leaf none)
    (.leaf (some (.int .i64 (IntKind.i64.wrap (IntKind.i64.wrap (x0.tdiv x1) - 1))))))
   (.node 15 (x1 == 0)
    (.leaf none)
    (.leaf (some (.int .i64 (IntKind.i64.wrap (x0.tdiv x1)))))))
theorem tree58_eq (x0 x1 : Int) : vals (evFnT Try.prog (tb Try.prog tab13) (tbT Try.prog tab13) ⟨[(7, 0), (8, 0), (11, 0), (15, 0)], [], []⟩ noLoops 300 58 #[.int .i64 x0, .int .i64 x1] []) = tree58 x0 x1 := by kernel_rfl
theorem tree58_res (x0 x1 : Int) : (tree58 x0 x1).res = if plane_dividedDown_ok x0 x1 = true then some (.int .i64 (plane_dividedDown_0 x0 x1)) else none := by
  unfold tree58 plane_dividedDown_ok plane_dividedDown_0
  simp only [Tr.res]
  generalize (x1 == 0) = b0
  generalize (Decidable.decide (x0.tmod x1 < 0)) = b1
  cases b0 with
  | true =>
   first | (simp only [if_true, Bool.false_eq_true, if_false]; done) | rfl
  | false =>
   cases b1 with
   | true =>
    first | (simp only [if_true, Bool.false_eq_true, if_false]; done) | rfl
   | false =>
    first | (simp only [if_true, Bool.false_eq_true, if_false]; done) | rfl
theorem tab14_ok : TabOk Try.prog tab14 := tab_cond mixed tab13_ok (by decide) fun args b v h hb => by
  unfold ans58 at h
  split at h
  · rename_i x0 x1 h0
    injection h with h; injection h with h1 h2; subst h1 h2
    obtain rfl : args = #[.int .i64 x0, .int .i64 x1] := by rw [← Array.toArray_toList (xs := args), h0]
    exact ⟨rfl, rfl, ⟨[(7, 0), (8, 0), (11, 0), (15, 0)], [], []⟩, 300, by rw [tree58_eq, tree58_res, if_pos hb]⟩
  · cases h

/- gangsaw/plane.normal -/
def plane_normal_ok (x0 x1 x2 x3 : Int) : Bool :=
  if vector_Primitive_ok x0 x1 x2 then (if plane_dividedDown_ok x3 (vector_Primitive_3 x0 x1 x2) then (Bool.true) else (Bool.false)) else (Bool.false)
def plane_normal_0 (x0 x1 x2 _x3 : Int) : Int :=
  (vector_Primitive_0 x0 x1 x2)
def plane_normal_1 (x0 x1 x2 _x3 : Int) : Int :=
  (vector_Primitive_1 x0 x1 x2)
def plane_normal_2 (x0 x1 x2 _x3 : Int) : Int :=
  (vector_Primitive_2 x0 x1 x2)
def plane_normal_3 (x0 x1 x2 x3 : Int) : Int :=
  (plane_dividedDown_0 x3 (vector_Primitive_3 x0 x1 x2))
def ans42 : Array Value → Option (Bool × Value) := fun args => match args.toList with
  | [.agg c0] => match c0.toList with
    | [.int .i64 x0, .int .i64 x1, .int .i64 x2, .int .i64 x3] => some (plane_normal_ok x0 x1 x2 x3, .agg #[.int .i64 (plane_normal_0 x0 x1 x2 x3), .int .i64 (plane_normal_1 x0 x1 x2 x3), .int .i64 (plane_normal_2 x0 x1 x2 x3), .int .i64 (plane_normal_3 x0 x1 x2 x3)])
    | _ => none
  | _ => none
def tab15 : Tab := (42, .cond ans42) :: tab14
def tree42 (x0 x1 x2 x3 : Int) : Tr Value :=
  .node 0 (vector_Primitive_ok x0 x1 x2)
  (.node 0 (plane_dividedDown_ok x3 (vector_Primitive_3 x0 x1 x2))
   (.leaf (some (.agg #[.int .i64 (vector_Primitive_0 x0 x1 x2), .int .i64 (vector_Primitive_1 x0 x1 x2), .int .i64 (vector_Primitive_2 x0 x1 x2), .int .i64 (plane_dividedDown_0 x3 (vector_Primitive_3 x0 x1 x2))])))
   (.leaf none))
  (.leaf none)
theorem tree42_eq (x0 x1 x2 x3 : Int) : vals (evFnT Try.prog (tb Try.prog tab14) (tbT Try.prog tab14) ⟨[], [], []⟩ noLoops 300 42 #[.agg #[.int .i64 x0, .int .i64 x1, .int .i64 x2, .int .i64 x3]] []) = tree42 x0 x1 x2 x3 := by kernel_rfl
theorem tree42_res (x0 x1 x2 x3 : Int) : (tree42 x0 x1 x2 x3).res = if plane_normal_ok x0 x1 x2 x3 = true then some (.agg #[.int .i64 (plane_normal_0 x0 x1 x2 x3), .int .i64 (plane_normal_1 x0 x1 x2 x3), .int .i64 (plane_normal_2 x0 x1 x2 x3), .int .i64 (plane_normal_3 x0 x1 x2 x3)]) else none := by
  unfold tree42 plane_normal_ok plane_normal_0 plane_normal_1 plane_normal_2 plane_normal_3
  simp only [Tr.res]
  generalize (vector_Primitive_ok x0 x1 x2) = b0
  generalize (plane_dividedDown_ok x3 (vector_Primitive_3 x0 x1 x2)) = b1
  cases b0 with
  | true =>
   cases b1 with
   | true =>
    first | (simp only [if_true, Bool.false_eq_true, if_false]; done) | rfl
   | false =>
    first | (simp only [if_true, Bool.false_eq_true, if_false]; done) | rfl
  | false =>
   first | (simp only [if_true, Bool.false_eq_true, if_false]; done) | rfl
theorem tab15_ok : TabOk Try.prog tab15 := tab_cond mixed tab14_ok (by decide) fun args b v h hb => by
  unfold ans42 at h
  split at h
  · rename_i c0 h0
    split at h
    · rename_i x0 x1 x2 x3 k1
      injection h with h; injection h with h1 h2; subst h1 h2
      obtain rfl : c0 = #[.int .i64 x0, .int .i64 x1, .int .i64 x2, .int .i64 x3] := by rw [← Array.toArray_toList (xs := c0), k1]
      obtain rfl : args = #[.agg #[.int .i64 x0, .int .i64 x1, .int .i64 x2, .int .i64 x3]] := by rw [← Array.toArray_toList (xs := args), h0]
      exact ⟨rfl, rfl, ⟨[], [], []⟩, 300, by rw [tree42_eq, tree42_res, if_pos hb]⟩
    · cases h
  · cases h

/- gangsaw/plane.Normal -/
def plane_Normal_ok (x0 x1 x2 x3 : Int) : Bool :=
  if plane_Check_0 x0 x1 x2 x3 != 0 then (Bool.true) else if plane_normal_ok x0 x1 x2 x3 then (Bool.true) else (Bool.false)
def plane_Normal_0 (x0 x1 x2 x3 : Int) : Int :=
  if plane_Check_0 x0 x1 x2 x3 != 0 then (0) else (plane_normal_0 x0 x1 x2 x3)
def plane_Normal_1 (x0 x1 x2 x3 : Int) : Int :=
  if plane_Check_0 x0 x1 x2 x3 != 0 then (0) else (plane_normal_1 x0 x1 x2 x3)
def plane_Normal_2 (x0 x1 x2 x3 : Int) : Int :=
  if plane_Check_0 x0 x1 x2 x3 != 0 then (0) else (plane_normal_2 x0 x1 x2 x3)
def plane_Normal_3 (x0 x1 x2 x3 : Int) : Int :=
  if plane_Check_0 x0 x1 x2 x3 != 0 then (0) else (plane_normal_3 x0 x1 x2 x3)
def plane_Normal_4 (x0 x1 x2 x3 : Int) : Int :=
  if plane_Check_0 x0 x1 x2 x3 != 0 then (plane_Check_0 x0 x1 x2 x3) else (0)
def ans23 : Array Value → Option (Bool × Value) := fun args => match args.toList with
  | [.agg c0] => match c0.toList with
    | [.int .i64 x0, .int .i64 x1, .int .i64 x2, .int .i64 x3] => some (plane_Normal_ok x0 x1 x2 x3, .tuple #[.agg #[.int .i64 (plane_Normal_0 x0 x1 x2 x3), .int .i64 (plane_Normal_1 x0 x1 x2 x3), .int .i64 (plane_Normal_2 x0 x1 x2 x3), .int .i64 (plane_Normal_3 x0 x1 x2 x3)], .int .i64 (plane_Normal_4 x0 x1 x2 x3)])
    | _ => none
  | _ => none
def tab16 : Tab := (23, .cond ans23) :: tab15
def tree23 (x0 x1 x2 x3 : Int) : Tr Value :=
  .node 8 (plane_Check_0 x0 x1 x2 x3 != 0)
  (.leaf (some (.tuple #[.agg #[.int .i64 (0), .int .i64 (0), .int .i64 (0), .int .i64 (0)], .int .i64 (plane_Check_0 x0 x1 x2 x3)])))
  (.node 0 (plane_normal_ok x0 x1 x2 x3)
   (.leaf (some (.tuple #[.agg #[.int .i64 (plane_normal_0 x0 x1 x2 x3), .int .i64 (plane_normal_1 x0 x1 x2 x3), .int .i64 (plane_normal_2 x0 x1 x2 x3), .int .i64 (plane_normal_3 x0 x1 x2 x3)], .int .i64 (0)])))
   (.leaf none))
theorem tree23_eq (x0 x1 x2 x3 : Int) : vals (evFnT Try.prog (tb Try.prog tab15) (tbT Try.prog tab15) ⟨[(8, 0)], [], []⟩ noLoops 300 23 #[.agg #[.int .i64 x0, .int .i64 x1, .int .i64 x2, .int .i64 x3]] []) = tree23 x0 x1 x2 x3 := by kernel_rfl
theorem tree23_res (x0 x1 x2 x3 : Int) : (tree23 x0 x1 x2 x3).res = if plane_Normal_ok x0 x1 x2 x3 = true then some (.tuple #[.agg #[.int .i64 (plane_Normal_0 x0 x1 x2 x3), .int .i64 (plane_Normal_1 x0 x1 x2 x3), .int .i64 (plane_Normal_2 x0 x1 x2 x3), .int .i64 (plane_Normal_3 x0 x1 x2 x3)], .int .i64 (plane_Normal_4 x0 x1 x2 x3)]) else none := by
  unfold tree23 plane_Normal_ok plane_Normal_0 plane_Normal_1 plane_Normal_2 plane_Normal_3 plane_Normal_4
  simp only [Tr.res]
  generalize (plane_Check_0 x0 x1 x2 x3 != 0) = b0
  generalize (plane_normal_ok x0 x1 x2 x3) = b1
  cases b0 with
  | true =>
   first | (simp only [if_true, Bool.false_eq_true, if_false]; done) | rfl
  | false =>
   cases b1 with
   | true =>
    first | (simp only [if_true, Bool.false_eq_true, if_false]; done) | rfl
   | false =>
    first | (simp only [if_true, Bool.false_eq_true, if_false]; done) | rfl
theorem tab16_ok : TabOk Try.prog tab16 := tab_cond mixed tab15_ok (by decide) fun args b v h hb => by
  unfold ans23 at h
  split at h
  · rename_i c0 h0
    split at h
    · rename_i x0 x1 x2 x3 k1
      injection h with h; injection h with h1 h2; subst h1 h2
      obtain rfl : c0 = #[.int .i64 x0, .int .i64 x1, .int .i64 x2, .int .i64 x3] := by rw [← Array.toArray_toList (xs := c0), k1]
      obtain rfl : args = #[.agg #[.int .i64 x0, .int .i64 x1, .int .i64 x2, .int .i64 x3]] := by rw [← Array.toArray_toList (xs := args), h0]
      exact ⟨rfl, rfl, ⟨[(8, 0)], [], []⟩, 300, by rw [tree23_eq, tree23_res, if_pos hb]⟩
    · cases h
  · cases h

/- gangsaw/plane.checkAll -/
def tab17 : Tab := (43, .inl ⟨[(15, 0)], [], []⟩ 300) :: tab16
theorem tab17_ok : TabOk Try.prog tab17 := tab_inl mixed tab16_ok _ _ _

/- gangsaw/plane.Equal -/
def plane_Equal_ok (x0 x1 x2 x3 x4 x5 x6 x7 : Int) : Bool :=
  if plane_Check_0 x0 x1 x2 x3 != 0 then (if plane_Check_0 x0 x1 x2 x3 != 0 then (Bool.true) else if plane_normal_ok x0 x1 x2 x3 then (if plane_normal_ok x4 x5 x6 x7 then (Bool.true) else (Bool.false)) else (Bool.false)) else if plane_Check_0 x4 x5 x6 x7 != 0 then (if plane_Check_0 x4 x5 x6 x7 != 0 then (Bool.true) else if plane_normal_ok x0 x1 x2 x3 then (if plane_normal_ok x4 x5 x6 x7 then (Bool.true) else (Bool.false)) else (Bool.false)) else if plane_normal_ok x0 x1 x2 x3 then (if plane_normal_ok x4 x5 x6 x7 then (Bool.true) else (Bool.false)) else (Bool.false)
def plane_Equal_0 (x0 x1 x2 x3 x4 x5 x6 x7 : Int) : Bool :=
  if plane_Check_0 x0 x1 x2 x3 != 0 then (if plane_Check_0 x0 x1 x2 x3 != 0 then (Bool.false) else if plane_normal_0 x0 x1 x2 x3 == plane_normal_0 x4 x5 x6 x7 && (plane_normal_1 x0 x1 x2 x3 == plane_normal_1 x4 x5 x6 x7 && (plane_normal_2 x0 x1 x2 x3 == plane_normal_2 x4 x5 x6 x7 && (plane_normal_3 x0 x1 x2 x3 == plane_normal_3 x4 x5 x6 x7 && Bool.true))) then (Bool.true) else (Bool.false)) else if plane_Check_0 x4 x5 x6 x7 != 0 then (if plane_Check_0 x4 x5 x6 x7 != 0 then (Bool.false) else if plane_normal_0 x0 x1 x2 x3 == plane_normal_0 x4 x5 x6 x7 && (plane_normal_1 x0 x1 x2 x3 == plane_normal_1 x4 x5 x6 x7 && (plane_normal_2 x0 x1 x2 x3 == plane_normal_2 x4 x5 x6 x7 && (plane_normal_3 x0 x1 x2 x3 == plane_normal_3 x4 x5 x6 x7 && Bool.true))) then (Bool.true) else (Bool.false)) else if plane_normal_0 x0 x1 x2 x3 == plane_normal_0 x4 x5 x6 x7 && (plane_normal_1 x0 x1 x2 x3 == plane_normal_1 x4 x5 x6 x7 && (plane_normal_2 x0 x1 x2 x3 == plane_normal_2 x4 x5 x6 x7 && (plane_normal_3 x0 x1 x2 x3 == plane_normal_3 x4 x5 x6 x7 && Bool.true))) then (Bool.true) else (Bool.false)
def plane_Equal_1 (x0 x1 x2 x3 x4 x5 x6 x7 : Int) : Int :=
  if plane_Check_0 x0 x1 x2 x3 != 0 then (if plane_Check_0 x0 x1 x2 x3 != 0 then (plane_Check_0 x0 x1 x2 x3) else (0)) else if plane_Check_0 x4 x5 x6 x7 != 0 then (if plane_Check_0 x4 x5 x6 x7 != 0 then (plane_Check_0 x4 x5 x6 x7) else (0)) else (0)
def ans24 : Array Value → Option (Bool × Value) := fun args => match args.toList with
  | [.agg c0, .agg c1] => match c0.toList, c1.toList with
    | [.int .i64 x0, .int .i64 x1, .int .i64 x2, .int .i64 x3], [.int .i64 x4, .int .i64 x5, .int .i64 x6, .int .i64 x7] => some (plane_Equal_ok x0 x1 x2 x3 x4 x5 x6 x7, .tuple #[.bool (plane_Equal_0 x0 x1 x2 x3 x4 x5 x6 x7), .int .i64 (plane_Equal_1 x0 x1 x2 x3 x4 x5 x6 x7)])
    | _, _ => none
  | _ => none
def tab18 : Tab := (24, .cond ans24) :: tab17
def tree24 (x0 x1 x2 x3 x4 x5 x6 x7 : Int) : Tr Value :=
  .node 15 (plane_Check_0 x0 x1 x2 x3 != 0)
  (.node 12 (plane_Check_0 x0 x1 x2 x3 != 0)
   (.leaf (some (.tuple #[.bool (Bool.false), .int .i64 (plane_Check_0 x0 x1 x2 x3)])))
   (.node 0 (plane_normal_ok x0 x1 x2 x3)
    (.node 0 (plane_normal_ok x4 x5 x6 x7)
     (.node 18 (plane_normal_0 x0 x1 x2 x3 == plane_normal_0 x4 x5 x6 x7 && (plane_normal_1 x0 x1 x2 x3 == plane_normal_1 x4 x5 x6 x7 && (plane_normal_2 x0 x1 x2 x3 == plane_normal_2 x4 x5 x6 x7 && (plane_normal_3 x0 x1 x2 x3 == plane_normal_3 x4 x5 x6 x7 && Bool.true))))
      (.leaf (some (.tuple #[.bool (Bool.true), .int .i64 (0)])))
      (.leaf (some (.tuple #[.bool (Bool.false), .int .i64 (0)]))))
     (.leaf none))
    (.leaf none)))
  (.node 15 (plane_Check_0 x4 x5 x6 x7 != 0)
   (.node 12 (plane_Check_0 x4 x5 x6 x7 != 0)
    (.leaf (some (.tuple #[.bool (Bool.false), .int .i64 (plane_Check_0 x4 x5 x6 x7)])))
    (.node 0 (plane_normal_ok x0 x1 x2 x3)
     (.node 0 (plane_normal_ok x4 x5 x6 x7)
      (.node 18 (plane_normal_0 x0 x1 x2 x3 == plane_normal_0 x4 x5 x6 x7 && (plane_normal_1 x0 x1 x2 x3 == plane_normal_1 x4 x5 x6 x7 && (plane_normal_2 x0 x1 x2 x3 == plane_normal_2 x4 x5 x6 x7 && (plane_normal_3 x0 x1 x2 x3 == plane_normal_3 x4 x5 x6 x7 && Bool.true))))
       (.leaf (some (.tuple #[.bool (Bool.true), .int .i64 (0)])))
       (.leaf (some (.tuple #[.bool (Bool.false), .int .i64 (0)]))))
      (.leaf none))
     (.leaf none)))
   (.node 12 (false)
    (.leaf (some (.tuple #[.bool (Bool.false), .int .i64 (0)])))
    (.node 0 (plane_normal_ok x0 x1 x2 x3)
     (.node 0 (plane_normal_ok x4 x5 x6 x7)
      (.node 18 (plane_normal_0 x0 x1 x2 x3 == plane_normal_0 x4 x5 x6 x7 && (plane_normal_1 x0 x1 x2 x3 == plane_normal_1 x4 x5 x6 x7 && (plane_normal_2 x0 x1 x2 x3 == plane_normal_2 x4 x5 x6 x7 && (plane_normal_3 x0 x1 x2 x3 == plane_normal_3 x4 x5 x6 x7 && Bool.true))))
       (.leaf (some (.tuple #[.bool (Bool.true), .int .i64 (0)])))
       (.leaf (some (.tuple #[.bool (Bool.false), .int .i64 (0)]))))
      (.leaf none))
     (.leaf none))))
theorem tree24_eq (x0 x1 x2 x3 x4 x5 x6 x7 : Int) : vals (evFnT Try.prog (tb Try.prog tab17) (tbT Try.prog tab17) ⟨[(12, 0), (18, 0)], [], []⟩ noLoops 300 24 #[.agg #[.int .i64 x0, .int .i64 x1, .int .i64 x2, .int .i64 x3], .agg #[.int .i64 x4, .int .i64 x5, .int .i64 x6, .int .i64 x7]] []) = tree24 x0 x1 x2 x3 x4 x5 x6 x7 := by kernel_rfl
theorem tree24_res (x0 x1 x2 x3 x4 x5 x6 x7 : Int) : (tree24 x0 x1 x2 x3 x4 x5 x6 x7).res = if plane_Equal_ok x0 x1 x2 x3 x4 x5 x6 x7 = true then some (.tuple #[.bool (plane_Equal_0 x0 x1 x2 x3 x4 x5 x6 x7), .int .i64 (plane_Equal_1 x0 x1 x2 x3 x4 x5 x6 x7)]) else none := by
  unfold tree24 plane_Equal_ok plane_Equal_0 plane_Equal_1
  simp only [Tr.res]
  generalize (plane_Check_0 x0 x1 x2 x3 != 0) = b0
  generalize (plane_normal_ok x0 x1 x2 x3) = b1
  generalize (plane_normal_ok x4 x5 x6 x7) = b2
  generalize (plane_normal_0 x0 x1 x2 x3 == plane_normal_0 x4 x5 x6 x7 && (plane_normal_1 x0 x1 x2 x3 == plane_normal_1 x4 x5 x6 x7 && (plane_normal_2 x0 x1 x2 x3 == plane_normal_2 x4 x5 x6 x7 && (plane_normal_3 x0 x1 x2 x3 == plane_normal_3 x4 x5 x6 x7 && Bool.true)))) = b3
  generalize (plane_Check_0 x4 x5 x6 x7 != 0) = b4
  cases b0 with
  | true =>
   first | (simp only [if_true, Bool.false_eq_true, if_false]; done) | rfl
  | false =>
   cases b4 with
   | true =>
    first | (simp only [if_true, Bool.false_eq_true, if_false]; done) | rfl
   | false =>
    cases b1 with
    | true =>
     cases b2 with
     | true =>
      cases b3 with
      | true =>
       first | (simp only [if_true, Bool.false_eq_true, if_false]; done) | rfl
      | false =>
       first | (simp only [if_true, Bool.false_eq_true, if_false]; done) | rfl
     | false =>
      first | (simp only [if_true, Bool.false_eq_true, if_false]; done) | rfl
    | false =>
     first | (simp only [if_true, Bool.false_eq_true, if_false]; done) | rfl
theorem tab18_ok : TabOk Try.prog tab18 := tab_cond mixed tab17_ok (by decide) fun args b v h hb => by
  unfold ans24 at h
  split at h
  · rename_i c0 c1 h0
    split at h
    · rename_i x0 x1 x2 x3 x4 x5 x6 x7 k1 k2
      injection h with h; injection h with h1 h2; subst h1 h2
      obtain rfl : c0 = #[.int .i64 x0, .int .i64 x1, .int .i64 x2, .int .i64 x3] := by rw [← Array.toArray_toList (xs := c0), k1]
      obtain rfl : c1 = #[.int .i64 x4, .int .i64 x5, .int .i64 x6, .int .i64 x7] := by rw [← Array.toArray_toList (xs := c1), k2]
      obtain rfl : args = #[.agg #[.int .i64 x0, .int .i64 x1, .int .i64 x2, .int .i64 x3], .agg #[.int .i64 x4, .int .i64 x5, .int .i64 x6, .int .i64 x7]] := by rw [← Array.toArray_toList (xs := args), h0]
      exact ⟨rfl, rfl, ⟨[(12, 0), (18, 0)], [], []⟩, 300, by rw [tree24_eq, tree24_res, if_pos hb]⟩
    · cases h
  · cases h

/- gangsaw/plane.Within -/
def plane_Within_ok (x0 x1 x2 x3 x4 x5 x6 x7 : Int) : Bool :=
  if plane_Check_0 x0 x1 x2 x3 != 0 then (if plane_Check_0 x0 x1 x2 x3 != 0 then (Bool.true) else if plane_normal_ok x0 x1 x2 x3 then (if plane_normal_ok x4 x5 x6 x7 then (Bool.true) else (Bool.false)) else (Bool.false)) else if plane_Check_0 x4 x5 x6 x7 != 0 then (if plane_Check_0 x4 x5 x6 x7 != 0 then (Bool.true) else if plane_normal_ok x0 x1 x2 x3 then (if plane_normal_ok x4 x5 x6 x7 then (Bool.true) else (Bool.false)) else (Bool.false)) else if plane_normal_ok x0 x1 x2 x3 then (if plane_normal_ok x4 x5 x6 x7 then (Bool.true) else (Bool.false)) else (Bool.false)
def plane_Within_0 (x0 x1 x2 x3 x4 x5 x6 x7 : Int) : Bool :=
  if plane_Check_0 x0 x1 x2 x3 != 0 then (if plane_Check_0 x0 x1 x2 x3 != 0 then (Bool.false) else if plane_normal_0 x0 x1 x2 x3 == plane_normal_0 x4 x5 x6 x7 && (plane_normal_1 x0 x1 x2 x3 == plane_normal_1 x4 x5 x6 x7 && (plane_normal_2 x0 x1 x2 x3 == plane_normal_2 x4 x5 x6 x7 && Bool.true)) then (if Decidable.decide (plane_normal_3 x0 x1 x2 x3 ≤ plane_normal_3 x4 x5 x6 x7) then (Bool.true) else (Bool.false)) else (Bool.false)) else if plane_Check_0 x4 x5 x6 x7 != 0 then (if plane_Check_0 x4 x5 x6 x7 != 0 then (Bool.false) else if plane_normal_0 x0 x1 x2 x3 == plane_normal_0 x4 x5 x6 x7 && (plane_normal_1 x0 x1 x2 x3 == plane_normal_1 x4 x5 x6 x7 && (plane_normal_2 x0 x1 x2 x3 == plane_normal_2 x4 x5 x6 x7 && Bool.true)) then (if Decidable.decide (plane_normal_3 x0 x1 x2 x3 ≤ plane_normal_3 x4 x5 x6 x7) then (Bool.true) else (Bool.false)) else (Bool.false)) else if plane_normal_0 x0 x1 x2 x3 == plane_normal_0 x4 x5 x6 x7 && (plane_normal_1 x0 x1 x2 x3 == plane_normal_1 x4 x5 x6 x7 && (plane_normal_2 x0 x1 x2 x3 == plane_normal_2 x4 x5 x6 x7 && Bool.true)) then (if Decidable.decide (plane_normal_3 x0 x1 x2 x3 ≤ plane_normal_3 x4 x5 x6 x7) then (Bool.true) else (Bool.false)) else (Bool.false)
def plane_Within_1 (x0 x1 x2 x3 x4 x5 x6 x7 : Int) : Int :=
  if plane_Check_0 x0 x1 x2 x3 != 0 then (if plane_Check_0 x0 x1 x2 x3 != 0 then (plane_Check_0 x0 x1 x2 x3) else (0)) else if plane_Check_0 x4 x5 x6 x7 != 0 then (if plane_Check_0 x4 x5 x6 x7 != 0 then (plane_Check_0 x4 x5 x6 x7) else (0)) else (0)
def ans25 : Array Value → Option (Bool × Value) := fun args => match args.toList with
  | [.agg c0, .agg c1] => match c0.toList, c1.toList with
    | [.int .i64 x0, .int .i64 x1, .int .i64 x2, .int .i64 x3], [.int .i64 x4, .int .i64 x5, .int .i64 x6, .int .i64 x7] => some (plane_Within_ok x0 x1 x2 x3 x4 x5 x6 x7, .tuple #[.bool (plane_Within_0 x0 x1 x2 x3 x4 x5 x6 x7), .int .i64 (plane_Within_1 x0 x1 x2 x3 x4 x5 x6 x7)])
    | _, _ => none
  | _ => none
def tab19 : Tab := (25, .cond ans25) :: tab18
def tree25 (x0 x1 x2 x3 x4 x5 x6 x7 : Int) : Tr Value :=
  .node 15 (plane_Check_0 x0 x1 x2 x3 != 0)
  (.node 14 (plane_Check_0 x0 x1 x2 x3 != 0)
   (.leaf (some (.tuple #[.bool (Bool.false), .int .i64 (plane_Check_0 x0 x1 x2 x3)])))
   (.node 0 (plane_normal_ok x0 x1 x2 x3)
    (.node 0 (plane_normal_ok x4 x5 x6 x7)
     (.node 24 (plane_normal_0 x0 x1 x2 x3 == plane_normal_0 x4 x5 x6 x7 && (plane_normal_1 x0 x1 x2 x3 == plane_normal_1 x4 x5 x6 x7 && (plane_normal_2 x0 x1 x2 x3 == plane_normal_2 x4 x5 x6 x7 && Bool.true)))
      (.node 30 (Decidable.decide (plane_normal_3 x0 x1 x2 x3 ≤ plane_normal_3 x4 x5 x6 x7))
       (.leaf (some (.tuple #[.bool (Bool.true), .int .i64 (0)])))
       (.leaf (some (.tuple #[.bool (Bool.false), .int .i64 (0)]))))
      (.leaf (some (.tuple #[.bool (Bool.false), .int .i64 (0)]))))
     (.leaf none))
    (.leaf none)))
  (.node 15 (plane_Check_0 x4 x5 x6 x7 != 0)
   (.node 14 (plane_Check_0 x4 x5 x6 x7 != 0)
    (.leaf (some (.tuple #[.bool (Bool.false), .int .i64 (plane_Check_0 x4 x5 x6 x7)])))
    (.node 0 (plane_normal_ok x0 x1 x2 x3)
     (.node 0 (plane_normal_ok x4 x5 x6 x7)
      (.node 24 (plane_normal_0 x0 x1 x2 x3 == plane_normal_0 x4 x5 x6 x7 && (plane_normal_1 x0 x1 x2 x3 == plane_normal_1 x4 x5 x6 x7 && (plane_normal_2 x0 x1 x2 x3 == plane_normal_2 x4 x5 x6 x7 && Bool.true)))
       (.node 30 (Decidable.decide (plane_normal_3 x0 x1 x2 x3 ≤ plane_normal_3 x4 x5 x6 x7))
        (.leaf (some (.tuple #[.bool (Bool.true), .int .i64 (0)])))
        (.leaf (some (.tuple #[.bool (Bool.false), .int .i64 (0)]))))
       (.leaf (some (.tuple #[.bool (Bool.false), .int .i64 (0)]))))
      (.leaf none))
     (.leaf none)))
   (.node 14 (false)
    (.leaf (some (.tuple #[.bool (Bool.false), .int .i64 (0)])))
    (.node 0 (plane_normal_ok x0 x1 x2 x3)
     (.node 0 (plane_normal_ok x4 x5 x6 x7)
      (.node 24 (plane_normal_0 x0 x1 x2 x3 == plane_normal_0 x4 x5 x6 x7 && (plane_normal_1 x0 x1 x2 x3 == plane_normal_1 x4 x5 x6 x7 && (plane_normal_2 x0 x1 x2 x3 == plane_normal_2 x4 x5 x6 x7 && Bool.true)))
       (.node 30 (Decidable.decide (plane_normal_3 x0 x1 x2 x3 ≤ plane_normal_3 x4 x5 x6 x7))
        (.leaf (some (.tuple #[.bool (Bool.true), .int .i64 (0)])))
        (.leaf (some (.tuple #[.bool (Bool.false), .int .i64 (0)]))))
       (.leaf (some (.tuple #[.bool (Bool.false), .int .i64 (0)]))))
      (.leaf none))
     (.leaf none))))
theorem tree25_eq (x0 x1 x2 x3 x4 x5 x6 x7 : Int) : vals (evFnT Try.prog (tb Try.prog tab18) (tbT Try.prog tab18) ⟨[(14, 0), (24, 0), (30, 0)], [], []⟩ noLoops 300 25 #[.agg #[.int .i64 x0, .int .i64 x1, .int .i64 x2, .int .i64 x3], .agg #[.int .i64 x4, .int .i64 x5, .int .i64 x6, .int .i64 x7]] []) = tree25 x0 x1 x2 x3 x4 x5 x6 x7 := by kernel_rfl
theorem tree25_res (x0 x1 x2 x3 x4 x5 x6 x7 : Int) : (tree25 x0 x1 x2 x3 x4 x5 x6 x7).res = if plane_Within_ok x0 x1 x2 x3 x4 x5 x6 x7 = true then some (.tuple #[.bool (plane_Within_0 x0 x1 x2 x3 x4 x5 x6 x7), .int .i64 (plane_Within_1 x0 x1 x2 x3 x4 x5 x6 x7)]) else none := by
  unfold tree25 plane_Within_ok plane_Within_0 plane_Within_1
  simp only [Tr.res]
  generalize (plane_Check_0 x0 x1 x2 x3 != 0) = b0
  generalize (plane_normal_ok x0 x1 x2 x3) = b1
  generalize (plane_normal_ok x4 x5 x6 x7) = b2
  generalize (plane_normal_0 x0 x1 x2 x3 == plane_normal_0 x4 x5 x6 x7 && (plane_normal_1 x0 x1 x2 x3 == plane_normal_1 x4 x5 x6 x7 && (plane_normal_2 x0 x1 x2 x3 == plane_normal_2 x4 x5 x6 x7 && Bool.true))) = b3
  generalize (Decidable.decide (plane_normal_3 x0 x1 x2 x3 ≤ plane_normal_3 x4 x5 x6 x7)) = b4
  generalize (plane_Check_0 x4 x5 x6 x7 != 0) = b5
  cases b0 with
  | true =>
   first | (simp only [if_true, Bool.false_eq_true, if_false]; done) | rfl
  | false =>
   cases b5 with
   | true =>
    first | (simp only [if_true, Bool.false_eq_true, if_false]; done) | rfl
   | false =>
    cases b1 with
    | true =>
     cases b2 with
     | true =>
      cases b3 with
      | true =>
       cases b4 with
       | true =>
        first | (simp only [if_true, Bool.false_eq_true, if_false]; done) | rfl
       | false =>
        first | (simp only [if_true, Bool.false_eq_true, if_false]; done) | rfl
      | false =>
       first | (simp only [if_true, Bool.false_eq_true, if_false]; done) | rfl
     | false =>
      first | (simp only [if_true, Bool.false_eq_true, if_false]; done) | rfl
    | false =>
     first | (simp only [if_true, Bool.false_eq_true, if_false]; done) | rfl
theorem tab19_ok : TabOk Try.prog tab19 := tab_cond mixed tab18_ok (by decide) fun args b v h hb => by
  unfold ans25 at h
  split at h
  · rename_i c0 c1 h0
    split at h
    · rename_i x0 x1 x2 x3 x4 x5 x6 x7 k1 k2
      injection h with h; injection h with h1 h2; subst h1 h2
      obtain rfl : c0 = #[.int .i64 x0, .int .i64 x1, .int .i64 x2, .int .i64 x3] := by rw [← Array.toArray_toList (xs := c0), k1]
      obtain rfl : c1 = #[.int .i64 x4, .int .i64 x5, .int .i64 x6, .int .i64 x7] := by rw [← Array.toArray_toList (xs := c1), k2]
      obtain rfl : args = #[.agg #[.int .i64 x0, .int .i64 x1, .int .i64 x2, .int .i64 x3], .agg #[.int .i64 x4, .int .i64 x5, .int .i64 x6, .int .i64 x7]] := by rw [← Array.toArray_toList (xs := args), h0]
      exact ⟨rfl, rfl, ⟨[(14, 0), (24, 0), (30, 0)], [], []⟩, 300, by rw [tree25_eq, tree25_res, if_pos hb]⟩
    · cases h
  · cases h


/- gangsaw/gangsawlaw07.PlanePoints -/
def law07_PlanePoints_ok (x0 x1 x2 x3 x4 x5 x6 x7 x8 x9 x10 : Int) : Bool :=
  if plane_Normal_ok x0 x1 x2 x3 then (if plane_Normal_4 x0 x1 x2 x3 != 0 then (Bool.true) else if plane_Normal_ok (plane_Normal_0 x0 x1 x2 x3) (plane_Normal_1 x0 x1 x2 x3) (plane_Normal_2 x0 x1 x2 x3) (plane_Normal_3 x0 x1 x2 x3) then (if plane_Normal_4 (plane_Normal_0 x0 x1 x2 x3) (plane_Normal_1 x0 x1 x2 x3) (plane_Normal_2 x0 x1 x2 x3) (plane_Normal_3 x0 x1 x2 x3) != 0 then (Bool.true) else if !(plane_Normal_0 (plane_Normal_0 x0 x1 x2 x3) (plane_Normal_1 x0 x1 x2 x3) (plane_Normal_2 x0 x1 x2 x3) (plane_Normal_3 x0 x1 x2 x3) == plane_Normal_0 x0 x1 x2 x3 && (plane_Normal_1 (plane_Normal_0 x0 x1 x2 x3) (plane_Normal_1 x0 x1 x2 x3) (plane_Normal_2 x0 x1 x2 x3) (plane_Normal_3 x0 x1 x2 x3) == plane_Normal_1 x0 x1 x2 x3 && (plane_Normal_2 (plane_Normal_0 x0 x1 x2 x3) (plane_Normal_1 x0 x1 x2 x3) (plane_Normal_2 x0 x1 x2 x3) (plane_Normal_3 x0 x1 x2 x3) == plane_Normal_2 x0 x1 x2 x3 && (plane_Normal_3 (plane_Normal_0 x0 x1 x2 x3) (plane_Normal_1 x0 x1 x2 x3) (plane_Normal_2 x0 x1 x2 x3) (plane_Normal_3 x0 x1 x2 x3) == plane_Normal_3 x0 x1 x2 x3 && Bool.true)))) then (Bool.true) else if plane_Value_1 x0 x1 x2 x3 x8 x9 x10 != plane_Value_1 (plane_Normal_0 x0 x1 x2 x3) (plane_Normal_1 x0 x1 x2 x3) (plane_Normal_2 x0 x1 x2 x3) (plane_Normal_3 x0 x1 x2 x3) x8 x9 x10 then (Bool.true) else if plane_Value_1 x0 x1 x2 x3 x8 x9 x10 == 0 then (if !Decidable.decide (plane_Value_0 x0 x1 x2 x3 x8 x9 x10 ≤ 0) == Decidable.decide (plane_Value_0 (plane_Normal_0 x0 x1 x2 x3) (plane_Normal_1 x0 x1 x2 x3) (plane_Normal_2 x0 x1 x2 x3) (plane_Normal_3 x0 x1 x2 x3) x8 x9 x10 ≤ 0) then (Bool.true) else if plane_Within_ok x0 x1 x2 x3 x4 x5 x6 x7 then (if plane_Within_1 x0 x1 x2 x3 x4 x5 x6 x7 != 0 then (Bool.true) else if plane_Value_1 x4 x5 x6 x7 x8 x9 x10 != 0 then (Bool.true) else if plane_Within_ok x4 x5 x6 x7 x0 x1 x2 x3 then (if plane_Equal_ok x0 x1 x2 x3 x4 x5 x6 x7 then (Bool.true) else (Bool.false)) else (Bool.false)) else (Bool.false)) else if plane_Within_ok x0 x1 x2 x3 x4 x5 x6 x7 then (if plane_Within_1 x0 x1 x2 x3 x4 x5 x6 x7 != 0 then (Bool.true) else if plane_Value_1 x4 x5 x6 x7 x8 x9 x10 != 0 then (Bool.true) else if plane_Within_ok x4 x5 x6 x7 x0 x1 x2 x3 then (if plane_Equal_ok x0 x1 x2 x3 x4 x5 x6 x7 then (Bool.true) else (Bool.false)) else (Bool.false)) else (Bool.false)) else (Bool.false)) else (Bool.false)
def law07_PlanePoints_0 (x0 x1 x2 x3 x4 x5 x6 x7 x8 x9 x10 : Int) : Bool :=
  if plane_Normal_4 x0 x1 x2 x3 != 0 then (if plane_Normal_0 x0 x1 x2 x3 == 0 && (plane_Normal_1 x0 x1 x2 x3 == 0 && (plane_Normal_2 x0 x1 x2 x3 == 0 && (plane_Normal_3 x0 x1 x2 x3 == 0 && Bool.true))) then (Bool.true) else (Bool.false)) else if plane_Normal_4 (plane_Normal_0 x0 x1 x2 x3) (plane_Normal_1 x0 x1 x2 x3) (plane_Normal_2 x0 x1 x2 x3) (plane_Normal_3 x0 x1 x2 x3) != 0 then (Bool.false) else if !(plane_Normal_0 (plane_Normal_0 x0 x1 x2 x3) (plane_Normal_1 x0 x1 x2 x3) (plane_Normal_2 x0 x1 x2 x3) (plane_Normal_3 x0 x1 x2 x3) == plane_Normal_0 x0 x1 x2 x3 && (plane_Normal_1 (plane_Normal_0 x0 x1 x2 x3) (plane_Normal_1 x0 x1 x2 x3) (plane_Normal_2 x0 x1 x2 x3) (plane_Normal_3 x0 x1 x2 x3) == plane_Normal_1 x0 x1 x2 x3 && (plane_Normal_2 (plane_Normal_0 x0 x1 x2 x3) (plane_Normal_1 x0 x1 x2 x3) (plane_Normal_2 x0 x1 x2 x3) (plane_Normal_3 x0 x1 x2 x3) == plane_Normal_2 x0 x1 x2 x3 && (plane_Normal_3 (plane_Normal_0 x0 x1 x2 x3) (plane_Normal_1 x0 x1 x2 x3) (plane_Normal_2 x0 x1 x2 x3) (plane_Normal_3 x0 x1 x2 x3) == plane_Normal_3 x0 x1 x2 x3 && Bool.true)))) then (Bool.false) else if plane_Value_1 x0 x1 x2 x3 x8 x9 x10 != plane_Value_1 (plane_Normal_0 x0 x1 x2 x3) (plane_Normal_1 x0 x1 x2 x3) (plane_Normal_2 x0 x1 x2 x3) (plane_Normal_3 x0 x1 x2 x3) x8 x9 x10 then (Bool.false) else if plane_Value_1 x0 x1 x2 x3 x8 x9 x10 == 0 then (if !Decidable.decide (plane_Value_0 x0 x1 x2 x3 x8 x9 x10 ≤ 0) == Decidable.decide (plane_Value_0 (plane_Normal_0 x0 x1 x2 x3) (plane_Normal_1 x0 x1 x2 x3) (plane_Normal_2 x0 x1 x2 x3) (plane_Normal_3 x0 x1 x2 x3) x8 x9 x10 ≤ 0) then (Bool.false) else if plane_Within_0 x0 x1 x2 x3 x4 x5 x6 x7 then (if plane_Within_1 x0 x1 x2 x3 x4 x5 x6 x7 != 0 then (Bool.true) else if plane_Value_1 x4 x5 x6 x7 x8 x9 x10 != 0 then (Bool.true) else if plane_Within_0 x4 x5 x6 x7 x0 x1 x2 x3 then (if plane_Equal_0 x0 x1 x2 x3 x4 x5 x6 x7 then (if plane_Within_1 x4 x5 x6 x7 x0 x1 x2 x3 == 0 then (if plane_Equal_1 x0 x1 x2 x3 x4 x5 x6 x7 == 0 then (if Decidable.decide (plane_Value_0 x0 x1 x2 x3 x8 x9 x10 > 0) then (Bool.true) else if Decidable.decide (plane_Value_0 x4 x5 x6 x7 x8 x9 x10 ≤ 0) then (Bool.true) else (Bool.false)) else (Bool.false)) else (Bool.false)) else (Bool.false)) else if plane_Equal_0 x0 x1 x2 x3 x4 x5 x6 x7 then (Bool.false) else if plane_Within_1 x4 x5 x6 x7 x0 x1 x2 x3 == 0 then (if plane_Equal_1 x0 x1 x2 x3 x4 x5 x6 x7 == 0 then (if Decidable.decide (plane_Value_0 x0 x1 x2 x3 x8 x9 x10 > 0) then (Bool.true) else if Decidable.decide (plane_Value_0 x4 x5 x6 x7 x8 x9 x10 ≤ 0) then (Bool.true) else (Bool.false)) else (Bool.false)) else (Bool.false)) else if plane_Within_1 x0 x1 x2 x3 x4 x5 x6 x7 != 0 then (Bool.true) else if plane_Value_1 x4 x5 x6 x7 x8 x9 x10 != 0 then (Bool.true) else if plane_Equal_0 x0 x1 x2 x3 x4 x5 x6 x7 then (Bool.false) else if plane_Within_1 x4 x5 x6 x7 x0 x1 x2 x3 == 0 then (if plane_Equal_1 x0 x1 x2 x3 x4 x5 x6 x7 == 0 then (Bool.true) else (Bool.false)) else (Bool.false)) else if plane_Within_0 x0 x1 x2 x3 x4 x5 x6 x7 then (if plane_Within_1 x0 x1 x2 x3 x4 x5 x6 x7 != 0 then (Bool.true) else if plane_Value_1 x4 x5 x6 x7 x8 x9 x10 != 0 then (Bool.true) else if plane_Within_0 x4 x5 x6 x7 x0 x1 x2 x3 then (if plane_Equal_0 x0 x1 x2 x3 x4 x5 x6 x7 then (if plane_Within_1 x4 x5 x6 x7 x0 x1 x2 x3 == 0 then (if plane_Equal_1 x0 x1 x2 x3 x4 x5 x6 x7 == 0 then (if Decidable.decide (plane_Value_0 x0 x1 x2 x3 x8 x9 x10 > 0) then (Bool.true) else if Decidable.decide (plane_Value_0 x4 x5 x6 x7 x8 x9 x10 ≤ 0) then (Bool.true) else (Bool.false)) else (Bool.false)) else (Bool.false)) else (Bool.false)) else if plane_Equal_0 x0 x1 x2 x3 x4 x5 x6 x7 then (Bool.false) else if plane_Within_1 x4 x5 x6 x7 x0 x1 x2 x3 == 0 then (if plane_Equal_1 x0 x1 x2 x3 x4 x5 x6 x7 == 0 then (if Decidable.decide (plane_Value_0 x0 x1 x2 x3 x8 x9 x10 > 0) then (Bool.true) else if Decidable.decide (plane_Value_0 x4 x5 x6 x7 x8 x9 x10 ≤ 0) then (Bool.true) else (Bool.false)) else (Bool.false)) else (Bool.false)) else if plane_Within_1 x0 x1 x2 x3 x4 x5 x6 x7 != 0 then (Bool.true) else if plane_Value_1 x4 x5 x6 x7 x8 x9 x10 != 0 then (Bool.true) else if plane_Equal_0 x0 x1 x2 x3 x4 x5 x6 x7 then (Bool.false) else if plane_Within_1 x4 x5 x6 x7 x0 x1 x2 x3 == 0 then (if plane_Equal_1 x0 x1 x2 x3 x4 x5 x6 x7 == 0 then (Bool.true) else (Bool.false)) else (Bool.false)
def ans8 : Array Value → Option (Bool × Value) := fun args => match args.toList with
  | [.agg c0, .agg c1, .agg c2] => match c0.toList, c1.toList, c2.toList with
    | [.int .i64 x0, .int .i64 x1, .int .i64 x2, .int .i64 x3], [.int .i64 x4, .int .i64 x5, .int .i64 x6, .int .i64 x7], [.int .i64 x8, .int .i64 x9, .int .i64 x10] => some (law07_PlanePoints_ok x0 x1 x2 x3 x4 x5 x6 x7 x8 x9 x10, .bool (law07_PlanePoints_0 x0 x1 x2 x3 x4 x5 x6 x7 x8 x9 x10))
    | _, _, _ => none
  | _ => none
def tab20 : Tab := (8, .cond ans8) :: tab19
def tree8 (x0 x1 x2 x3 x4 x5 x6 x7 x8 x9 x10 : Int) : Tr Value :=
  .node 0 (plane_Normal_ok x0 x1 x2 x3)
  (.node 31 (plane_Normal_4 x0 x1 x2 x3 != 0)
   (.node 34 (plane_Normal_0 x0 x1 x2 x3 == 0 && (plane_Normal_1 x0 x1 x2 x3 == 0 && (plane_Normal_2 x0 x1 x2 x3 == 0 && (plane_Normal_3 x0 x1 x2 x3 == 0 && Bool.true))))
    (.leaf (some (.bool (Bool.true))))
    (.leaf (some (.bool (Bool.false)))))
   (.node 0 (plane_Normal_ok (plane_Normal_0 x0 x1 x2 x3) (plane_Normal_1 x0 x1 x2 x3) (plane_Normal_2 x0 x1 x2 x3) (plane_Normal_3 x0 x1 x2 x3))
    (.node 41 (plane_Normal_4 (plane_Normal_0 x0 x1 x2 x3) (plane_Normal_1 x0 x1 x2 x3) (plane_Normal_2 x0 x1 x2 x3) (plane_Normal_3 x0 x1 x2 x3) != 0)
     (.leaf (some (.bool (Bool.false))))
     (.node 45 (!(plane_Normal_0 (plane_Normal_0 x0 x1 x2 x3) (plane_Normal_1 x0 x1 x2 x3) (plane_Normal_2 x0 x1 x2 x3) (plane_Normal_3 x0 x1 x2 x3) == plane_Normal_0 x0 x1 x2 x3 && (plane_Normal_1 (plane_Normal_0 x0 x1 x2 x3) (plane_Normal_1 x0 x1 x2 x3) (plane_Normal_2 x0 x1 x2 x3) (plane_Normal_3 x0 x1 x2 x3) == plane_Normal_1 x0 x1 x2 x3 && (plane_Normal_2 (plane_Normal_0 x0 x1 x2 x3) (plane_Normal_1 x0 x1 x2 x3) (plane_Normal_2 x0 x1 x2 x3) (plane_Normal_3 x0 x1 x2 x3) == plane_Normal_2 x0 x1 x2 x3 && (plane_Normal_3 (plane_Normal_0 x0 x1 x2 x3) (plane_Normal_1 x0 x1 x2 x3) (plane_Normal_2 x0 x1 x2 x3) (plane_Normal_3 x0 x1 x2 x3) == plane_Normal_3 x0 x1 x2 x3 && Bool.true)))))
      (.leaf (some (.bool (Bool.false))))
      (.node 61 (plane_Value_1 x0 x1 x2 x3 x8 x9 x10 != plane_Value_1 (plane_Normal_0 x0 x1 x2 x3) (plane_Normal_1 x0 x1 x2 x3) (plane_Normal_2 x0 x1 x2 x3) (plane_Normal_3 x0 x1 x2 x3) x8 x9 x10)
       (.leaf (some (.bool (Bool.false))))
       (.node 64 (plane_Value_1 x0 x1 x2 x3 x8 x9 x10 == 0)
        (.node 70 (!Decidable.decide (plane_Value_0 x0 x1 x2 x3 x8 x9 x10 ≤ 0) == Decidable.decide (plane_Value_0 (plane_Normal_0 x0 x1 x2 x3) (plane_Normal_1 x0 x1 x2 x3) (plane_Normal_2 x0 x1 x2 x3) (plane_Normal_3 x0 x1 x2 x3) x8 x9 x10 ≤ 0))
         (.leaf (some (.bool (Bool.false))))
         (.node 0 (plane_Within_ok x0 x1 x2 x3 x4 x5 x6 x7)
          (.node 77 (plane_Within_0 x0 x1 x2 x3 x4 x5 x6 x7)
           (.node 86 (plane_Within_1 x0 x1 x2 x3 x4 x5 x6 x7 != 0)
            (.leaf (some (.bool (Bool.true))))
            (.node 89 (plane_Value_1 x4 x5 x6 x7 x8 x9 x10 != 0)
             (.leaf (some (.bool (Bool.true))))
             (.node 0 (plane_Within_ok x4 x5 x6 x7 x0 x1 x2 x3)
              (.node 95 (plane_Within_0 x4 x5 x6 x7 x0 x1 x2 x3)
               (.node 0 (plane_Equal_ok x0 x1 x2 x3 x4 x5 x6 x7)
                (.node 101 (plane_Equal_0 x0 x1 x2 x3 x4 x5 x6 x7)
                 (.node 104 (plane_Within_1 x4 x5 x6 x7 x0 x1 x2 x3 == 0)
                  (.node 107 (plane_Equal_1 x0 x1 x2 x3 x4 x5 x6 x7 == 0)
                   (.node 122 (Decidable.decide (plane_Value_0 x0 x1 x2 x3 x8 x9 x10 > 0))
                    (.leaf (some (.bool (Bool.true))))
                    (.node 126 (Decidable.decide (plane_Value_0 x4 x5 x6 x7 x8 x9 x10 ≤ 0))
                     (.leaf (some (.bool (Bool.true))))
                     (.leaf (some (.bool (Bool.false))))))
                   (.leaf (some (.bool (Bool.false)))))
                  (.leaf (some (.bool (Bool.false)))))
                 (.node 104 (plane_Within_1 x4 x5 x6 x7 x0 x1 x2 x3 == 0)
                  (.node 107 (plane_Equal_1 x0 x1 x2 x3 x4 x5 x6 x7 == 0)
                   (.leaf (some (.bool (Bool.false))))
                   (.leaf (some (.bool (Bool.false)))))
                  (.leaf (some (.bool (Bool.false))))))
                (.leaf none))
               (.node 0 (plane_Equal_ok x0 x1 x2 x3 x4 x5 x6 x7)
                (.node 101 (plane_Equal_0 x0 x1 x2 x3 x4 x5 x6 x7)
                 (.node 104 (plane_Within_1 x4 x5 x6 x7 x0 x1 x2 x3 == 0)
                  (.node 107 (plane_Equal_1 x0 x1 x2 x3 x4 x5 x6 x7 == 0)
                   (.leaf (some (.bool (Bool.false))))
                   (.leaf (some (.bool (Bool.false)))))
                  (.leaf (some (.bool (Bool.false)))))
                 (.node 104 (plane_Within_1 x4 x5 x6 x7 x0 x1 x2 x3 == 0)
                  (.node 107 (plane_Equal_1 x0 x1 x2 x3 x4 x5 x6 x7 == 0)
                   (.node 122 (Decidable.decide (plane_Value_0 x0 x1 x2 x3 x8 x9 x10 > 0))
                    (.leaf (some (.bool (Bool.true))))
                    (.node 126 (Decidable.decide (plane_Value_0 x4 x5 x6 x7 x8 x9 x10 ≤ 0))
                     (.leaf (some (.bool (Bool.true))))
                     (.leaf (some (.bool (Bool.false))))))
                   (.leaf (some (.bool (Bool.false)))))
                  (.leaf (some (.bool (Bool.false))))))
                (.leaf none)))
              (.leaf none))))
           (.node 86 (plane_Within_1 x0 x1 x2 x3 x4 x5 x6 x7 != 0)
            (.leaf (some (.bool (Bool.true))))
            (.node 89 (plane_Value_1 x4 x5 x6 x7 x8 x9 x10 != 0)
             (.leaf (some (.bool (Bool.true))))
             (.node 0 (plane_Within_ok x4 x5 x6 x7 x0 x1 x2 x3)
              (.node 95 (plane_Within_0 x4 x5 x6 x7 x0 x1 x2 x3)
               (.node 0 (plane_Equal_ok x0 x1 x2 x3 x4 x5 x6 x7)
                (.node 101 (plane_Equal_0 x0 x1 x2 x3 x4 x5 x6 x7)
                 (.node 104 (plane_Within_1 x4 x5 x6 x7 x0 x1 x2 x3 == 0)
                  (.node 107 (plane_Equal_1 x0 x1 x2 x3 x4 x5 x6 x7 == 0)
                   (.leaf (some (.bool (Bool.false))))
                   (.leaf (some (.bool (Bool.false)))))
                  (.leaf (some (.bool (Bool.false)))))
                 (.node 104 (plane_Within_1 x4 x5 x6 x7 x0 x1 x2 x3 == 0)
                  (.node 107 (plane_Equal_1 x0 x1 x2 x3 x4 x5 x6 x7 == 0)
                   (.leaf (some (.bool (Bool.true))))
                   (.leaf (some (.bool (Bool.false)))))
                  (.leaf (some (.bool (Bool.false))))))
                (.leaf none))
               (.node 0 (plane_Equal_ok x0 x1 x2 x3 x4 x5 x6 x7)
                (.node 101 (plane_Equal_0 x0 x1 x2 x3 x4 x5 x6 x7)
                 (.node 104 (plane_Within_1 x4 x5 x6 x7 x0 x1 x2 x3 == 0)
                  (.node 107 (plane_Equal_1 x0 x1 x2 x3 x4 x5 x6 x7 == 0)
                   (.leaf (some (.bool (Bool.false))))
                   (.leaf (some (.bool (Bool.false)))))
                  (.leaf (some (.bool (Bool.false)))))
                 (.node 104 (plane_Within_1 x4 x5 x6 x7 x0 x1 x2 x3 == 0)
                  (.node 107 (plane_Equal_1 x0 x1 x2 x3 x4 x5 x6 x7 == 0)
                   (.leaf (some (.bool (Bool.true))))
                   (.leaf (some (.bool (Bool.false)))))
                  (.leaf (some (.bool (Bool.false))))))
                (.leaf none)))
              (.leaf none)))))
          (.leaf none)))
        (.node 0 (plane_Within_ok x0 x1 x2 x3 x4 x5 x6 x7)
         (.node 77 (plane_Within_0 x0 x1 x2 x3 x4 x5 x6 x7)
          (.node 86 (plane_Within_1 x0 x1 x2 x3 x4 x5 x6 x7 != 0)
           (.leaf (some (.bool (Bool.true))))
           (.node 89 (plane_Value_1 x4 x5 x6 x7 x8 x9 x10 != 0)
            (.leaf (some (.bool (Bool.true))))
            (.node 0 (plane_Within_ok x4 x5 x6 x7 x0 x1 x2 x3)
             (.node 95 (plane_Within_0 x4 x5 x6 x7 x0 x1 x2 x3)
              (.node 0 (plane_Equal_ok x0 x1 x2 x3 x4 x5 x6 x7)
               (.node 101 (plane_Equal_0 x0 x1 x2 x3 x4 x5 x6 x7)
                (.node 104 (plane_Within_1 x4 x5 x6 x7 x0 x1 x2 x3 == 0)
                 (.node 107 (plane_Equal_1 x0 x1 x2 x3 x4 x5 x6 x7 == 0)
                  (.node 122 (Decidable.decide (plane_Value_0 x0 x1 x2 x3 x8 x9 x10 > 0))
                   (.leaf (some (.bool (Bool.true))))
                   (.node 126 (Decidable.decide (plane_Value_0 x4 x5 x6 x7 x8 x9 x10 ≤ 0))
                    (.leaf (some (.bool (Bool.true))))
                    (.leaf (some (.bool (Bool.false))))))
                  (.leaf (some (.bool (Bool.false)))))
                 (.leaf (some (.bool (Bool.false)))))
                (.node 104 (plane_Within_1 x4 x5 x6 x7 x0 x1 x2 x3 == 0)
                 (.node 107 (plane_Equal_1 x0 x1 x2 x3 x4 x5 x6 x7 == 0)
                  (.leaf (some (.bool (Bool.false))))
                  (.leaf (some (.bool (Bool.false)))))
                 (.leaf (some (.bool (Bool.false))))))
               (.leaf none))
              (.node 0 (plane_Equal_ok x0 x1 x2 x3 x4 x5 x6 x7)
               (.node 101 (plane_Equal_0 x0 x1 x2 x3 x4 x5 x6 x7)
                (.node 104 (plane_Within_1 x4 x5 x6 x7 x0 x1 x2 x3 == 0)
                 (.node 107 (plane_Equal_1 x0 x1 x2 x3 x4 x5 x6 x7 == 0)
                  (.leaf (some (.bool (Bool.false))))
                  (.leaf (some (.bool (Bool.false)))))
                 (.leaf (some (.bool (Bool.false)))))
                (.node 104 (plane_Within_1 x4 x5 x6 x7 x0 x1 x2 x3 == 0)
                 (.node 107 (plane_Equal_1 x0 x1 x2 x3 x4 x5 x6 x7 == 0)
                  (.node 122 (Decidable.decide (plane_Value_0 x0 x1 x2 x3 x8 x9 x10 > 0))
                   (.leaf (some (.bool (Bool.true))))
                   (.node 126 (Decidable.decide (plane_Value_0 x4 x5 x6 x7 x8 x9 x10 ≤ 0))
                    (.leaf (some (.bool (Bool.true))))
                    (.leaf (some (.bool (Bool.false))))))
                  (.leaf (some (.bool (Bool.false)))))
                 (.leaf (some (.bool (Bool.false))))))
               (.leaf none)))
             (.leaf none))))
          (.node 86 (plane_Within_1 x0 x1 x2 x3 x4 x5 x6 x7 != 0)
           (.leaf (some (.bool (Bool.true))))
           (.node 89 (plane_Value_1 x4 x5 x6 x7 x8 x9 x10 != 0)
            (.leaf (some (.bool (Bool.true))))
            (.node 0 (plane_Within_ok x4 x5 x6 x7 x0 x1 x2 x3)
             (.node 95 (plane_Within_0 x4 x5 x6 x7 x0 x1 x2 x3)
              (.node 0 (plane_Equal_ok x0 x1 x2 x3 x4 x5 x6 x7)
               (.node 101 (plane_Equal_0 x0 x1 x2 x3 x4 x5 x6 x7)
                (.node 104 (plane_Within_1 x4 x5 x6 x7 x0 x1 x2 x3 == 0)
                 (.node 107 (plane_Equal_1 x0 x1 x2 x3 x4 x5 x6 x7 == 0)
                  (.leaf (some (.bool (Bool.false))))
                  (.leaf (some (.bool (Bool.false)))))
                 (.leaf (some (.bool (Bool.false)))))
                (.node 104 (plane_Within_1 x4 x5 x6 x7 x0 x1 x2 x3 == 0)
                 (.node 107 (plane_Equal_1 x0 x1 x2 x3 x4 x5 x6 x7 == 0)
                  (.leaf (some (.bool (Bool.true))))
                  (.leaf (some (.bool (Bool.false)))))
                 (.leaf (some (.bool (Bool.false))))))
               (.leaf none))
              (.node 0 (plane_Equal_ok x0 x1 x2 x3 x4 x5 x6 x7)
               (.node 101 (plane_Equal_0 x0 x1 x2 x3 x4 x5 x6 x7)
                (.node 104 (plane_Within_1 x4 x5 x6 x7 x0 x1 x2 x3 == 0)
                 (.node 107 (plane_Equal_1 x0 x1 x2 x3 x4 x5 x6 x7 == 0)
                  (.leaf (some (.bool (Bool.false))))
                  (.leaf (some (.bool (Bool.false)))))
                 (.leaf (some (.bool (Bool.false)))))
                (.node 104 (plane_Within_1 x4 x5 x6 x7 x0 x1 x2 x3 == 0)
                 (.node 107 (plane_Equal_1 x0 x1 x2 x3 x4 x5 x6 x7 == 0)
                  (.leaf (some (.bool (Bool.true))))
                  (.leaf (some (.bool (Bool.false)))))
                 (.leaf (some (.bool (Bool.false))))))
               (.leaf none)))
             (.leaf none)))))
         (.leaf none))))))
    (.leaf none)))
  (.leaf none)
theorem tree8_eq (x0 x1 x2 x3 x4 x5 x6 x7 x8 x9 x10 : Int) : vals (evFnT Try.prog (tb Try.prog tab19) (tbT Try.prog tab19) ⟨[(31, 0), (34, 0), (41, 0), (45, 0), (61, 0), (64, 0), (70, 0), (77, 0), (86, 0), (89, 0), (95, 0), (101, 0), (104, 0), (107, 0), (122, 0), (126, 0)], [], []⟩ noLoops 300 8 #[.agg #[.int .i64 x0, .int .i64 x1, .int .i64 x2, .int .i64 x3], .agg #[.int .i64 x4, .int .i64 x5, .int .i64 x6, .int .i64 x7], .agg #[.int .i64 x8, .int .i64 x9, .int .i64 x10]] []) = tree8 x0 x1 x2 x3 x4 x5 x6 x7 x8 x9 x10 := by kernel_rfl
theorem tree8_res (x0 x1 x2 x3 x4 x5 x6 x7 x8 x9 x10 : Int) : (tree8 x0 x1 x2 x3 x4 x5 x6 x7 x8 x9 x10).res = if law07_PlanePoints_ok x0 x1 x2 x3 x4 x5 x6 x7 x8 x9 x10 = true then some (.bool (law07_PlanePoints_0 x0 x1 x2 x3 x4 x5 x6 x7 x8 x9 x10)) else none := by
  unfold tree8 law07_PlanePoints_ok law07_PlanePoints_0
  simp only [Tr.res]
  generalize (plane_Normal_ok x0 x1 x2 x3) = b0
  generalize (plane_Normal_4 x0 x1 x2 x3 != 0) = b1
  generalize (plane_Normal_0 x0 x1 x2 x3 == 0 && (plane_Normal_1 x0 x1 x2 x3 == 0 && (plane_Normal_2 x0 x1 x2 x3 == 0 && (plane_Normal_3 x0 x1 x2 x3 == 0 && Bool.true)))) = b2
  generalize (plane_Normal_ok (plane_Normal_0 x0 x1 x2 x3) (plane_Normal_1 x0 x1 x2 x3) (plane_Normal_2 x0 x1 x2 x3) (plane_Normal_3 x0 x1 x2 x3)) = b3
  generalize (plane_Normal_4 (plane_Normal_0 x0 x1 x2 x3) (plane_Normal_1 x0 x1 x2 x3) (plane_Normal_2 x0 x1 x2 x3) (plane_Normal_3 x0 x1 x2 x3) != 0) = b4
  generalize (!(plane_Normal_0 (plane_Normal_0 x0 x1 x2 x3) (plane_Normal_1 x0 x1 x2 x3) (plane_Normal_2 x0 x1 x2 x3) (plane_Normal_3 x0 x1 x2 x3) == plane_Normal_0 x0 x1 x2 x3 && (plane_Normal_1 (plane_Normal_0 x0 x1 x2 x3) (plane_Normal_1 x0 x1 x2 x3) (plane_Normal_2 x0 x1 x2 x3) (plane_Normal_3 x0 x1 x2 x3) == plane_Normal_1 x0 x1 x2 x3 && (plane_Normal_2 (plane_Normal_0 x0 x1 x2 x3) (plane_Normal_1 x0 x1 x2 x3) (plane_Normal_2 x0 x1 x2 x3) (plane_Normal_3 x0 x1 x2 x3) == plane_Normal_2 x0 x1 x2 x3 && (plane_Normal_3 (plane_Normal_0 x0 x1 x2 x3) (plane_Normal_1 x0 x1 x2 x3) (plane_Normal_2 x0 x1 x2 x3) (plane_Normal_3 x0 x1 x2 x3) == plane_Normal_3 x0 x1 x2 x3 && Bool.true))))) = b5
  generalize (plane_Value_1 x0 x1 x2 x3 x8 x9 x10 != plane_Value_1 (plane_Normal_0 x0 x1 x2 x3) (plane_Normal_1 x0 x1 x2 x3) (plane_Normal_2 x0 x1 x2 x3) (plane_Normal_3 x0 x1 x2 x3) x8 x9 x10) = b6
  generalize (plane_Value_1 x0 x1 x2 x3 x8 x9 x10 == 0) = b7
  generalize (!Decidable.decide (plane_Value_0 x0 x1 x2 x3 x8 x9 x10 ≤ 0) == Decidable.decide (plane_Value_0 (plane_Normal_0 x0 x1 x2 x3) (plane_Normal_1 x0 x1 x2 x3) (plane_Normal_2 x0 x1 x2 x3) (plane_Normal_3 x0 x1 x2 x3) x8 x9 x10 ≤ 0)) = b8
  generalize (plane_Within_ok x0 x1 x2 x3 x4 x5 x6 x7) = b9
  generalize (plane_Within_0 x0 x1 x2 x3 x4 x5 x6 x7) = b10
  generalize (plane_Within_1 x0 x1 x2 x3 x4 x5 x6 x7 != 0) = b11
  generalize (plane_Value_1 x4 x5 x6 x7 x8 x9 x10 != 0) = b12
  generalize (plane_Within_ok x4 x5 x6 x7 x0 x1 x2 x3) = b13
  generalize (plane_Within_0 x4 x5 x6 x7 x0 x1 x2 x3) = b14
  generalize (plane_Equal_ok x0 x1 x2 x3 x4 x5 x6 x7) = b15
  generalize (plane_Equal_0 x0 x1 x2 x3 x4 x5 x6 x7) = b16
  generalize (plane_Within_1 x4 x5 x6 x7 x0 x1 x2 x3 == 0) = b17
  generalize (plane_Equal_1 x0 x1 x2 x3 x4 x5 x6 x7 == 0) = b18
  generalize (Decidable.decide (plane_Value_0 x0 x1 x2 x3 x8 x9 x10 > 0)) = b19
  generalize (Decidable.decide (plane_Value_0 x4 x5 x6 x7 x8 x9 x10 ≤ 0)) = b20
  cases b0 with
  | true =>
   cases b1 with
   | true =>
    cases b2 with
    | true =>
     first | (simp only [if_true, Bool.false_eq_true, if_false]; done) | rfl
    | false =>
     first | (simp only [if_true, Bool.false_eq_true, if_false]; done) | rfl
   | false =>
    cases b3 with
    | true =>
     cases b4 with
     | true =>
      first | (simp only [if_true, Bool.false_eq_true, if_false]; done) | rfl
     | false =>
      cases b5 with
      | true =>
       first | (simp only [if_true, Bool.false_eq_true, if_false]; done) | rfl
      | false =>
       cases b6 with
       | true =>
        first | (simp only [if_true, Bool.false_eq_true, if_false]; done) | rfl
       | false =>
        cases b7 with
        | true =>
         cases b8 with
         | true =>
          first | (simp only [if_true, Bool.false_eq_true, if_false]; done) | rfl
         | false =>
          cases b9 with
          | true =>
           cases b10 with
           | true =>
            cases b11 with
            | true =>
             first | (simp only [if_true, Bool.false_eq_true, if_false]; done) | rfl
            | false =>
             cases b12 with
             | true =>
              first | (simp only [if_true, Bool.false_eq_true, if_false]; done) | rfl
             | false =>
              cases b13 with
              | true =>
               cases b14 with
               | true =>
                cases b15 with
                | true =>
                 cases b16 with
                 | true =>
                  cases b17 with
                  | true =>
                   cases b18 with
                   | true =>
                    cases b19 with
                    | true =>
                     first | (simp only [if_true, Bool.false_eq_true, if_false]; done) | rfl
                    | false =>
                     cases b20 with
                     | true =>
                      first | (simp only [if_true, Bool.false_eq_true, if_false]; done) | rfl
                     | false =>
                      first | (simp only [if_true, Bool.false_eq_true, if_false]; done) | rfl
                   | false =>
                    first | (simp only [if_true, Bool.false_eq_true, if_false]; done) | rfl
                  | false =>
                   first | (simp only [if_true, Bool.false_eq_true, if_false]; done) | rfl
                 | false =>
                  cases b17 with
                  | true =>
                   cases b18 with
                   | true =>
                    first | (simp only [if_true, Bool.false_eq_true, if_false]; done) | rfl
                   | false =>
                    first | (simp only [if_true, Bool.false_eq_true, if_false]; done) | rfl
                  | false =>
                   first | (simp only [if_true, Bool.false_eq_true, if_false]; done) | rfl
                | false =>
                 first | (simp only [if_true, Bool.false_eq_true, if_false]; done) | rfl
               | false =>
                cases b15 with
                | true =>
                 cases b16 with
                 | true =>
                  cases b17 with
                  | true =>
                   cases b18 with
                   | true =>
                    first | (simp only [if_true, Bool.false_eq_true, if_false]; done) | rfl
                   | false =>
                    first | (simp only [if_true, Bool.false_eq_true, if_false]; done) | rfl
                  | false =>
                   first | (simp only [if_true, Bool.false_eq_true, if_false]; done) | rfl
                 | false =>
                  cases b17 with
                  | true =>
                   cases b18 with
                   | true =>
                    cases b19 with
                    | true =>
                     first | (simp only [if_true, Bool.false_eq_true, if_false]; done) | rfl
                    | false =>
                     cases b20 with
                     | true =>
                      first | (simp only [if_true, Bool.false_eq_true, if_false]; done) | rfl
                     | false =>
                      first | (simp only [if_true, Bool.false_eq_true, if_false]; done) | rfl
                   | false =>
                    first | (simp only [if_true, Bool.false_eq_true, if_false]; done) | rfl
                  | false =>
                   first | (simp only [if_true, Bool.false_eq_true, if_false]; done) | rfl
                | false =>
                 first | (simp only [if_true, Bool.false_eq_true, if_false]; done) | rfl
              | false =>
               first | (simp only [if_true, Bool.false_eq_true, if_false]; done) | rfl
           | false =>
            cases b11 with
            | true =>
             first | (simp only [if_true, Bool.false_eq_true, if_false]; done) | rfl
            | false =>
             cases b12 with
             | true =>
              first | (simp only [if_true, Bool.false_eq_true, if_false]; done) | rfl
             | false =>
              cases b13 with
              | true =>
               cases b14 with
               | true =>
                cases b15 with
                | true =>
                 cases b16 with
                 | true =>
                  cases b17 with
                  | true =>
                   cases b18 with
                   | true =>
                    first | (simp only [if_true, Bool.false_eq_true, if_false]; done) | rfl
                   | false =>
                    first | (simp only [if_true, Bool.false_eq_true, if_false]; done) | rfl
                  | false =>
                   first | (simp only [if_true, Bool.false_eq_true, if_false]; done) | rfl
                 | false =>
                  cases b17 with
                  | true =>
                   cases b18 with
                   | true =>
                    first | (simp only [if_true, Bool.false_eq_true, if_false]; done) | rfl
                   | false =>
                    first | (simp only [if_true, Bool.false_eq_true, if_false]; done) | rfl
                  | false =>
                   first | (simp only [if_true, Bool.false_eq_true, if_false]; done) | rfl
                | false =>
                 first | (simp only [if_true, Bool.false_eq_true, if_false]; done) | rfl
               | false =>
                cases b15 with
                | true =>
                 cases b16 with
                 | true =>
                  cases b17 with
                  | true =>
                   cases b18 with
                   | true =>
                    first | (simp only [if_true, Bool.false_eq_true, if_false]; done) | rfl
                   | false =>
                    first | (simp only [if_true, Bool.false_eq_true, if_false]; done) | rfl
                  | false =>
                   first | (simp only [if_true, Bool.false_eq_true, if_false]; done) | rfl
                 | false =>
                  cases b17 with
                  | true =>
                   cases b18 with
                   | true =>
                    first | (simp only [if_true, Bool.false_eq_true, if_false]; done) | rfl
                   | false =>
                    first | (simp only [if_true, Bool.false_eq_true, if_false]; done) | rfl
                  | false =>
                   first | (simp only [if_true, Bool.false_eq_true, if_false]; done) | rfl
                | false =>
                 first | (simp only [if_true, Bool.false_eq_true, if_false]; done) | rfl
              | false =>
               first | (simp only [if_true, Bool.false_eq_true, if_false]; done) | rfl
          | false =>
           first | (simp only [if_true, Bool.false_eq_true, if_false]; done) | rfl
        | false =>
         cases b9 with
         | true =>
          cases b10 with
          | true =>
           cases b11 with
           | true =>
            first | (simp only [if_true, Bool.false_eq_true, if_false]; done) | rfl
           | false =>
            cases b12 with
            | true =>
             first | (simp only [if_true, Bool.false_eq_true, if_false]; done) | rfl
            | false =>
             cases b13 with
             | true =>
              cases b14 with
              | true =>
               cases b15 with
               | true =>
                cases b16 with
                | true =>
                 cases b17 with
                 | true =>
                  cases b18 with
                  | true =>
                   cases b19 with
                   | true =>
                    first | (simp only [if_true, Bool.false_eq_true, if_false]; done) | rfl
                   | false =>
                    cases b20 with
                    | true =>
                     first | (simp only [if_true, Bool.false_eq_true, if_false]; done) | rfl
                    | false =>
                     first | (simp only [if_true, Bool.false_eq_true, if_false]; done) | rfl
                  | false =>
                   first | (simp only [if_true, Bool.false_eq_true, if_false]; done) | rfl
                 | false =>
                  first | (simp only [if_true, Bool.false_eq_true, if_false]; done) | rfl
                | false =>
                 cases b17 with
                 | true =>
                  cases b18 with
                  | true =>
                   first | (simp only [if_true, Bool.false_eq_true, if_false]; done) | rfl
                  | false =>
                   first | (simp only [if_true, Bool.false_eq_true, if_false]; done) | rfl
                 | false =>
                  first | (simp only [if_true, Bool.false_eq_true, if_false]; done) | rfl
               | false =>
                first | (simp only [if_true, Bool.false_eq_true, if_false]; done) | rfl
              | false =>
               cases b15 with
               | true =>
                cases b16 with
                | true =>
                 cases b17 with
                 | true =>
                  cases b18 with
                  | true =>
                   first | (simp only [if_true, Bool.false_eq_true, if_false]; done) | rfl
                  | false =>
                   first | (simp only [if_true, Bool.false_eq_true, if_false]; done) | rfl
                 | false =>
                  first | (simp only [if_true, Bool.false_eq_true, if_false]; done) | rfl
                | false =>
                 cases b17 with
                 | true =>
                  cases b18 with
                  | true =>
                   cases b19 with
                   | true =>
                    first | (simp only [if_true, Bool.false_eq_true, if_false]; done) | rfl
                   | false =>
                    cases b20 with
                    | true =>
                     first | (simp only [if_true, Bool.false_eq_true, if_false]; done) | rfl
                    | false =>
                     first | (simp only [if_true, Bool.false_eq_true, if_false]; done) | rfl
                  | false =>
                   first | (simp only [if_true, Bool.false_eq_true, if_false]; done) | rfl
                 | false =>
                  first | (simp only [if_true, Bool.false_eq_true, if_false]; done) | rfl
               | false =>
                first | (simp only [if_true, Bool.false_eq_true, if_false]; done) | rfl
             | false =>
              first | (simp only [if_true, Bool.false_eq_true, if_false]; done) | rfl
          | false =>
           cases b11 with
           | true =>
            first | (simp only [if_true, Bool.false_eq_true, if_false]; done) | rfl
           | false =>
            cases b12 with
            | true =>
             first | (simp only [if_true, Bool.false_eq_true, if_false]; done) | rfl
            | false =>
             cases b13 with
             | true =>
              cases b14 with
              | true =>
               cases b15 with
               | true =>
                cases b16 with
                | true =>
                 cases b17 with
                 | true =>
                  cases b18 with
                  | true =>
                   first | (simp only [if_true, Bool.false_eq_true, if_false]; done) | rfl
                  | false =>
                   first | (simp only [if_true, Bool.false_eq_true, if_false]; done) | rfl
                 | false =>
                  first | (simp only [if_true, Bool.false_eq_true, if_false]; done) | rfl
                | false =>
                 cases b17 with
                 | true =>
                  cases b18 with
                  | true =>
                   first | (simp only [if_true, Bool.false_eq_true, if_false]; done) | rfl
                  | false =>
                   first | (simp only [if_true, Bool.false_eq_true, if_false]; done) | rfl
                 | false =>
                  first | (simp only [if_true, Bool.false_eq_true, if_false]; done) | rfl
               | false =>
                first | (simp only [if_true, Bool.false_eq_true, if_false]; done) | rfl
              | false =>
               cases b15 with
               | true =>
                cases b16 with
                | true =>
                 cases b17 with
                 | true =>
                  cases b18 with
                  | true =>
                   first | (simp only [if_true, Bool.false_eq_true, if_false]; done) | rfl
                  | false =>
                   first | (simp only [if_true, Bool.false_eq_true, if_false]; done) | rfl
                 | false =>
                  first | (simp only [if_true, Bool.false_eq_true, if_false]; done) | rfl
                | false =>
                 cases b17 with
                 | true =>
                  cases b18 with
                  | true =>
                   first | (simp only [if_true, Bool.false_eq_true, if_false]; done) | rfl
                  | false =>
                   first | (simp only [if_true, Bool.false_eq_true, if_false]; done) | rfl
                 | false =>
                  first | (simp only [if_true, Bool.false_eq_true, if_false]; done) | rfl
               | false =>
                first | (simp only [if_true, Bool.false_eq_true, if_false]; done) | rfl
             | false =>
              first | (simp only [if_true, Bool.false_eq_true, if_false]; done) | rfl
         | false =>
          first | (simp only [if_true, Bool.false_eq_true, if_false]; done) | rfl
    | false =>
     first | (simp only [if_true, Bool.false_eq_true, if_false]; done) | rfl
  | false =>
   first | (simp only [if_true, Bool.false_eq_true, if_false]; done) | rfl
theorem tab20_ok : TabOk Try.prog tab20 := tab_cond mixed tab19_ok (by decide) fun args b v h hb => by
  unfold ans8 at h
  split at h
  · rename_i c0 c1 c2 h0
    split at h
    · rename_i x0 x1 x2 x3 x4 x5 x6 x7 x8 x9 x10 k1 k2 k3
      injection h with h; injection h with h1 h2; subst h1 h2
      obtain rfl : c0 = #[.int .i64 x0, .int .i64 x1, .int .i64 x2, .int .i64 x3] := by rw [← Array.toArray_toList (xs := c0), k1]
      obtain rfl : c1 = #[.int .i64 x4, .int .i64 x5, .int .i64 x6, .int .i64 x7] := by rw [← Array.toArray_toList (xs := c1), k2]
      obtain rfl : c2 = #[.int .i64 x8, .int .i64 x9, .int .i64 x10] := by rw [← Array.toArray_toList (xs := c2), k3]
      obtain rfl : args = #[.agg #[.int .i64 x0, .int .i64 x1, .int .i64 x2, .int .i64 x3], .agg #[.int .i64 x4, .int .i64 x5, .int .i64 x6, .int .i64 x7], .agg #[.int .i64 x8, .int .i64 x9, .int .i64 x10]] := by rw [← Array.toArray_toList (xs := args), h0]
      exact ⟨rfl, rfl, ⟨[(31, 0), (34, 0), (41, 0), (45, 0), (61, 0), (64, 0), (70, 0), (77, 0), (86, 0), (89, 0), (95, 0), (101, 0), (104, 0), (107, 0), (122, 0), (126, 0)], [], []⟩, 300, by rw [tree8_eq, tree8_res, if_pos hb]⟩
    · cases h
  · cases h
end Go.Proofs.Ytkllldhkikmbbaa.Vx
