/- The answers of the functions of the package and of its reference, read off their texts. -/
import Derived.Test.YtgpcgcflmimnbaaXA
namespace Go.Proofs.Ytgpcgcflmimnbaa.Vx
open Go Go.RowKit Go.Proofs
set_option maxRecDepth 100000
set_option linter.unusedVariables false
set_option linter.unusedSimpArgs false
def tab0 : Tab := []
theorem tab0_ok : TabOk Try.prog tab0 := tab_nil

/- gangsaw/gangsawlaw06.awake -/
def ans11 : Ans := fun args => match args.toList with
  | [] => some (.bool true)
  | _ => none
def tab1 : Tab := (11, .ans ans11) :: tab0
theorem tab1_ok : TabOk Try.prog tab1 := tab_put tab0_ok (by decide) fun args v h => by
  unfold ans11 at h
  split at h
  · rename_i h0
    injection h with h; subst h
    obtain rfl : args = #[] := by rw [← Array.toArray_toList (xs := args), h0]
    exact ⟨rfl, rfl, fun w => awake_any w⟩
  · cases h

/- gangsaw/gangsawref06.At -/
def ref06_At_0 (x0 x1 x2 x3 : Int) : Int :=
  if x3 == 0 then (x0) else if x3 == 1 then (x1) else (x2)
def ans48 : Ans := fun args => match args.toList with
  | [.agg c0, .int .i64 x3] => match c0.toList with
    | [.int .i64 x0, .int .i64 x1, .int .i64 x2] => some (.int .i64 (ref06_At_0 x0 x1 x2 x3))
    | _ => none
  | _ => none
def tab2 : Tab := (48, .ans ans48) :: tab1
def tree48 (x0 x1 x2 x3 : Int) : Tr Value :=
  .node 7 (x3 == 0)
  (.leaf (some (.int .i64 (x0))))
  (.node 11 (x3 == 1)
   (.leaf (some (.int .i64 (x1))))
   (.leaf (some (.int .i64 (x2)))))
theorem tree48_eq (x0 x1 x2 x3 : Int) : vals (evFnT Try.prog (tb Try.prog tab1) (tbT Try.prog tab1) [(7, 0), (11, 0)] 300 48 #[.agg #[.int .i64 x0, .int .i64 x1, .int .i64 x2], .int .i64 x3] []) = tree48 x0 x1 x2 x3 := by kernel_rfl
theorem tree48_res (x0 x1 x2 x3 : Int) : (tree48 x0 x1 x2 x3).res = some (.int .i64 (ref06_At_0 x0 x1 x2 x3)) := by
  unfold tree48 ref06_At_0
  simp only [Tr.res]
  generalize (x3 == 0) = b0
  generalize (x3 == 1) = b1
  cases b0 with
  | true =>
   first | (simp only [if_true, Bool.false_eq_true, if_false]; done) | rfl
  | false =>
   cases b1 with
   | true =>
    first | (simp only [if_true, Bool.false_eq_true, if_false]; done) | rfl
   | false =>
    first | (simp only [if_true, Bool.false_eq_true, if_false]; done) | rfl
theorem tab2_ok : TabOk Try.prog tab2 := tab_cons mixed tab1_ok (by decide) fun args v h => by
  unfold ans48 at h
  split at h
  · rename_i c0 x3 h0
    split at h
    · rename_i x0 x1 x2 h1
      injection h with h; subst h
      obtain rfl : c0 = #[.int .i64 x0, .int .i64 x1, .int .i64 x2] := by rw [← Array.toArray_toList (xs := c0), h1]
      obtain rfl : args = #[.agg #[.int .i64 x0, .int .i64 x1, .int .i64 x2], .int .i64 x3] := by rw [← Array.toArray_toList (xs := args), h0]
      exact ⟨rfl, rfl, [(7, 0), (11, 0)], 300, by rw [tree48_eq]; exact tree48_res _ _ _ _⟩
    · cases h
  · cases h

/- gangsaw/gangsawref06.Check -/
def ref06_Check_0 (x0 x1 x2 x3 x4 x5 : Int) : Int :=
  if Decidable.decide (ref06_At_0 x0 x1 x2 0 < -1000000) then (6) else if Decidable.decide (ref06_At_0 x0 x1 x2 0 > 1000000) then (6) else if Decidable.decide (ref06_At_0 x3 x4 x5 0 < -1000000) then (6) else if Decidable.decide (ref06_At_0 x3 x4 x5 0 > 1000000) then (6) else if Decidable.decide (ref06_At_0 x0 x1 x2 (IntKind.i64.wrap (0 + 1)) < -1000000) then (6) else if Decidable.decide (ref06_At_0 x0 x1 x2 (IntKind.i64.wrap (0 + 1)) > 1000000) then (6) else if Decidable.decide (ref06_At_0 x3 x4 x5 (IntKind.i64.wrap (0 + 1)) < -1000000) then (6) else if Decidable.decide (ref06_At_0 x3 x4 x5 (IntKind.i64.wrap (0 + 1)) > 1000000) then (6) else if Decidable.decide (ref06_At_0 x0 x1 x2 (IntKind.i64.wrap (IntKind.i64.wrap (0 + 1) + 1)) < -1000000) then (6) else if Decidable.decide (ref06_At_0 x0 x1 x2 (IntKind.i64.wrap (IntKind.i64.wrap (0 + 1) + 1)) > 1000000) then (6) else if Decidable.decide (ref06_At_0 x3 x4 x5 (IntKind.i64.wrap (IntKind.i64.wrap (0 + 1) + 1)) < -1000000) then (6) else if Decidable.decide (ref06_At_0 x3 x4 x5 (IntKind.i64.wrap (IntKind.i64.wrap (0 + 1) + 1)) > 1000000) then (6) else if Decidable.decide (ref06_At_0 x0 x1 x2 0 ≥ ref06_At_0 x3 x4 x5 0) then (1) else if Decidable.decide (ref06_At_0 x0 x1 x2 (IntKind.i64.wrap (0 + 1)) ≥ ref06_At_0 x3 x4 x5 (IntKind.i64.wrap (0 + 1))) then (1) else if Decidable.decide (ref06_At_0 x0 x1 x2 (IntKind.i64.wrap (IntKind.i64.wrap (0 + 1) + 1)) ≥ ref06_At_0 x3 x4 x5 (IntKind.i64.wrap (IntKind.i64.wrap (0 + 1) + 1))) then (1) else (0)
def ans12 : Ans := fun args => match args.toList with
  | [.agg c0] => match c0.toList with
    | [.int .i64 x0, .int .i64 x1, .int .i64 x2, .int .i64 x3, .int .i64 x4, .int .i64 x5] => some (.int .i64 (ref06_Check_0 x0 x1 x2 x3 x4 x5))
    | _ => none
  | _ => none
def tab3 : Tab := (12, .ans ans12) :: tab2
def tree12 (x0 x1 x2 x3 x4 x5 : Int) : Tr Value :=
  .node 20 (Decidable.decide (ref06_At_0 x0 x1 x2 0 < -1000000))
  (.leaf (some (.int .i64 (6))))
  (.node 23 (Decidable.decide (ref06_At_0 x0 x1 x2 0 > 1000000))
   (.leaf (some (.int .i64 (6))))
   (.node 27 (Decidable.decide (ref06_At_0 x3 x4 x5 0 < -1000000))
    (.leaf (some (.int .i64 (6))))
    (.node 31 (Decidable.decide (ref06_At_0 x3 x4 x5 0 > 1000000))
     (.leaf (some (.int .i64 (6))))
     (.node 20 (Decidable.decide (ref06_At_0 x0 x1 x2 (IntKind.i64.wrap (0 + 1)) < -1000000))
      (.leaf (some (.int .i64 (6))))
      (.node 23 (Decidable.decide (ref06_At_0 x0 x1 x2 (IntKind.i64.wrap (0 + 1)) > 1000000))
       (.leaf (some (.int .i64 (6))))
       (.node 27 (Decidable.decide (ref06_At_0 x3 x4 x5 (IntKind.i64.wrap (0 + 1)) < -1000000))
        (.leaf (some (.int .i64 (6))))
        (.node 31 (Decidable.decide (ref06_At_0 x3 x4 x5 (IntKind.i64.wrap (0 + 1)) > 1000000))
         (.leaf (some (.int .i64 (6))))
         (.node 20 (Decidable.decide (ref06_At_0 x0 x1 x2 (IntKind.i64.wrap (IntKind.i64.wrap (0 + 1) + 1)) < -1000000))
          (.leaf (some (.int .i64 (6))))
          (.node 23 (Decidable.decide (ref06_At_0 x0 x1 x2 (IntKind.i64.wrap (IntKind.i64.wrap (0 + 1) + 1)) > 1000000))
           (.leaf (some (.int .i64 (6))))
           (.node 27 (Decidable.decide (ref06_At_0 x3 x4 x5 (IntKind.i64.wrap (IntKind.i64.wrap (0 + 1) + 1)) < -1000000))
            (.leaf (some (.int .i64 (6))))
            (.node 31 (Decidable.decide (ref06_At_0 x3 x4 x5 (IntKind.i64.wrap (IntKind.i64.wrap (0 + 1) + 1)) > 1000000))
             (.leaf (some (.int .i64 (6))))
             (.node 45 (Decidable.decide (ref06_At_0 x0 x1 x2 0 ≥ ref06_At_0 x3 x4 x5 0))
              (.leaf (some (.int .i64 (1))))
              (.node 45 (Decidable.decide (ref06_At_0 x0 x1 x2 (IntKind.i64.wrap (0 + 1)) ≥ ref06_At_0 x3 x4 x5 (IntKind.i64.wrap (0 + 1))))
               (.leaf (some (.int .i64 (1))))
               (.node 45 (Decidable.decide (ref06_At_0 x0 x1 x2 (IntKind.i64.wrap (IntKind.i64.wrap (0 + 1) + 1)) ≥ ref06_At_0 x3 x4 x5 (IntKind.i64.wrap (IntKind.i64.wrap (0 + 1) + 1))))
                (.leaf (some (.int .i64 (1))))
                (.leaf (some (.int .i64 (0))))))))))))))))))
theorem tree12_eq (x0 x1 x2 x3 x4 x5 : Int) : vals (evFnT Try.prog (tb Try.prog tab2) (tbT Try.prog tab2) [(20, 0), (23, 0), (27, 0), (31, 0), (45, 0)] 300 12 #[.agg #[.int .i64 x0, .int .i64 x1, .int .i64 x2, .int .i64 x3, .int .i64 x4, .int .i64 x5]] []) = tree12 x0 x1 x2 x3 x4 x5 := by kernel_rfl
theorem tree12_res (x0 x1 x2 x3 x4 x5 : Int) : (tree12 x0 x1 x2 x3 x4 x5).res = some (.int .i64 (ref06_Check_0 x0 x1 x2 x3 x4 x5)) := by
  unfold tree12 ref06_Check_0
  simp only [Tr.res]
  generalize (Decidable.decide (ref06_At_0 x0 x1 x2 0 < -1000000)) = b0
  generalize (Decidable.decide (ref06_At_0 x0 x1 x2 0 > 1000000)) = b1
  generalize (Decidable.decide (ref06_At_0 x3 x4 x5 0 < -1000000)) = b2
  generalize (Decidable.decide (ref06_At_0 x3 x4 x5 0 > 1000000)) = b3
  generalize (Decidable.decide (ref06_At_0 x0 x1 x2 (IntKind.i64.wrap (0 + 1)) < -1000000)) = b4
  generalize (Decidable.decide (ref06_At_0 x0 x1 x2 (IntKind.i64.wrap (0 + 1)) > 1000000)) = b5
  generalize (Decidable.decide (ref06_At_0 x3 x4 x5 (IntKind.i64.wrap (0 + 1)) < -1000000)) = b6
  generalize (Decidable.decide (ref06_At_0 x3 x4 x5 (IntKind.i64.wrap (0 + 1)) > 1000000)) = b7
  generalize (Decidable.decide (ref06_At_0 x0 x1 x2 (IntKind.i64.wrap (IntKind.i64.wrap (0 + 1) + 1)) < -1000000)) = b8
  generalize (Decidable.decide (ref06_At_0 x0 x1 x2 (IntKind.i64.wrap (IntKind.i64.wrap (0 + 1) + 1)) > 1000000)) = b9
  generalize (Decidable.decide (ref06_At_0 x3 x4 x5 (IntKind.i64.wrap (IntKind.i64.wrap (0 + 1) + 1)) < -1000000)) = b10
  generalize (Decidable.decide (ref06_At_0 x3 x4 x5 (IntKind.i64.wrap (IntKind.i64.wrap (0 + 1) + 1)) > 1000000)) = b11
  generalize (Decidable.decide (ref06_At_0 x0 x1 x2 0 ≥ ref06_At_0 x3 x4 x5 0)) = b12
  generalize (Decidable.decide (ref06_At_0 x0 x1 x2 (IntKind.i64.wrap (0 + 1)) ≥ ref06_At_0 x3 x4 x5 (IntKind.i64.wrap (0 + 1)))) = b13
  generalize (Decidable.decide (ref06_At_0 x0 x1 x2 (IntKind.i64.wrap (IntKind.i64.wrap (0 + 1) + 1)) ≥ ref06_At_0 x3 x4 x5 (IntKind.i64.wrap (IntKind.i64.wrap (0 + 1) + 1)))) = b14
  cases b0 with
  | true =>
   first | (simp only [if_true, Bool.false_eq_true, if_false]; done) | rfl
  | false =>
   cases b1 with
   | true =>
    first | (simp only [if_true, Bool.false_eq_true, if_false]; done) | rfl
   | false =>
    cases b2 with
    | true =>
     first | (simp only [if_true, Bool.false_eq_true, if_false]; done) | rfl
    | false =>
     cases b3 with
     | true =>
      first | (simp only [if_true, Bool.false_eq_true, if_false]; done) | rfl
     | false =>
      cases b4 with
      | true =>
       first | (simp only [if_true, Bool.false_eq_true, if_false]; done) | rfl
      | false =>
       cases b5 with
       | true =>
        first | (simp only [if_true, Bool.false_eq_true, if_false]; done) | rfl
       | false =>
        cases b6 with
        | true =>
         first | (simp only [if_true, Bool.false_eq_true, if_false]; done) | rfl
        | false =>
         cases b7 with
         | true =>
          first | (simp only [if_true, Bool.false_eq_true, if_false]; done) | rfl
         | false =>
          cases b8 with
          | true =>
           first | (simp only [if_true, Bool.false_eq_true, if_false]; done) | rfl
          | false =>
           cases b9 with
           | true =>
            first | (simp only [if_true, Bool.false_eq_true, if_false]; done) | rfl
           | false =>
            cases b10 with
            | true =>
             first | (simp only [if_true, Bool.false_eq_true, if_false]; done) | rfl
            | false =>
             cases b11 with
             | true =>
              first | (simp only [if_true, Bool.false_eq_true, if_false]; done) | rfl
             | false =>
              cases b12 with
              | true =>
               first | (simp only [if_true, Bool.false_eq_true, if_false]; done) | rfl
              | false =>
               cases b13 with
               | true =>
                first | (simp only [if_true, Bool.false_eq_true, if_false]; done) | rfl
               | false =>
                cases b14 with
                | true =>
                 first | (simp only [if_true, Bool.false_eq_true, if_false]; done) | rfl
                | false =>
                 first | (simp only [if_true, Bool.false_eq_true, if_false]; done) | rfl
theorem tab3_ok : TabOk Try.prog tab3 := tab_cons mixed tab2_ok (by decide) fun args v h => by
  unfold ans12 at h
  split at h
  · rename_i c0 h0
    split at h
    · rename_i x0 x1 x2 x3 x4 x5 h1
      injection h with h; subst h
      obtain rfl : c0 = #[.int .i64 x0, .int .i64 x1, .int .i64 x2, .int .i64 x3, .int .i64 x4, .int .i64 x5] := by rw [← Array.toArray_toList (xs := c0), h1]
      obtain rfl : args = #[.agg #[.int .i64 x0, .int .i64 x1, .int .i64 x2, .int .i64 x3, .int .i64 x4, .int .i64 x5]] := by rw [← Array.toArray_toList (xs := args), h0]
      exact ⟨rfl, rfl, [(20, 0), (23, 0), (27, 0), (31, 0), (45, 0)], 300, by rw [tree12_eq]; exact tree12_res _ _ _ _ _ _⟩
    · cases h
  · cases h

/- gangsaw/box.coordinates -/
def ans51 : Ans := fun args => match args.toList with
  | [.agg c0] => match c0.toList with
    | [.int .i64 x0, .int .i64 x1, .int .i64 x2] => some (.agg #[.int .i64 (x0), .int .i64 (x1), .int .i64 (x2)])
    | _ => none
  | _ => none
def tab4 : Tab := (51, .ans ans51) :: tab3
def tree51 (x0 x1 x2 : Int) : Tr Value :=
  .leaf (some (.agg #[.int .i64 (x0), .int .i64 (x1), .int .i64 (x2)]))
theorem tree51_eq (x0 x1 x2 : Int) : vals (evFnT Try.prog (tb Try.prog tab3) (tbT Try.prog tab3) [] 300 51 #[.agg #[.int .i64 x0, .int .i64 x1, .int .i64 x2]] []) = tree51 x0 x1 x2 := by kernel_rfl
theorem tree51_res (x0 x1 x2 : Int) : (tree51 x0 x1 x2).res = some (.agg #[.int .i64 (x0), .int .i64 (x1), .int .i64 (x2)]) := by
  rfl
theorem tab4_ok : TabOk Try.prog tab4 := tab_cons mixed tab3_ok (by decide) fun args v h => by
  unfold ans51 at h
  split at h
  · rename_i c0 h0
    split at h
    · rename_i x0 x1 x2 h1
      injection h with h; subst h
      obtain rfl : c0 = #[.int .i64 x0, .int .i64 x1, .int .i64 x2] := by rw [← Array.toArray_toList (xs := c0), h1]
      obtain rfl : args = #[.agg #[.int .i64 x0, .int .i64 x1, .int .i64 x2]] := by rw [← Array.toArray_toList (xs := args), h0]
      exact ⟨rfl, rfl, [], 300, by rw [tree51_eq]; exact tree51_res _ _ _⟩
    · cases h
  · cases h

/- gangsaw/box.empty -/
def box_empty_0 (x0 x1 x2 x3 x4 x5 : Int) : Bool :=
  if Decidable.decide (x0 ≥ x3) then (Bool.true) else if Decidable.decide (x1 ≥ x4) then (Bool.true) else if Decidable.decide (x2 ≥ x5) then (Bool.true) else (Bool.false)
def ans52 : Ans := fun args => match args.toList with
  | [.agg c0] => match c0.toList with
    | [.int .i64 x0, .int .i64 x1, .int .i64 x2, .int .i64 x3, .int .i64 x4, .int .i64 x5] => some (.bool (box_empty_0 x0 x1 x2 x3 x4 x5))
    | _ => none
  | _ => none
def tab5 : Tab := (52, .ans ans52) :: tab4
def tree52 (x0 x1 x2 x3 x4 x5 : Int) : Tr Value :=
  .node 9 (Decidable.decide (x0 ≥ x3))
  (.leaf (some (.bool (Bool.true))))
  (.node 17 (Decidable.decide (x1 ≥ x4))
   (.leaf (some (.bool (Bool.true))))
   (.node 26 (Decidable.decide (x2 ≥ x5))
    (.leaf (some (.bool (Bool.true))))
    (.leaf (some (.bool (Bool.false))))))
theorem tree52_eq (x0 x1 x2 x3 x4 x5 : Int) : vals (evFnT Try.prog (tb Try.prog tab4) (tbT Try.prog tab4) [(9, 0), (17, 0), (26, 0)] 300 52 #[.agg #[.int .i64 x0, .int .i64 x1, .int .i64 x2, .int .i64 x3, .int .i64 x4, .int .i64 x5]] []) = tree52 x0 x1 x2 x3 x4 x5 := by kernel_rfl
theorem tree52_res (x0 x1 x2 x3 x4 x5 : Int) : (tree52 x0 x1 x2 x3 x4 x5).res = some (.bool (box_empty_0 x0 x1 x2 x3 x4 x5)) := by
  unfold tree52 box_empty_0
  simp only [Tr.res]
  generalize (Decidable.decide (x0 ≥ x3)) = b0
  generalize (Decidable.decide (x1 ≥ x4)) = b1
  generalize (Decidable.decide (x2 ≥ x5)) = b2
  cases b0 with
  | true =>
   first | (simp only [if_true, Bool.false_eq_true, if_false]; done) | rfl
  | false =>
   cases b1 with
   | true =>
    first | (simp only [if_true, Bool.false_eq_true, if_false]; done) | rfl
   | false =>
    cases b2 with
    | true =>
     first | (simp only [if_true, Bool.false_eq_true, if_false]; done) | rfl
    | false =>
     first | (simp only [if_true, Bool.false_eq_true, if_false]; done) | rfl
theorem tab5_ok : TabOk Try.prog tab5 := tab_cons mixed tab4_ok (by decide) fun args v h => by
  unfold ans52 at h
  split at h
  · rename_i c0 h0
    split at h
    · rename_i x0 x1 x2 x3 x4 x5 h1
      injection h with h; subst h
      obtain rfl : c0 = #[.int .i64 x0, .int .i64 x1, .int .i64 x2, .int .i64 x3, .int .i64 x4, .int .i64 x5] := by rw [← Array.toArray_toList (xs := c0), h1]
      obtain rfl : args = #[.agg #[.int .i64 x0, .int .i64 x1, .int .i64 x2, .int .i64 x3, .int .i64 x4, .int .i64 x5]] := by rw [← Array.toArray_toList (xs := args), h0]
      exact ⟨rfl, rfl, [(9, 0), (17, 0), (26, 0)], 300, by rw [tree52_eq]; exact tree52_res _ _ _ _ _ _⟩
    · cases h
  · cases h

/- gangsaw/box.Check -/
def box_Check_0 (x0 x1 x2 x3 x4 x5 : Int) : Int :=
  if Decidable.decide (imin x0 x3 < -1000000) then (6) else if Decidable.decide (imax x0 x3 > 1000000) then (6) else if Decidable.decide (imin x1 x4 < -1000000) then (6) else if Decidable.decide (imax x1 x4 > 1000000) then (6) else if Decidable.decide (imin x2 x5 < -1000000) then (6) else if Decidable.decide (imax x2 x5 > 1000000) then (6) else if box_empty_0 x0 x1 x2 x3 x4 x5 then (1) else (0)
def ans15 : Ans := fun args => match args.toList with
  | [.agg c0] => match c0.toList with
    | [.int .i64 x0, .int .i64 x1, .int .i64 x2, .int .i64 x3, .int .i64 x4, .int .i64 x5] => some (.int .i64 (box_Check_0 x0 x1 x2 x3 x4 x5))
    | _ => none
  | _ => none
def tab6 : Tab := (15, .ans ans15) :: tab5
def tree15 (x0 x1 x2 x3 x4 x5 : Int) : Tr Value :=
  .node 22 (Decidable.decide (imin x0 x3 < -1000000))
  (.leaf (some (.int .i64 (6))))
  (.node 31 (Decidable.decide (imax x0 x3 > 1000000))
   (.leaf (some (.int .i64 (6))))
   (.node 22 (Decidable.decide (imin x1 x4 < -1000000))
    (.leaf (some (.int .i64 (6))))
    (.node 31 (Decidable.decide (imax x1 x4 > 1000000))
     (.leaf (some (.int .i64 (6))))
     (.node 22 (Decidable.decide (imin x2 x5 < -1000000))
      (.leaf (some (.int .i64 (6))))
      (.node 31 (Decidable.decide (imax x2 x5 > 1000000))
       (.leaf (some (.int .i64 (6))))
       (.node 35 (box_empty_0 x0 x1 x2 x3 x4 x5)
        (.leaf (some (.int .i64 (1))))
        (.leaf (some (.int .i64 (0))))))))))
theorem tree15_eq (x0 x1 x2 x3 x4 x5 : Int) : vals (evFnT Try.prog (tb Try.prog tab5) (tbT Try.prog tab5) [(22, 0), (31, 0), (35, 0)] 300 15 #[.agg #[.int .i64 x0, .int .i64 x1, .int .i64 x2, .int .i64 x3, .int .i64 x4, .int .i64 x5]] []) = tree15 x0 x1 x2 x3 x4 x5 := by kernel_rfl
theorem tree15_res (x0 x1 x2 x3 x4 x5 : Int) : (tree15 x0 x1 x2 x3 x4 x5).res = some (.int .i64 (box_Check_0 x0 x1 x2 x3 x4 x5)) := by
  unfold tree15 box_Check_0
  simp only [Tr.res]
  generalize (Decidable.decide (imin x0 x3 < -1000000)) = b0
  generalize (Decidable.decide (imax x0 x3 > 1000000)) = b1
  generalize (Decidable.decide (imin x1 x4 < -1000000)) = b2
  generalize (Decidable.decide (imax x1 x4 > 1000000)) = b3
  generalize (Decidable.decide (imin x2 x5 < -1000000)) = b4
  generalize (Decidable.decide (imax x2 x5 > 1000000)) = b5
  generalize (box_empty_0 x0 x1 x2 x3 x4 x5) = b6
  cases b0 with
  | true =>
   first | (simp only [if_true, Bool.false_eq_true, if_false]; done) | rfl
  | false =>
   cases b1 with
   | true =>
    first | (simp only [if_true, Bool.false_eq_true, if_false]; done) | rfl
   | false =>
    cases b2 with
    | true =>
     first | (simp only [if_true, Bool.false_eq_true, if_false]; done) | rfl
    | false =>
     cases b3 with
     | true =>
      first | (simp only [if_true, Bool.false_eq_true, if_false]; done) | rfl
     | false =>
      cases b4 with
      | true =>
       first | (simp only [if_true, Bool.false_eq_true, if_false]; done) | rfl
      | false =>
       cases b5 with
       | true =>
        first | (simp only [if_true, Bool.false_eq_true, if_false]; done) | rfl
       | false =>
        cases b6 with
        | true =>
         first | (simp only [if_true, Bool.false_eq_true, if_false]; done) | rfl
        | false =>
         first | (simp only [if_true, Bool.false_eq_true, if_false]; done) | rfl
theorem tab6_ok : TabOk Try.prog tab6 := tab_cons mixed tab5_ok (by decide) fun args v h => by
  unfold ans15 at h
  split at h
  · rename_i c0 h0
    split at h
    · rename_i x0 x1 x2 x3 x4 x5 h1
      injection h with h; subst h
      obtain rfl : c0 = #[.int .i64 x0, .int .i64 x1, .int .i64 x2, .int .i64 x3, .int .i64 x4, .int .i64 x5] := by rw [← Array.toArray_toList (xs := c0), h1]
      obtain rfl : args = #[.agg #[.int .i64 x0, .int .i64 x1, .int .i64 x2, .int .i64 x3, .int .i64 x4, .int .i64 x5]] := by rw [← Array.toArray_toList (xs := args), h0]
      exact ⟨rfl, rfl, [(22, 0), (31, 0), (35, 0)], 300, by rw [tree15_eq]; exact tree15_res _ _ _ _ _ _⟩
    · cases h
  · cases h

/- gangsaw/box.Size -/
def ans16 : Ans := fun args => match args.toList with
  | [.agg c0] => match c0.toList with
    | [.int .i64 x0, .int .i64 x1, .int .i64 x2, .int .i64 x3, .int .i64 x4, .int .i64 x5] => some (.agg #[.int .i64 (IntKind.i64.wrap (x3 - x0)), .int .i64 (IntKind.i64.wrap (x4 - x1)), .int .i64 (IntKind.i64.wrap (x5 - x2))])
    | _ => none
  | _ => none
def tab7 : Tab := (16, .ans ans16) :: tab6
def tree16 (x0 x1 x2 x3 x4 x5 : Int) : Tr Value :=
  .leaf (some (.agg #[.int .i64 (IntKind.i64.wrap (x3 - x0)), .int .i64 (IntKind.i64.wrap (x4 - x1)), .int .i64 (IntKind.i64.wrap (x5 - x2))]))
theorem tree16_eq (x0 x1 x2 x3 x4 x5 : Int) : vals (evFnT Try.prog (tb Try.prog tab6) (tbT Try.prog tab6) [] 300 16 #[.agg #[.int .i64 x0, .int .i64 x1, .int .i64 x2, .int .i64 x3, .int .i64 x4, .int .i64 x5]] []) = tree16 x0 x1 x2 x3 x4 x5 := by kernel_rfl
theorem tree16_res (x0 x1 x2 x3 x4 x5 : Int) : (tree16 x0 x1 x2 x3 x4 x5).res = some (.agg #[.int .i64 (IntKind.i64.wrap (x3 - x0)), .int .i64 (IntKind.i64.wrap (x4 - x1)), .int .i64 (IntKind.i64.wrap (x5 - x2))]) := by
  rfl
theorem tab7_ok : TabOk Try.prog tab7 := tab_cons mixed tab6_ok (by decide) fun args v h => by
  unfold ans16 at h
  split at h
  · rename_i c0 h0
    split at h
    · rename_i x0 x1 x2 x3 x4 x5 h1
      injection h with h; subst h
      obtain rfl : c0 = #[.int .i64 x0, .int .i64 x1, .int .i64 x2, .int .i64 x3, .int .i64 x4, .int .i64 x5] := by rw [← Array.toArray_toList (xs := c0), h1]
      obtain rfl : args = #[.agg #[.int .i64 x0, .int .i64 x1, .int .i64 x2, .int .i64 x3, .int .i64 x4, .int .i64 x5]] := by rw [← Array.toArray_toList (xs := args), h0]
      exact ⟨rfl, rfl, [], 300, by rw [tree16_eq]; exact tree16_res _ _ _ _ _ _⟩
    · cases h
  · cases h

/- gangsaw/box.volume -/
def box_volume_0 (x0 x1 x2 x3 x4 x5 : Int) : Int :=
  (IntKind.i64.wrap (IntKind.i64.wrap (IntKind.i64.wrap (x3 - x0) * IntKind.i64.wrap (x4 - x1)) * IntKind.i64.wrap (x5 - x2)))
def ans49 : Ans := fun args => match args.toList with
  | [.agg c0] => match c0.toList with
    | [.int .i64 x0, .int .i64 x1, .int .i64 x2, .int .i64 x3, .int .i64 x4, .int .i64 x5] => some (.int .i64 (box_volume_0 x0 x1 x2 x3 x4 x5))
    | _ => none
  | _ => none
def tab8 : Tab := (49, .ans ans49) :: tab7
def tree49 (x0 x1 x2 x3 x4 x5 : Int) : Tr Value :=
  .leaf (some (.int .i64 (IntKind.i64.wrap (IntKind.i64.wrap (IntKind.i64.wrap (x3 - x0) * IntKind.i64.wrap (x4 - x1)) * IntKind.i64.wrap (x5 - x2)))))
theorem tree49_eq (x0 x1 x2 x3 x4 x5 : Int) : vals (evFnT Try.prog (tb Try.prog tab7) (tbT Try.prog tab7) [] 300 49 #[.agg #[.int .i64 x0, .int .i64 x1, .int .i64 x2, .int .i64 x3, .int .i64 x4, .int .i64 x5]] []) = tree49 x0 x1 x2 x3 x4 x5 := by kernel_rfl
theorem tree49_res (x0 x1 x2 x3 x4 x5 : Int) : (tree49 x0 x1 x2 x3 x4 x5).res = some (.int .i64 (box_volume_0 x0 x1 x2 x3 x4 x5)) := by
  rfl
theorem tab8_ok : TabOk Try.prog tab8 := tab_cons mixed tab7_ok (by decide) fun args v h => by
  unfold ans49 at h
  split at h
  · rename_i c0 h0
    split at h
    · rename_i x0 x1 x2 x3 x4 x5 h1
      injection h with h; subst h
      obtain rfl : c0 = #[.int .i64 x0, .int .i64 x1, .int .i64 x2, .int .i64 x3, .int .i64 x4, .int .i64 x5] := by rw [← Array.toArray_toList (xs := c0), h1]
      obtain rfl : args = #[.agg #[.int .i64 x0, .int .i64 x1, .int .i64 x2, .int .i64 x3, .int .i64 x4, .int .i64 x5]] := by rw [← Array.toArray_toList (xs := args), h0]
      exact ⟨rfl, rfl, [], 300, by rw [tree49_eq]; exact tree49_res _ _ _ _ _ _⟩
    · cases h
  · cases h

/- gangsaw/box.Volume -/
def box_Volume_0 (x0 x1 x2 x3 x4 x5 : Int) : Int :=
  if box_Check_0 x0 x1 x2 x3 x4 x5 != 0 then (0) else (box_volume_0 x0 x1 x2 x3 x4 x5)
def box_Volume_1 (x0 x1 x2 x3 x4 x5 : Int) : Int :=
  if box_Check_0 x0 x1 x2 x3 x4 x5 != 0 then (box_Check_0 x0 x1 x2 x3 x4 x5) else (0)
def ans13 : Ans := fun args => match args.toList with
  | [.agg c0] => match c0.toList with
    | [.int .i64 x0, .int .i64 x1, .int .i64 x2, .int .i64 x3, .int .i64 x4, .int .i64 x5] => some (.tuple #[.int .i64 (box_Volume_0 x0 x1 x2 x3 x4 x5), .int .i64 (box_Volume_1 x0 x1 x2 x3 x4 x5)])
    | _ => none
  | _ => none
def tab9 : Tab := (13, .ans ans13) :: tab8
def tree13 (x0 x1 x2 x3 x4 x5 : Int) : Tr Value :=
  .node 8 (box_Check_0 x0 x1 x2 x3 x4 x5 != 0)
  (.leaf (some (.tuple #[.int .i64 (0), .int .i64 (box_Check_0 x0 x1 x2 x3 x4 x5)])))
  (.leaf (some (.tuple #[.int .i64 (box_volume_0 x0 x1 x2 x3 x4 x5), .int .i64 (0)])))
theorem tree13_eq (x0 x1 x2 x3 x4 x5 : Int) : vals (evFnT Try.prog (tb Try.prog tab8) (tbT Try.prog tab8) [(8, 0)] 300 13 #[.agg #[.int .i64 x0, .int .i64 x1, .int .i64 x2, .int .i64 x3, .int .i64 x4, .int .i64 x5]] []) = tree13 x0 x1 x2 x3 x4 x5 := by kernel_rfl
theorem tree13_res (x0 x1 x2 x3 x4 x5 : Int) : (tree13 x0 x1 x2 x3 x4 x5).res = some (.tuple #[.int .i64 (box_Volume_0 x0 x1 x2 x3 x4 x5), .int .i64 (box_Volume_1 x0 x1 x2 x3 x4 x5)]) := by
  unfold tree13 box_Volume_0 box_Volume_1
  simp only [Tr.res]
  generalize (box_Check_0 x0 x1 x2 x3 x4 x5 != 0) = b0
  cases b0 with
  | true =>
   first | (simp only [if_true, Bool.false_eq_true, if_false]; done) | rfl
  | false =>
   first | (simp only [if_true, Bool.false_eq_true, if_false]; done) | rfl
theorem tab9_ok : TabOk Try.prog tab9 := tab_cons mixed tab8_ok (by decide) fun args v h => by
  unfold ans13 at h
  split at h
  · rename_i c0 h0
    split at h
    · rename_i x0 x1 x2 x3 x4 x5 h1
      injection h with h; subst h
      obtain rfl : c0 = #[.int .i64 x0, .int .i64 x1, .int .i64 x2, .int .i64 x3, .int .i64 x4, .int .i64 x5] := by rw [← Array.toArray_toList (xs := c0), h1]
      obtain rfl : args = #[.agg #[.int .i64 x0, .int .i64 x1, .int .i64 x2, .int .i64 x3, .int .i64 x4, .int .i64 x5]] := by rw [← Array.toArray_toList (xs := args), h0]
      exact ⟨rfl, rfl, [(8, 0)], 300, by rw [tree13_eq]; exact tree13_res _ _ _ _ _ _⟩
    · cases h
  · cases h

/- gangsaw/box.sum -/
def ans50 : Ans := fun args => match args.toList with
  | [.agg c0, .agg c1] => match c0.toList, c1.toList with
    | [.int .i64 x0, .int .i64 x1, .int .i64 x2], [.int .i64 x3, .int .i64 x4, .int .i64 x5] => some (.agg #[.int .i64 (IntKind.i64.wrap (x0 + x3)), .int .i64 (IntKind.i64.wrap (x1 + x4)), .int .i64 (IntKind.i64.wrap (x2 + x5))])
    | _, _ => none
  | _ => none
def tab10 : Tab := (50, .ans ans50) :: tab9
def tree50 (x0 x1 x2 x3 x4 x5 : Int) : Tr Value :=
  .leaf (some (.agg #[.int .i64 (IntKind.i64.wrap (x0 + x3)), .int .i64 (IntKind.i64.wrap (x1 + x4)), .int .i64 (IntKind.i64.wrap (x2 + x5))]))
theorem tree50_eq (x0 x1 x2 x3 x4 x5 : Int) : vals (evFnT Try.prog (tb Try.prog tab9) (tbT Try.prog tab9) [] 300 50 #[.agg #[.int .i64 x0, .int .i64 x1, .int .i64 x2], .agg #[.int .i64 x3, .int .i64 x4, .int .i64 x5]] []) = tree50 x0 x1 x2 x3 x4 x5 := by kernel_rfl
theorem tree50_res (x0 x1 x2 x3 x4 x5 : Int) : (tree50 x0 x1 x2 x3 x4 x5).res = some (.agg #[.int .i64 (IntKind.i64.wrap (x0 + x3)), .int .i64 (IntKind.i64.wrap (x1 + x4)), .int .i64 (IntKind.i64.wrap (x2 + x5))]) := by
  rfl
theorem tab10_ok : TabOk Try.prog tab10 := tab_cons mixed tab9_ok (by decide) fun args v h => by
  unfold ans50 at h
  split at h
  · rename_i c0 c1 h0
    split at h
    · rename_i x0 x1 x2 x3 x4 x5 h1 h2
      injection h with h; subst h
      obtain rfl : c0 = #[.int .i64 x0, .int .i64 x1, .int .i64 x2] := by rw [← Array.toArray_toList (xs := c0), h1]
      obtain rfl : c1 = #[.int .i64 x3, .int .i64 x4, .int .i64 x5] := by rw [← Array.toArray_toList (xs := c1), h2]
      obtain rfl : args = #[.agg #[.int .i64 x0, .int .i64 x1, .int .i64 x2], .agg #[.int .i64 x3, .int .i64 x4, .int .i64 x5]] := by rw [← Array.toArray_toList (xs := args), h0]
      exact ⟨rfl, rfl, [], 300, by rw [tree50_eq]; exact tree50_res _ _ _ _ _ _⟩
    · cases h
  · cases h

/- gangsaw/box.Move -/
def box_Move_0 (x0 x1 x2 x3 x4 x5 x6 x7 x8 : Int) : Int :=
  if box_Check_0 x0 x1 x2 x3 x4 x5 != 0 then (0) else if box_Check_0 (IntKind.i64.wrap (x0 + x6)) (IntKind.i64.wrap (x1 + x7)) (IntKind.i64.wrap (x2 + x8)) (IntKind.i64.wrap (x3 + x6)) (IntKind.i64.wrap (x4 + x7)) (IntKind.i64.wrap (x5 + x8)) != 0 then (0) else (IntKind.i64.wrap (x0 + x6))
def box_Move_1 (x0 x1 x2 x3 x4 x5 x6 x7 x8 : Int) : Int :=
  if box_Check_0 x0 x1 x2 x3 x4 x5 != 0 then (0) else if box_Check_0 (IntKind.i64.wrap (x0 + x6)) (IntKind.i64.wrap (x1 + x7)) (IntKind.i64.wrap (x2 + x8)) (IntKind.i64.wrap (x3 + x6)) (IntKind.i64.wrap (x4 + x7)) (IntKind.i64.wrap (x5 + x8)) != 0 then (0) else (IntKind.i64.wrap (x1 + x7))
def box_Move_2 (x0 x1 x2 x3 x4 x5 x6 x7 x8 : Int) : Int :=
  if box_Check_0 x0 x1 x2 x3 x4 x5 != 0 then (0) else if box_Check_0 (IntKind.i64.wrap (x0 + x6)) (IntKind.i64.wrap (x1 + x7)) (IntKind.i64.wrap (x2 + x8)) (IntKind.i64.wrap (x3 + x6)) (IntKind.i64.wrap (x4 + x7)) (IntKind.i64.wrap (x5 + x8)) != 0 then (0) else (IntKind.i64.wrap (x2 + x8))
def box_Move_3 (x0 x1 x2 x3 x4 x5 x6 x7 x8 : Int) : Int :=
  if box_Check_0 x0 x1 x2 x3 x4 x5 != 0 then (0) else if box_Check_0 (IntKind.i64.wrap (x0 + x6)) (IntKind.i64.wrap (x1 + x7)) (IntKind.i64.wrap (x2 + x8)) (IntKind.i64.wrap (x3 + x6)) (IntKind.i64.wrap (x4 + x7)) (IntKind.i64.wrap (x5 + x8)) != 0 then (0) else (IntKind.i64.wrap (x3 + x6))
def box_Move_4 (x0 x1 x2 x3 x4 x5 x6 x7 x8 : Int) : Int :=
  if box_Check_0 x0 x1 x2 x3 x4 x5 != 0 then (0) else if box_Check_0 (IntKind.i64.wrap (x0 + x6)) (IntKind.i64.wrap (x1 + x7)) (IntKind.i64.wrap (x2 + x8)) (IntKind.i64.wrap (x3 + x6)) (IntKind.i64.wrap (x4 + x7)) (IntKind.i64.wrap (x5 + x8)) != 0 then (0) else (IntKind.i64.wrap (x4 + x7))
def box_Move_5 (x0 x1 x2 x3 x4 x5 x6 x7 x8 : Int) : Int :=
  if box_Check_0 x0 x1 x2 x3 x4 x5 != 0 then (0) else if box_Check_0 (IntKind.i64.wrap (x0 + x6)) (IntKind.i64.wrap (x1 + x7)) (IntKind.i64.wrap (x2 + x8)) (IntKind.i64.wrap (x3 + x6)) (IntKind.i64.wrap (x4 + x7)) (IntKind.i64.wrap (x5 + x8)) != 0 then (0) else (IntKind.i64.wrap (x5 + x8))
def box_Move_6 (x0 x1 x2 x3 x4 x5 x6 x7 x8 : Int) : Int :=
  if box_Check_0 x0 x1 x2 x3 x4 x5 != 0 then (box_Check_0 x0 x1 x2 x3 x4 x5) else if box_Check_0 (IntKind.i64.wrap (x0 + x6)) (IntKind.i64.wrap (x1 + x7)) (IntKind.i64.wrap (x2 + x8)) (IntKind.i64.wrap (x3 + x6)) (IntKind.i64.wrap (x4 + x7)) (IntKind.i64.wrap (x5 + x8)) != 0 then (box_Check_0 (IntKind.i64.wrap (x0 + x6)) (IntKind.i64.wrap (x1 + x7)) (IntKind.i64.wrap (x2 + x8)) (IntKind.i64.wrap (x3 + x6)) (IntKind.i64.wrap (x4 + x7)) (IntKind.i64.wrap (x5 + x8))) else (0)
def ans14 : Ans := fun args => match args.toList with
  | [.agg c0, .agg c1] => match c0.toList, c1.toList with
    | [.int .i64 x0, .int .i64 x1, .int .i64 x2, .int .i64 x3, .int .i64 x4, .int .i64 x5], [.int .i64 x6, .int .i64 x7, .int .i64 x8] => some (.tuple #[.agg #[.int .i64 (box_Move_0 x0 x1 x2 x3 x4 x5 x6 x7 x8), .int .i64 (box_Move_1 x0 x1 x2 x3 x4 x5 x6 x7 x8), .int .i64 (box_Move_2 x0 x1 x2 x3 x4 x5 x6 x7 x8), .int .i64 (box_Move_3 x0 x1 x2 x3 x4 x5 x6 x7 x8), .int .i64 (box_Move_4 x0 x1 x2 x3 x4 x5 x6 x7 x8), .int .i64 (box_Move_5 x0 x1 x2 x3 x4 x5 x6 x7 x8)], .int .i64 (box_Move_6 x0 x1 x2 x3 x4 x5 x6 x7 x8)])
    | _, _ => none
  | _ => none
def tab11 : Tab := (14, .ans ans14) :: tab10
def tree14 (x0 x1 x2 x3 x4 x5 x6 x7 x8 : Int) : Tr Value :=
  .node 12 (box_Check_0 x0 x1 x2 x3 x4 x5 != 0)
  (.leaf (some (.tuple #[.agg #[.int .i64 (0), .int .i64 (0), .int .i64 (0), .int .i64 (0), .int .i64 (0), .int .i64 (0)], .int .i64 (box_Check_0 x0 x1 x2 x3 x4 x5)])))
  (.node 27 (box_Check_0 (IntKind.i64.wrap (x0 + x6)) (IntKind.i64.wrap (x1 + x7)) (IntKind.i64.wrap (x2 + x8)) (IntKind.i64.wrap (x3 + x6)) (IntKind.i64.wrap (x4 + x7)) (IntKind.i64.wrap (x5 + x8)) != 0)
   (.leaf (some (.tuple #[.agg #[.int .i64 (0), .int .i64 (0), .int .i64 (0), .int .i64 (0), .int .i64 (0), .int .i64 (0)], .int .i64 (box_Check_0 (IntKind.i64.wrap (x0 + x6)) (IntKind.i64.wrap (x1 + x7)) (IntKind.i64.wrap (x2 + x8)) (IntKind.i64.wrap (x3 + x6)) (IntKind.i64.wrap (x4 + x7)) (IntKind.i64.wrap (x5 + x8)))])))
   (.leaf (some (.tuple #[.agg #[.int .i64 (IntKind.i64.wrap (x0 + x6)), .int .i64 (IntKind.i64.wrap (x1 + x7)), .int .i64 (IntKind.i64.wrap (x2 + x8)), .int .i64 (IntKind.i64.wrap (x3 + x6)), .int .i64 (IntKind.i64.wrap (x4 + x7)), .int .i64 (IntKind.i64.wrap (x5 + x8))], .int .i64 (0)]))))
theorem tree14_eq (x0 x1 x2 x3 x4 x5 x6 x7 x8 : Int) : vals (evFnT Try.prog (tb Try.prog tab10) (tbT Try.prog tab10) [(12, 0), (27, 0)] 300 14 #[.agg #[.int .i64 x0, .int .i64 x1, .int .i64 x2, .int .i64 x3, .int .i64 x4, .int .i64 x5], .agg #[.int .i64 x6, .int .i64 x7, .int .i64 x8]] []) = tree14 x0 x1 x2 x3 x4 x5 x6 x7 x8 := by kernel_rfl
theorem tree14_res (x0 x1 x2 x3 x4 x5 x6 x7 x8 : Int) : (tree14 x0 x1 x2 x3 x4 x5 x6 x7 x8).res = some (.tuple #[.agg #[.int .i64 (box_Move_0 x0 x1 x2 x3 x4 x5 x6 x7 x8), .int .i64 (box_Move_1 x0 x1 x2 x3 x4 x5 x6 x7 x8), .int .i64 (box_Move_2 x0 x1 x2 x3 x4 x5 x6 x7 x8), .int .i64 (box_Move_3 x0 x1 x2 x3 x4 x5 x6 x7 x8), .int .i64 (box_Move_4 x0 x1 x2 x3 x4 x5 x6 x7 x8), .int .i64 (box_Move_5 x0 x1 x2 x3 x4 x5 x6 x7 x8)], .int .i64 (box_Move_6 x0 x1 x2 x3 x4 x5 x6 x7 x8)]) := by
  unfold tree14 box_Move_0 box_Move_1 box_Move_2 box_Move_3 box_Move_4 box_Move_5 box_Move_6
  simp only [Tr.res]
  generalize (box_Check_0 x0 x1 x2 x3 x4 x5 != 0) = b0
  generalize (box_Check_0 (IntKind.i64.wrap (x0 + x6)) (IntKind.i64.wrap (x1 + x7)) (IntKind.i64.wrap (x2 + x8)) (IntKind.i64.wrap (x3 + x6)) (IntKind.i64.wrap (x4 + x7)) (IntKind.i64.wrap (x5 + x8)) != 0) = b1
  cases b0 with
  | true =>
   first | (simp only [if_true, Bool.false_eq_true, if_false]; done) | rfl
  | false =>
   cases b1 with
   | true =>
    first | (simp only [if_true, Bool.false_eq_true, if_false]; done) | rfl
   | false =>
    first | (simp only [if_true, Bool.false_eq_true, if_false]; done) | rfl
theorem tab11_ok : TabOk Try.prog tab11 := tab_cons mixed tab10_ok (by decide) fun args v h => by
  unfold ans14 at h
  split at h
  · rename_i c0 c1 h0
    split at h
    · rename_i x0 x1 x2 x3 x4 x5 x6 x7 x8 h1 h2
      injection h with h; subst h
      obtain rfl : c0 = #[.int .i64 x0, .int .i64 x1, .int .i64 x2, .int .i64 x3, .int .i64 x4, .int .i64 x5] := by rw [← Array.toArray_toList (xs := c0), h1]
      obtain rfl : c1 = #[.int .i64 x6, .int .i64 x7, .int .i64 x8] := by rw [← Array.toArray_toList (xs := c1), h2]
      obtain rfl : args = #[.agg #[.int .i64 x0, .int .i64 x1, .int .i64 x2, .int .i64 x3, .int .i64 x4, .int .i64 x5], .agg #[.int .i64 x6, .int .i64 x7, .int .i64 x8]] := by rw [← Array.toArray_toList (xs := args), h0]
      exact ⟨rfl, rfl, [(12, 0), (27, 0)], 300, by rw [tree14_eq]; exact tree14_res _ _ _ _ _ _ _ _ _⟩
    · cases h
  · cases h

/- gangsaw/gangsawref06.Size -/
def ans17 : Ans := fun args => match args.toList with
  | [.agg c0] => match c0.toList with
    | [.int .i64 x0, .int .i64 x1, .int .i64 x2, .int .i64 x3, .int .i64 x4, .int .i64 x5] => some (.agg #[.int .i64 (IntKind.i64.wrap (x3 - x0)), .int .i64 (IntKind.i64.wrap (x4 - x1)), .int .i64 (IntKind.i64.wrap (x5 - x2))])
    | _ => none
  | _ => none
def tab12 : Tab := (17, .ans ans17) :: tab11
def tree17 (x0 x1 x2 x3 x4 x5 : Int) : Tr Value :=
  .leaf (some (.agg #[.int .i64 (IntKind.i64.wrap (x3 - x0)), .int .i64 (IntKind.i64.wrap (x4 - x1)), .int .i64 (IntKind.i64.wrap (x5 - x2))]))
theorem tree17_eq (x0 x1 x2 x3 x4 x5 : Int) : vals (evFnT Try.prog (tb Try.prog tab11) (tbT Try.prog tab11) [] 300 17 #[.agg #[.int .i64 x0, .int .i64 x1, .int .i64 x2, .int .i64 x3, .int .i64 x4, .int .i64 x5]] []) = tree17 x0 x1 x2 x3 x4 x5 := by kernel_rfl
theorem tree17_res (x0 x1 x2 x3 x4 x5 : Int) : (tree17 x0 x1 x2 x3 x4 x5).res = some (.agg #[.int .i64 (IntKind.i64.wrap (x3 - x0)), .int .i64 (IntKind.i64.wrap (x4 - x1)), .int .i64 (IntKind.i64.wrap (x5 - x2))]) := by
  rfl
theorem tab12_ok : TabOk Try.prog tab12 := tab_cons mixed tab11_ok (by decide) fun args v h => by
  unfold ans17 at h
  split at h
  · rename_i c0 h0
    split at h
    · rename_i x0 x1 x2 x3 x4 x5 h1
      injection h with h; subst h
      obtain rfl : c0 = #[.int .i64 x0, .int .i64 x1, .int .i64 x2, .int .i64 x3, .int .i64 x4, .int .i64 x5] := by rw [← Array.toArray_toList (xs := c0), h1]
      obtain rfl : args = #[.agg #[.int .i64 x0, .int .i64 x1, .int .i64 x2, .int .i64 x3, .int .i64 x4, .int .i64 x5]] := by rw [← Array.toArray_toList (xs := args), h0]
      exact ⟨rfl, rfl, [], 300, by rw [tree17_eq]; exact tree17_res _ _ _ _ _ _⟩
    · cases h
  · cases h

/- gangsaw/gangsawref06.Add -/
def ans53 : Ans := fun args => match args.toList with
  | [.agg c0, .agg c1] => match c0.toList, c1.toList with
    | [.int .i64 x0, .int .i64 x1, .int .i64 x2], [.int .i64 x3, .int .i64 x4, .int .i64 x5] => some (.agg #[.int .i64 (IntKind.i64.wrap (x0 + x3)), .int .i64 (IntKind.i64.wrap (x1 + x4)), .int .i64 (IntKind.i64.wrap (x2 + x5))])
    | _, _ => none
  | _ => none
def tab13 : Tab := (53, .ans ans53) :: tab12
def tree53 (x0 x1 x2 x3 x4 x5 : Int) : Tr Value :=
  .leaf (some (.agg #[.int .i64 (IntKind.i64.wrap (x0 + x3)), .int .i64 (IntKind.i64.wrap (x1 + x4)), .int .i64 (IntKind.i64.wrap (x2 + x5))]))
theorem tree53_eq (x0 x1 x2 x3 x4 x5 : Int) : vals (evFnT Try.prog (tb Try.prog tab12) (tbT Try.prog tab12) [] 300 53 #[.agg #[.int .i64 x0, .int .i64 x1, .int .i64 x2], .agg #[.int .i64 x3, .int .i64 x4, .int .i64 x5]] []) = tree53 x0 x1 x2 x3 x4 x5 := by kernel_rfl
theorem tree53_res (x0 x1 x2 x3 x4 x5 : Int) : (tree53 x0 x1 x2 x3 x4 x5).res = some (.agg #[.int .i64 (IntKind.i64.wrap (x0 + x3)), .int .i64 (IntKind.i64.wrap (x1 + x4)), .int .i64 (IntKind.i64.wrap (x2 + x5))]) := by
  rfl
theorem tab13_ok : TabOk Try.prog tab13 := tab_cons mixed tab12_ok (by decide) fun args v h => by
  unfold ans53 at h
  split at h
  · rename_i c0 c1 h0
    split at h
    · rename_i x0 x1 x2 x3 x4 x5 h1 h2
      injection h with h; subst h
      obtain rfl : c0 = #[.int .i64 x0, .int .i64 x1, .int .i64 x2] := by rw [← Array.toArray_toList (xs := c0), h1]
      obtain rfl : c1 = #[.int .i64 x3, .int .i64 x4, .int .i64 x5] := by rw [← Array.toArray_toList (xs := c1), h2]
      obtain rfl : args = #[.agg #[.int .i64 x0, .int .i64 x1, .int .i64 x2], .agg #[.int .i64 x3, .int .i64 x4, .int .i64 x5]] := by rw [← Array.toArray_toList (xs := args), h0]
      exact ⟨rfl, rfl, [], 300, by rw [tree53_eq]; exact tree53_res _ _ _ _ _ _⟩
    · cases h
  · cases h

/- gangsaw/gangsawref06.Move -/
def ref06_Move_0 (x0 x1 x2 x3 x4 x5 x6 x7 x8 : Int) : Int :=
  if Decidable.decide (ref06_At_0 x6 x7 x8 0 < -2000000) then (0) else if Decidable.decide (ref06_At_0 x6 x7 x8 0 > 2000000) then (0) else if Decidable.decide (ref06_At_0 x6 x7 x8 (IntKind.i64.wrap (0 + 1)) < -2000000) then (0) else if Decidable.decide (ref06_At_0 x6 x7 x8 (IntKind.i64.wrap (0 + 1)) > 2000000) then (0) else if Decidable.decide (ref06_At_0 x6 x7 x8 (IntKind.i64.wrap (IntKind.i64.wrap (0 + 1) + 1)) < -2000000) then (0) else if Decidable.decide (ref06_At_0 x6 x7 x8 (IntKind.i64.wrap (IntKind.i64.wrap (0 + 1) + 1)) > 2000000) then (0) else if ref06_Check_0 (IntKind.i64.wrap (x0 + x6)) (IntKind.i64.wrap (x1 + x7)) (IntKind.i64.wrap (x2 + x8)) (IntKind.i64.wrap (x3 + x6)) (IntKind.i64.wrap (x4 + x7)) (IntKind.i64.wrap (x5 + x8)) != 0 then (0) else (IntKind.i64.wrap (x0 + x6))
def ref06_Move_1 (x0 x1 x2 x3 x4 x5 x6 x7 x8 : Int) : Int :=
  if Decidable.decide (ref06_At_0 x6 x7 x8 0 < -2000000) then (0) else if Decidable.decide (ref06_At_0 x6 x7 x8 0 > 2000000) then (0) else if Decidable.decide (ref06_At_0 x6 x7 x8 (IntKind.i64.wrap (0 + 1)) < -2000000) then (0) else if Decidable.decide (ref06_At_0 x6 x7 x8 (IntKind.i64.wrap (0 + 1)) > 2000000) then (0) else if Decidable.decide (ref06_At_0 x6 x7 x8 (IntKind.i64.wrap (IntKind.i64.wrap (0 + 1) + 1)) < -2000000) then (0) else if Decidable.decide (ref06_At_0 x6 x7 x8 (IntKind.i64.wrap (IntKind.i64.wrap (0 + 1) + 1)) > 2000000) then (0) else if ref06_Check_0 (IntKind.i64.wrap (x0 + x6)) (IntKind.i64.wrap (x1 + x7)) (IntKind.i64.wrap (x2 + x8)) (IntKind.i64.wrap (x3 + x6)) (IntKind.i64.wrap (x4 + x7)) (IntKind.i64.wrap (x5 + x8)) != 0 then (0) else (IntKind.i64.wrap (x1 + x7))
def ref06_Move_2 (x0 x1 x2 x3 x4 x5 x6 x7 x8 : Int) : Int :=
  if Decidable.decide (ref06_At_0 x6 x7 x8 0 < -2000000) then (0) else if Decidable.decide (ref06_At_0 x6 x7 x8 0 > 2000000) then (0) else if Decidable.decide (ref06_At_0 x6 x7 x8 (IntKind.i64.wrap (0 + 1)) < -2000000) then (0) else if Decidable.decide (ref06_At_0 x6 x7 x8 (IntKind.i64.wrap (0 + 1)) > 2000000) then (0) else if Decidable.decide (ref06_At_0 x6 x7 x8 (IntKind.i64.wrap (IntKind.i64.wrap (0 + 1) + 1)) < -2000000) then (0) else if Decidable.decide (ref06_At_0 x6 x7 x8 (IntKind.i64.wrap (IntKind.i64.wrap (0 + 1) + 1)) > 2000000) then (0) else if ref06_Check_0 (IntKind.i64.wrap (x0 + x6)) (IntKind.i64.wrap (x1 + x7)) (IntKind.i64.wrap (x2 + x8)) (IntKind.i64.wrap (x3 + x6)) (IntKind.i64.wrap (x4 + x7)) (IntKind.i64.wrap (x5 + x8)) != 0 then (0) else (IntKind.i64.wrap (x2 + x8))
def ref06_Move_3 (x0 x1 x2 x3 x4 x5 x6 x7 x8 : Int) : Int :=
  if Decidable.decide (ref06_At_0 x6 x7 x8 0 < -2000000) then (0) else if Decidable.decide (ref06_At_0 x6 x7 x8 0 > 2000000) then (0) else if Decidable.decide (ref06_At_0 x6 x7 x8 (IntKind.i64.wrap (0 + 1)) < -2000000) then (0) else if Decidable.decide (ref06_At_0 x6 x7 x8 (IntKind.i64.wrap (0 + 1)) > 2000000) then (0) else if Decidable.decide (ref06_At_0 x6 x7 x8 (IntKind.i64.wrap (IntKind.i64.wrap (0 + 1) + 1)) < -2000000) then (0) else if Decidable.decide (ref06_At_0 x6 x7 x8 (IntKind.i64.wrap (IntKind.i64.wrap (0 + 1) + 1)) > 2000000) then (0) else if ref06_Check_0 (IntKind.i64.wrap (x0 + x6)) (IntKind.i64.wrap (x1 + x7)) (IntKind.i64.wrap (x2 + x8)) (IntKind.i64.wrap (x3 + x6)) (IntKind.i64.wrap (x4 + x7)) (IntKind.i64.wrap (x5 + x8)) != 0 then (0) else (IntKind.i64.wrap (x3 + x6))
def ref06_Move_4 (x0 x1 x2 x3 x4 x5 x6 x7 x8 : Int) : Int :=
  if Decidable.decide (ref06_At_0 x6 x7 x8 0 < -2000000) then (0) else if Decidable.decide (ref06_At_0 x6 x7 x8 0 > 2000000) then (0) else if Decidable.decide (ref06_At_0 x6 x7 x8 (IntKind.i64.wrap (0 + 1)) < -2000000) then (0) else if Decidable.decide (ref06_At_0 x6 x7 x8 (IntKind.i64.wrap (0 + 1)) > 2000000) then (0) else if Decidable.decide (ref06_At_0 x6 x7 x8 (IntKind.i64.wrap (IntKind.i64.wrap (0 + 1) + 1)) < -2000000) then (0) else if Decidable.decide (ref06_At_0 x6 x7 x8 (IntKind.i64.wrap (IntKind.i64.wrap (0 + 1) + 1)) > 2000000) then (0) else if ref06_Check_0 (IntKind.i64.wrap (x0 + x6)) (IntKind.i64.wrap (x1 + x7)) (IntKind.i64.wrap (x2 + x8)) (IntKind.i64.wrap (x3 + x6)) (IntKind.i64.wrap (x4 + x7)) (IntKind.i64.wrap (x5 + x8)) != 0 then (0) else (IntKind.i64.wrap (x4 + x7))
def ref06_Move_5 (x0 x1 x2 x3 x4 x5 x6 x7 x8 : Int) : Int :=
  if Decidable.decide (ref06_At_0 x6 x7 x8 0 < -2000000) then (0) else if Decidable.decide (ref06_At_0 x6 x7 x8 0 > 2000000) then (0) else if Decidable.decide (ref06_At_0 x6 x7 x8 (IntKind.i64.wrap (0 + 1)) < -2000000) then (0) else if Decidable.decide (ref06_At_0 x6 x7 x8 (IntKind.i64.wrap (0 + 1)) > 2000000) then (0) else if Decidable.decide (ref06_At_0 x6 x7 x8 (IntKind.i64.wrap (IntKind.i64.wrap (0 + 1) + 1)) < -2000000) then (0) else if Decidable.decide (ref06_At_0 x6 x7 x8 (IntKind.i64.wrap (IntKind.i64.wrap (0 + 1) + 1)) > 2000000) then (0) else if ref06_Check_0 (IntKind.i64.wrap (x0 + x6)) (IntKind.i64.wrap (x1 + x7)) (IntKind.i64.wrap (x2 + x8)) (IntKind.i64.wrap (x3 + x6)) (IntKind.i64.wrap (x4 + x7)) (IntKind.i64.wrap (x5 + x8)) != 0 then (0) else (IntKind.i64.wrap (x5 + x8))
def ref06_Move_6 (x0 x1 x2 x3 x4 x5 x6 x7 x8 : Int) : Int :=
  if Decidable.decide (ref06_At_0 x6 x7 x8 0 < -2000000) then (6) else if Decidable.decide (ref06_At_0 x6 x7 x8 0 > 2000000) then (6) else if Decidable.decide (ref06_At_0 x6 x7 x8 (IntKind.i64.wrap (0 + 1)) < -2000000) then (6) else if Decidable.decide (ref06_At_0 x6 x7 x8 (IntKind.i64.wrap (0 + 1)) > 2000000) then (6) else if Decidable.decide (ref06_At_0 x6 x7 x8 (IntKind.i64.wrap (IntKind.i64.wrap (0 + 1) + 1)) < -2000000) then (6) else if Decidable.decide (ref06_At_0 x6 x7 x8 (IntKind.i64.wrap (IntKind.i64.wrap (0 + 1) + 1)) > 2000000) then (6) else if ref06_Check_0 (IntKind.i64.wrap (x0 + x6)) (IntKind.i64.wrap (x1 + x7)) (IntKind.i64.wrap (x2 + x8)) (IntKind.i64.wrap (x3 + x6)) (IntKind.i64.wrap (x4 + x7)) (IntKind.i64.wrap (x5 + x8)) != 0 then (ref06_Check_0 (IntKind.i64.wrap (x0 + x6)) (IntKind.i64.wrap (x1 + x7)) (IntKind.i64.wrap (x2 + x8)) (IntKind.i64.wrap (x3 + x6)) (IntKind.i64.wrap (x4 + x7)) (IntKind.i64.wrap (x5 + x8))) else (0)
def ans18 : Ans := fun args => match args.toList with
  | [.agg c0, .agg c1] => match c0.toList, c1.toList with
    | [.int .i64 x0, .int .i64 x1, .int .i64 x2, .int .i64 x3, .int .i64 x4, .int .i64 x5], [.int .i64 x6, .int .i64 x7, .int .i64 x8] => some (.tuple #[.agg #[.int .i64 (ref06_Move_0 x0 x1 x2 x3 x4 x5 x6 x7 x8), .int .i64 (ref06_Move_1 x0 x1 x2 x3 x4 x5 x6 x7 x8), .int .i64 (ref06_Move_2 x0 x1 x2 x3 x4 x5 x6 x7 x8), .int .i64 (ref06_Move_3 x0 x1 x2 x3 x4 x5 x6 x7 x8), .int .i64 (ref06_Move_4 x0 x1 x2 x3 x4 x5 x6 x7 x8), .int .i64 (ref06_Move_5 x0 x1 x2 x3 x4 x5 x6 x7 x8)], .int .i64 (ref06_Move_6 x0 x1 x2 x3 x4 x5 x6 x7 x8)])
    | _, _ => none
  | _ => none
def tab14 : Tab := (18, .ans ans18) :: tab13
def tree18 (x0 x1 x2 x3 x4 x5 x6 x7 x8 : Int) : Tr Value :=
  .node 16 (Decidable.decide (ref06_At_0 x6 x7 x8 0 < -2000000))
  (.leaf (some (.tuple #[.agg #[.int .i64 (0), .int .i64 (0), .int .i64 (0), .int .i64 (0), .int .i64 (0), .int .i64 (0)], .int .i64 (6)])))
  (.node 21 (Decidable.decide (ref06_At_0 x6 x7 x8 0 > 2000000))
   (.leaf (some (.tuple #[.agg #[.int .i64 (0), .int .i64 (0), .int .i64 (0), .int .i64 (0), .int .i64 (0), .int .i64 (0)], .int .i64 (6)])))
   (.node 16 (Decidable.decide (ref06_At_0 x6 x7 x8 (IntKind.i64.wrap (0 + 1)) < -2000000))
    (.leaf (some (.tuple #[.agg #[.int .i64 (0), .int .i64 (0), .int .i64 (0), .int .i64 (0), .int .i64 (0), .int .i64 (0)], .int .i64 (6)])))
    (.node 21 (Decidable.decide (ref06_At_0 x6 x7 x8 (IntKind.i64.wrap (0 + 1)) > 2000000))
     (.leaf (some (.tuple #[.agg #[.int .i64 (0), .int .i64 (0), .int .i64 (0), .int .i64 (0), .int .i64 (0), .int .i64 (0)], .int .i64 (6)])))
     (.node 16 (Decidable.decide (ref06_At_0 x6 x7 x8 (IntKind.i64.wrap (IntKind.i64.wrap (0 + 1) + 1)) < -2000000))
      (.leaf (some (.tuple #[.agg #[.int .i64 (0), .int .i64 (0), .int .i64 (0), .int .i64 (0), .int .i64 (0), .int .i64 (0)], .int .i64 (6)])))
      (.node 21 (Decidable.decide (ref06_At_0 x6 x7 x8 (IntKind.i64.wrap (IntKind.i64.wrap (0 + 1) + 1)) > 2000000))
       (.leaf (some (.tuple #[.agg #[.int .i64 (0), .int .i64 (0), .int .i64 (0), .int .i64 (0), .int .i64 (0), .int .i64 (0)], .int .i64 (6)])))
       (.node 36 (ref06_Check_0 (IntKind.i64.wrap (x0 + x6)) (IntKind.i64.wrap (x1 + x7)) (IntKind.i64.wrap (x2 + x8)) (IntKind.i64.wrap (x3 + x6)) (IntKind.i64.wrap (x4 + x7)) (IntKind.i64.wrap (x5 + x8)) != 0)
        (.leaf (some (.tuple #[.agg #[.int .i64 (0), .int .i64 (0), .int .i64 (0), .int .i64 (0), .int .i64 (0), .int .i64 (0)], .int .i64 (ref06_Check_0 (IntKind.i64.wrap (x0 + x6)) (IntKind.i64.wrap (x1 + x7)) (IntKind.i64.wrap (x2 + x8)) (IntKind.i64.wrap (x3 + x6)) (IntKind.i64.wrap (x4 + x7)) (IntKind.i64.wrap (x5 + x8)))])))
        (.leaf (some (.tuple #[.agg #[.int .i64 (IntKind.i64.wrap (x0 + x6)), .int .i64 (IntKind.i64.wrap (x1 + x7)), .int .i64 (IntKind.i64.wrap (x2 + x8)), .int .i64 (IntKind.i64.wrap (x3 + x6)), .int .i64 (IntKind.i64.wrap (x4 + x7)), .int .i64 (IntKind.i64.wrap (x5 + x8))], .int .i64 (0)])))))))))
theorem tree18_eq (x0 x1 x2 x3 x4 x5 x6 x7 x8 : Int) : vals (evFnT Try.prog (tb Try.prog tab13) (tbT Try.prog tab13) [(16, 0), (21, 0), (36, 0)] 300 18 #[.agg #[.int .i64 x0, .int .i64 x1, .int .i64 x2, .int .i64 x3, .int .i64 x4, .int .i64 x5], .agg #[.int .i64 x6, .int .i64 x7, .int .i64 x8]] []) = tree18 x0 x1 x2 x3 x4 x5 x6 x7 x8 := by kernel_rfl
theorem tree18_res (x0 x1 x2 x3 x4 x5 x6 x7 x8 : Int) : (tree18 x0 x1 x2 x3 x4 x5 x6 x7 x8).res = some (.tuple #[.agg #[.int .i64 (ref06_Move_0 x0 x1 x2 x3 x4 x5 x6 x7 x8), .int .i64 (ref06_Move_1 x0 x1 x2 x3 x4 x5 x6 x7 x8), .int .i64 (ref06_Move_2 x0 x1 x2 x3 x4 x5 x6 x7 x8), .int .i64 (ref06_Move_3 x0 x1 x2 x3 x4 x5 x6 x7 x8), .int .i64 (ref06_Move_4 x0 x1 x2 x3 x4 x5 x6 x7 x8), .int .i64 (ref06_Move_5 x0 x1 x2 x3 x4 x5 x6 x7 x8)], .int .i64 (ref06_Move_6 x0 x1 x2 x3 x4 x5 x6 x7 x8)]) := by
  unfold tree18 ref06_Move_0 ref06_Move_1 ref06_Move_2 ref06_Move_3 ref06_Move_4 ref06_Move_5 ref06_Move_6
  simp only [Tr.res]
  generalize (Decidable.decide (ref06_At_0 x6 x7 x8 0 < -2000000)) = b0
  generalize (Decidable.decide (ref06_At_0 x6 x7 x8 0 > 2000000)) = b1
  generalize (Decidable.decide (ref06_At_0 x6 x7 x8 (IntKind.i64.wrap (0 + 1)) < -2000000)) = b2
  generalize (Decidable.decide (ref06_At_0 x6 x7 x8 (IntKind.i64.wrap (0 + 1)) > 2000000)) = b3
  generalize (Decidable.decide (ref06_At_0 x6 x7 x8 (IntKind.i64.wrap (IntKind.i64.wrap (0 + 1) + 1)) < -2000000)) = b4
  generalize (Decidable.decide (ref06_At_0 x6 x7 x8 (IntKind.i64.wrap (IntKind.i64.wrap (0 + 1) + 1)) > 2000000)) = b5
  generalize (ref06_Check_0 (IntKind.i64.wrap (x0 + x6)) (IntKind.i64.wrap (x1 + x7)) (IntKind.i64.wrap (x2 + x8)) (IntKind.i64.wrap (x3 + x6)) (IntKind.i64.wrap (x4 + x7)) (IntKind.i64.wrap (x5 + x8)) != 0) = b6
  cases b0 with
  | true =>
   first | (simp only [if_true, Bool.false_eq_true, if_false]; done) | rfl
  | false =>
   cases b1 with
   | true =>
    first | (simp only [if_true, Bool.false_eq_true, if_false]; done) | rfl
   | false =>
    cases b2 with
    | true =>
     first | (simp only [if_true, Bool.false_eq_true, if_false]; done) | rfl
    | false =>
     cases b3 with
     | true =>
      first | (simp only [if_true, Bool.false_eq_true, if_false]; done) | rfl
     | false =>
      cases b4 with
      | true =>
       first | (simp only [if_true, Bool.false_eq_true, if_false]; done) | rfl
      | false =>
       cases b5 with
       | true =>
        first | (simp only [if_true, Bool.false_eq_true, if_false]; done) | rfl
       | false =>
        cases b6 with
        | true =>
         first | (simp only [if_true, Bool.false_eq_true, if_false]; done) | rfl
        | false =>
         first | (simp only [if_true, Bool.false_eq_true, if_false]; done) | rfl
theorem tab14_ok : TabOk Try.prog tab14 := tab_cons mixed tab13_ok (by decide) fun args v h => by
  unfold ans18 at h
  split at h
  · rename_i c0 c1 h0
    split at h
    · rename_i x0 x1 x2 x3 x4 x5 x6 x7 x8 h1 h2
      injection h with h; subst h
      obtain rfl : c0 = #[.int .i64 x0, .int .i64 x1, .int .i64 x2, .int .i64 x3, .int .i64 x4, .int .i64 x5] := by rw [← Array.toArray_toList (xs := c0), h1]
      obtain rfl : c1 = #[.int .i64 x6, .int .i64 x7, .int .i64 x8] := by rw [← Array.toArray_toList (xs := c1), h2]
      obtain rfl : args = #[.agg #[.int .i64 x0, .int .i64 x1, .int .i64 x2, .int .i64 x3, .int .i64 x4, .int .i64 x5], .agg #[.int .i64 x6, .int .i64 x7, .int .i64 x8]] := by rw [← Array.toArray_toList (xs := args), h0]
      exact ⟨rfl, rfl, [(16, 0), (21, 0), (36, 0)], 300, by rw [tree18_eq]; exact tree18_res _ _ _ _ _ _ _ _ _⟩
    · cases h
  · cases h

/- gangsaw/gangsawref06.Volume -/
def ref06_Volume_0 (x0 x1 x2 x3 x4 x5 : Int) : Int :=
  (IntKind.i64.wrap (IntKind.i64.wrap (IntKind.i64.wrap (x3 - x0) * IntKind.i64.wrap (x4 - x1)) * IntKind.i64.wrap (x5 - x2)))
def ans19 : Ans := fun args => match args.toList with
  | [.agg c0] => match c0.toList with
    | [.int .i64 x0, .int .i64 x1, .int .i64 x2, .int .i64 x3, .int .i64 x4, .int .i64 x5] => some (.int .i64 (ref06_Volume_0 x0 x1 x2 x3 x4 x5))
    | _ => none
  | _ => none
def tab15 : Tab := (19, .ans ans19) :: tab14
def tree19 (x0 x1 x2 x3 x4 x5 : Int) : Tr Value :=
  .leaf (some (.int .i64 (IntKind.i64.wrap (IntKind.i64.wrap (IntKind.i64.wrap (x3 - x0) * IntKind.i64.wrap (x4 - x1)) * IntKind.i64.wrap (x5 - x2)))))
theorem tree19_eq (x0 x1 x2 x3 x4 x5 : Int) : vals (evFnT Try.prog (tb Try.prog tab14) (tbT Try.prog tab14) [] 300 19 #[.agg #[.int .i64 x0, .int .i64 x1, .int .i64 x2, .int .i64 x3, .int .i64 x4, .int .i64 x5]] []) = tree19 x0 x1 x2 x3 x4 x5 := by kernel_rfl
theorem tree19_res (x0 x1 x2 x3 x4 x5 : Int) : (tree19 x0 x1 x2 x3 x4 x5).res = some (.int .i64 (ref06_Volume_0 x0 x1 x2 x3 x4 x5)) := by
  rfl
theorem tab15_ok : TabOk Try.prog tab15 := tab_cons mixed tab14_ok (by decide) fun args v h => by
  unfold ans19 at h
  split at h
  · rename_i c0 h0
    split at h
    · rename_i x0 x1 x2 x3 x4 x5 h1
      injection h with h; subst h
      obtain rfl : c0 = #[.int .i64 x0, .int .i64 x1, .int .i64 x2, .int .i64 x3, .int .i64 x4, .int .i64 x5] := by rw [← Array.toArray_toList (xs := c0), h1]
      obtain rfl : args = #[.agg #[.int .i64 x0, .int .i64 x1, .int .i64 x2, .int .i64 x3, .int .i64 x4, .int .i64 x5]] := by rw [← Array.toArray_toList (xs := args), h0]
      exact ⟨rfl, rfl, [], 300, by rw [tree19_eq]; exact tree19_res _ _ _ _ _ _⟩
    · cases h
  · cases h

/- gangsaw/box.least -/
def ans56 : Ans := fun args => match args.toList with
  | [.agg c0, .agg c1] => match c0.toList, c1.toList with
    | [.int .i64 x0, .int .i64 x1, .int .i64 x2], [.int .i64 x3, .int .i64 x4, .int .i64 x5] => some (.agg #[.int .i64 (imin x0 x3), .int .i64 (imin x1 x4), .int .i64 (imin x2 x5)])
    | _, _ => none
  | _ => none
def tab16 : Tab := (56, .ans ans56) :: tab15
def tree56 (x0 x1 x2 x3 x4 x5 : Int) : Tr Value :=
  .leaf (some (.agg #[.int .i64 (imin x0 x3), .int .i64 (imin x1 x4), .int .i64 (imin x2 x5)]))
theorem tree56_eq (x0 x1 x2 x3 x4 x5 : Int) : vals (evFnT Try.prog (tb Try.prog tab15) (tbT Try.prog tab15) [] 300 56 #[.agg #[.int .i64 x0, .int .i64 x1, .int .i64 x2], .agg #[.int .i64 x3, .int .i64 x4, .int .i64 x5]] []) = tree56 x0 x1 x2 x3 x4 x5 := by kernel_rfl
theorem tree56_res (x0 x1 x2 x3 x4 x5 : Int) : (tree56 x0 x1 x2 x3 x4 x5).res = some (.agg #[.int .i64 (imin x0 x3), .int .i64 (imin x1 x4), .int .i64 (imin x2 x5)]) := by
  rfl
theorem tab16_ok : TabOk Try.prog tab16 := tab_cons mixed tab15_ok (by decide) fun args v h => by
  unfold ans56 at h
  split at h
  · rename_i c0 c1 h0
    split at h
    · rename_i x0 x1 x2 x3 x4 x5 h1 h2
      injection h with h; subst h
      obtain rfl : c0 = #[.int .i64 x0, .int .i64 x1, .int .i64 x2] := by rw [← Array.toArray_toList (xs := c0), h1]
      obtain rfl : c1 = #[.int .i64 x3, .int .i64 x4, .int .i64 x5] := by rw [← Array.toArray_toList (xs := c1), h2]
      obtain rfl : args = #[.agg #[.int .i64 x0, .int .i64 x1, .int .i64 x2], .agg #[.int .i64 x3, .int .i64 x4, .int .i64 x5]] := by rw [← Array.toArray_toList (xs := args), h0]
      exact ⟨rfl, rfl, [], 300, by rw [tree56_eq]; exact tree56_res _ _ _ _ _ _⟩
    · cases h
  · cases h

/- gangsaw/box.greatest -/
def ans57 : Ans := fun args => match args.toList with
  | [.agg c0, .agg c1] => match c0.toList, c1.toList with
    | [.int .i64 x0, .int .i64 x1, .int .i64 x2], [.int .i64 x3, .int .i64 x4, .int .i64 x5] => some (.agg #[.int .i64 (imax x0 x3), .int .i64 (imax x1 x4), .int .i64 (imax x2 x5)])
    | _, _ => none
  | _ => none
def tab17 : Tab := (57, .ans ans57) :: tab16
def tree57 (x0 x1 x2 x3 x4 x5 : Int) : Tr Value :=
  .leaf (some (.agg #[.int .i64 (imax x0 x3), .int .i64 (imax x1 x4), .int .i64 (imax x2 x5)]))
theorem tree57_eq (x0 x1 x2 x3 x4 x5 : Int) : vals (evFnT Try.prog (tb Try.prog tab16) (tbT Try.prog tab16) [] 300 57 #[.agg #[.int .i64 x0, .int .i64 x1, .int .i64 x2], .agg #[.int .i64 x3, .int .i64 x4, .int .i64 x5]] []) = tree57 x0 x1 x2 x3 x4 x5 := by kernel_rfl
theorem tree57_res (x0 x1 x2 x3 x4 x5 : Int) : (tree57 x0 x1 x2 x3 x4 x5).res = some (.agg #[.int .i64 (imax x0 x3), .int .i64 (imax x1 x4), .int .i64 (imax x2 x5)]) := by
  rfl
theorem tab17_ok : TabOk Try.prog tab17 := tab_cons mixed tab16_ok (by decide) fun args v h => by
  unfold ans57 at h
  split at h
  · rename_i c0 c1 h0
    split at h
    · rename_i x0 x1 x2 x3 x4 x5 h1 h2
      injection h with h; subst h
      obtain rfl : c0 = #[.int .i64 x0, .int .i64 x1, .int .i64 x2] := by rw [← Array.toArray_toList (xs := c0), h1]
      obtain rfl : c1 = #[.int .i64 x3, .int .i64 x4, .int .i64 x5] := by rw [← Array.toArray_toList (xs := c1), h2]
      obtain rfl : args = #[.agg #[.int .i64 x0, .int .i64 x1, .int .i64 x2], .agg #[.int .i64 x3, .int .i64 x4, .int .i64 x5]] := by rw [← Array.toArray_toList (xs := args), h0]
      exact ⟨rfl, rfl, [], 300, by rw [tree57_eq]; exact tree57_res _ _ _ _ _ _⟩
    · cases h
  · cases h

/- gangsaw/box.common -/
def ans55 : Ans := fun args => match args.toList with
  | [.agg c0, .agg c1] => match c0.toList, c1.toList with
    | [.int .i64 x0, .int .i64 x1, .int .i64 x2, .int .i64 x3, .int .i64 x4, .int .i64 x5], [.int .i64 x6, .int .i64 x7, .int .i64 x8, .int .i64 x9, .int .i64 x10, .int .i64 x11] => some (.agg #[.int .i64 (imax x0 x6), .int .i64 (imax x1 x7), .int .i64 (imax x2 x8), .int .i64 (imin x3 x9), .int .i64 (imin x4 x10), .int .i64 (imin x5 x11)])
    | _, _ => none
  | _ => none
def tab18 : Tab := (55, .ans ans55) :: tab17
def tree55 (x0 x1 x2 x3 x4 x5 x6 x7 x8 x9 x10 x11 : Int) : Tr Value :=
  .leaf (some (.agg #[.int .i64 (imax x0 x6), .int .i64 (imax x1 x7), .int .i64 (imax x2 x8), .int .i64 (imin x3 x9), .int .i64 (imin x4 x10), .int .i64 (imin x5 x11)]))
theorem tree55_eq (x0 x1 x2 x3 x4 x5 x6 x7 x8 x9 x10 x11 : Int) : vals (evFnT Try.prog (tb Try.prog tab17) (tbT Try.prog tab17) [] 300 55 #[.agg #[.int .i64 x0, .int .i64 x1, .int .i64 x2, .int .i64 x3, .int .i64 x4, .int .i64 x5], .agg #[.int .i64 x6, .int .i64 x7, .int .i64 x8, .int .i64 x9, .int .i64 x10, .int .i64 x11]] []) = tree55 x0 x1 x2 x3 x4 x5 x6 x7 x8 x9 x10 x11 := by kernel_rfl
theorem tree55_res (x0 x1 x2 x3 x4 x5 x6 x7 x8 x9 x10 x11 : Int) : (tree55 x0 x1 x2 x3 x4 x5 x6 x7 x8 x9 x10 x11).res = some (.agg #[.int .i64 (imax x0 x6), .int .i64 (imax x1 x7), .int .i64 (imax x2 x8), .int .i64 (imin x3 x9), .int .i64 (imin x4 x10), .int .i64 (imin x5 x11)]) := by
  rfl
theorem tab18_ok : TabOk Try.prog tab18 := tab_cons mixed tab17_ok (by decide) fun args v h => by
  unfold ans55 at h
  split at h
  · rename_i c0 c1 h0
    split at h
    · rename_i x0 x1 x2 x3 x4 x5 x6 x7 x8 x9 x10 x11 h1 h2
      injection h with h; subst h
      obtain rfl : c0 = #[.int .i64 x0, .int .i64 x1, .int .i64 x2, .int .i64 x3, .int .i64 x4, .int .i64 x5] := by rw [← Array.toArray_toList (xs := c0), h1]
      obtain rfl : c1 = #[.int .i64 x6, .int .i64 x7, .int .i64 x8, .int .i64 x9, .int .i64 x10, .int .i64 x11] := by rw [← Array.toArray_toList (xs := c1), h2]
      obtain rfl : args = #[.agg #[.int .i64 x0, .int .i64 x1, .int .i64 x2, .int .i64 x3, .int .i64 x4, .int .i64 x5], .agg #[.int .i64 x6, .int .i64 x7, .int .i64 x8, .int .i64 x9, .int .i64 x10, .int .i64 x11]] := by rw [← Array.toArray_toList (xs := args), h0]
      exact ⟨rfl, rfl, [], 300, by rw [tree55_eq]; exact tree55_res _ _ _ _ _ _ _ _ _ _ _ _⟩
    · cases h
  · cases h

/- gangsaw/box.Overlap -/
def box_Overlap_0 (x0 x1 x2 x3 x4 x5 x6 x7 x8 x9 x10 x11 : Int) : Bool :=
  if box_empty_0 (imax x0 x6) (imax x1 x7) (imax x2 x8) (imin x3 x9) (imin x4 x10) (imin x5 x11) then (!Bool.true) else (!Bool.false)
def ans29 : Ans := fun args => match args.toList with
  | [.agg c0, .agg c1] => match c0.toList, c1.toList with
    | [.int .i64 x0, .int .i64 x1, .int .i64 x2, .int .i64 x3, .int .i64 x4, .int .i64 x5], [.int .i64 x6, .int .i64 x7, .int .i64 x8, .int .i64 x9, .int .i64 x10, .int .i64 x11] => some (.bool (box_Overlap_0 x0 x1 x2 x3 x4 x5 x6 x7 x8 x9 x10 x11))
    | _, _ => none
  | _ => none
def tab19 : Tab := (29, .ans ans29) :: tab18
def tree29 (x0 x1 x2 x3 x4 x5 x6 x7 x8 x9 x10 x11 : Int) : Tr Value :=
  .node 8 (box_empty_0 (imax x0 x6) (imax x1 x7) (imax x2 x8) (imin x3 x9) (imin x4 x10) (imin x5 x11))
  (.leaf (some (.bool (!Bool.true))))
  (.leaf (some (.bool (!Bool.false))))
theorem tree29_eq (x0 x1 x2 x3 x4 x5 x6 x7 x8 x9 x10 x11 : Int) : vals (evFnT Try.prog (tb Try.prog tab18) (tbT Try.prog tab18) [(8, 0)] 300 29 #[.agg #[.int .i64 x0, .int .i64 x1, .int .i64 x2, .int .i64 x3, .int .i64 x4, .int .i64 x5], .agg #[.int .i64 x6, .int .i64 x7, .int .i64 x8, .int .i64 x9, .int .i64 x10, .int .i64 x11]] []) = tree29 x0 x1 x2 x3 x4 x5 x6 x7 x8 x9 x10 x11 := by kernel_rfl
theorem tree29_res (x0 x1 x2 x3 x4 x5 x6 x7 x8 x9 x10 x11 : Int) : (tree29 x0 x1 x2 x3 x4 x5 x6 x7 x8 x9 x10 x11).res = some (.bool (box_Overlap_0 x0 x1 x2 x3 x4 x5 x6 x7 x8 x9 x10 x11)) := by
  unfold tree29 box_Overlap_0
  simp only [Tr.res]
  generalize (box_empty_0 (imax x0 x6) (imax x1 x7) (imax x2 x8) (imin x3 x9) (imin x4 x10) (imin x5 x11)) = b0
  cases b0 with
  | true =>
   first | (simp only [if_true, Bool.false_eq_true, if_false]; done) | rfl
  | false =>
   first | (simp only [if_true, Bool.false_eq_true, if_false]; done) | rfl
theorem tab19_ok : TabOk Try.prog tab19 := tab_cons mixed tab18_ok (by decide) fun args v h => by
  unfold ans29 at h
  split at h
  · rename_i c0 c1 h0
    split at h
    · rename_i x0 x1 x2 x3 x4 x5 x6 x7 x8 x9 x10 x11 h1 h2
      injection h with h; subst h
      obtain rfl : c0 = #[.int .i64 x0, .int .i64 x1, .int .i64 x2, .int .i64 x3, .int .i64 x4, .int .i64 x5] := by rw [← Array.toArray_toList (xs := c0), h1]
      obtain rfl : c1 = #[.int .i64 x6, .int .i64 x7, .int .i64 x8, .int .i64 x9, .int .i64 x10, .int .i64 x11] := by rw [← Array.toArray_toList (xs := c1), h2]
      obtain rfl : args = #[.agg #[.int .i64 x0, .int .i64 x1, .int .i64 x2, .int .i64 x3, .int .i64 x4, .int .i64 x5], .agg #[.int .i64 x6, .int .i64 x7, .int .i64 x8, .int .i64 x9, .int .i64 x10, .int .i64 x11]] := by rw [← Array.toArray_toList (xs := args), h0]
      exact ⟨rfl, rfl, [(8, 0)], 300, by rw [tree29_eq]; exact tree29_res _ _ _ _ _ _ _ _ _ _ _ _⟩
    · cases h
  · cases h

/- gangsaw/box.checkAll -/
def tab20 : Tab := (54, .inl [(15, 0)] 300) :: tab19
theorem tab20_ok : TabOk Try.prog tab20 := tab_inl mixed tab19_ok _ _ _

/- gangsaw/box.Intersect -/
def box_Intersect_0 (x0 x1 x2 x3 x4 x5 x6 x7 x8 x9 x10 x11 : Int) : Int :=
  if box_Check_0 x0 x1 x2 x3 x4 x5 != 0 then (if box_Check_0 x0 x1 x2 x3 x4 x5 != 0 then (0) else if box_Overlap_0 x0 x1 x2 x3 x4 x5 x6 x7 x8 x9 x10 x11 then (imax x0 x6) else (0)) else if box_Check_0 x6 x7 x8 x9 x10 x11 != 0 then (if box_Check_0 x6 x7 x8 x9 x10 x11 != 0 then (0) else if box_Overlap_0 x0 x1 x2 x3 x4 x5 x6 x7 x8 x9 x10 x11 then (imax x0 x6) else (0)) else if box_Overlap_0 x0 x1 x2 x3 x4 x5 x6 x7 x8 x9 x10 x11 then (imax x0 x6) else (0)
def box_Intersect_1 (x0 x1 x2 x3 x4 x5 x6 x7 x8 x9 x10 x11 : Int) : Int :=
  if box_Check_0 x0 x1 x2 x3 x4 x5 != 0 then (if box_Check_0 x0 x1 x2 x3 x4 x5 != 0 then (0) else if box_Overlap_0 x0 x1 x2 x3 x4 x5 x6 x7 x8 x9 x10 x11 then (imax x1 x7) else (0)) else if box_Check_0 x6 x7 x8 x9 x10 x11 != 0 then (if box_Check_0 x6 x7 x8 x9 x10 x11 != 0 then (0) else if box_Overlap_0 x0 x1 x2 x3 x4 x5 x6 x7 x8 x9 x10 x11 then (imax x1 x7) else (0)) else if box_Overlap_0 x0 x1 x2 x3 x4 x5 x6 x7 x8 x9 x10 x11 then (imax x1 x7) else (0)
def box_Intersect_2 (x0 x1 x2 x3 x4 x5 x6 x7 x8 x9 x10 x11 : Int) : Int :=
  if box_Check_0 x0 x1 x2 x3 x4 x5 != 0 then (if box_Check_0 x0 x1 x2 x3 x4 x5 != 0 then (0) else if box_Overlap_0 x0 x1 x2 x3 x4 x5 x6 x7 x8 x9 x10 x11 then (imax x2 x8) else (0)) else if box_Check_0 x6 x7 x8 x9 x10 x11 != 0 then (if box_Check_0 x6 x7 x8 x9 x10 x11 != 0 then (0) else if box_Overlap_0 x0 x1 x2 x3 x4 x5 x6 x7 x8 x9 x10 x11 then (imax x2 x8) else (0)) else if box_Overlap_0 x0 x1 x2 x3 x4 x5 x6 x7 x8 x9 x10 x11 then (imax x2 x8) else (0)
def box_Intersect_3 (x0 x1 x2 x3 x4 x5 x6 x7 x8 x9 x10 x11 : Int) : Int :=
  if box_Check_0 x0 x1 x2 x3 x4 x5 != 0 then (if box_Check_0 x0 x1 x2 x3 x4 x5 != 0 then (0) else if box_Overlap_0 x0 x1 x2 x3 x4 x5 x6 x7 x8 x9 x10 x11 then (imin x3 x9) else (0)) else if box_Check_0 x6 x7 x8 x9 x10 x11 != 0 then (if box_Check_0 x6 x7 x8 x9 x10 x11 != 0 then (0) else if box_Overlap_0 x0 x1 x2 x3 x4 x5 x6 x7 x8 x9 x10 x11 then (imin x3 x9) else (0)) else if box_Overlap_0 x0 x1 x2 x3 x4 x5 x6 x7 x8 x9 x10 x11 then (imin x3 x9) else (0)
def box_Intersect_4 (x0 x1 x2 x3 x4 x5 x6 x7 x8 x9 x10 x11 : Int) : Int :=
  if box_Check_0 x0 x1 x2 x3 x4 x5 != 0 then (if box_Check_0 x0 x1 x2 x3 x4 x5 != 0 then (0) else if box_Overlap_0 x0 x1 x2 x3 x4 x5 x6 x7 x8 x9 x10 x11 then (imin x4 x10) else (0)) else if box_Check_0 x6 x7 x8 x9 x10 x11 != 0 then (if box_Check_0 x6 x7 x8 x9 x10 x11 != 0 then (0) else if box_Overlap_0 x0 x1 x2 x3 x4 x5 x6 x7 x8 x9 x10 x11 then (imin x4 x10) else (0)) else if box_Overlap_0 x0 x1 x2 x3 x4 x5 x6 x7 x8 x9 x10 x11 then (imin x4 x10) else (0)
def box_Intersect_5 (x0 x1 x2 x3 x4 x5 x6 x7 x8 x9 x10 x11 : Int) : Int :=
  if box_Check_0 x0 x1 x2 x3 x4 x5 != 0 then (if box_Check_0 x0 x1 x2 x3 x4 x5 != 0 then (0) else if box_Overlap_0 x0 x1 x2 x3 x4 x5 x6 x7 x8 x9 x10 x11 then (imin x5 x11) else (0)) else if box_Check_0 x6 x7 x8 x9 x10 x11 != 0 then (if box_Check_0 x6 x7 x8 x9 x10 x11 != 0 then (0) else if box_Overlap_0 x0 x1 x2 x3 x4 x5 x6 x7 x8 x9 x10 x11 then (imin x5 x11) else (0)) else if box_Overlap_0 x0 x1 x2 x3 x4 x5 x6 x7 x8 x9 x10 x11 then (imin x5 x11) else (0)
def box_Intersect_6 (x0 x1 x2 x3 x4 x5 x6 x7 x8 x9 x10 x11 : Int) : Int :=
  if box_Check_0 x0 x1 x2 x3 x4 x5 != 0 then (if box_Check_0 x0 x1 x2 x3 x4 x5 != 0 then (box_Check_0 x0 x1 x2 x3 x4 x5) else if box_Overlap_0 x0 x1 x2 x3 x4 x5 x6 x7 x8 x9 x10 x11 then (0) else (9)) else if box_Check_0 x6 x7 x8 x9 x10 x11 != 0 then (if box_Check_0 x6 x7 x8 x9 x10 x11 != 0 then (box_Check_0 x6 x7 x8 x9 x10 x11) else if box_Overlap_0 x0 x1 x2 x3 x4 x5 x6 x7 x8 x9 x10 x11 then (0) else (9)) else if box_Overlap_0 x0 x1 x2 x3 x4 x5 x6 x7 x8 x9 x10 x11 then (0) else (9)
def ans20 : Ans := fun args => match args.toList with
  | [.agg c0, .agg c1] => match c0.toList, c1.toList with
    | [.int .i64 x0, .int .i64 x1, .int .i64 x2, .int .i64 x3, .int .i64 x4, .int .i64 x5], [.int .i64 x6, .int .i64 x7, .int .i64 x8, .int .i64 x9, .int .i64 x10, .int .i64 x11] => some (.tuple #[.agg #[.int .i64 (box_Intersect_0 x0 x1 x2 x3 x4 x5 x6 x7 x8 x9 x10 x11), .int .i64 (box_Intersect_1 x0 x1 x2 x3 x4 x5 x6 x7 x8 x9 x10 x11), .int .i64 (box_Intersect_2 x0 x1 x2 x3 x4 x5 x6 x7 x8 x9 x10 x11), .int .i64 (box_Intersect_3 x0 x1 x2 x3 x4 x5 x6 x7 x8 x9 x10 x11), .int .i64 (box_Intersect_4 x0 x1 x2 x3 x4 x5 x6 x7 x8 x9 x10 x11), .int .i64 (box_Intersect_5 x0 x1 x2 x3 x4 x5 x6 x7 x8 x9 x10 x11)], .int .i64 (box_Intersect_6 x0 x1 x2 x3 x4 x5 x6 x7 x8 x9 x10 x11)])
    | _, _ => none
  | _ => none
def tab21 : Tab := (20, .ans ans20) :: tab20
def tree20 (x0 x1 x2 x3 x4 x5 x6 x7 x8 x9 x10 x11 : Int) : Tr Value :=
  .node 15 (box_Check_0 x0 x1 x2 x3 x4 x5 != 0)
  (.node 12 (box_Check_0 x0 x1 x2 x3 x4 x5 != 0)
   (.leaf (some (.tuple #[.agg #[.int .i64 (0), .int .i64 (0), .int .i64 (0), .int .i64 (0), .int .i64 (0), .int .i64 (0)], .int .i64 (box_Check_0 x0 x1 x2 x3 x4 x5)])))
   (.node 17 (box_Overlap_0 x0 x1 x2 x3 x4 x5 x6 x7 x8 x9 x10 x11)
    (.leaf (some (.tuple #[.agg #[.int .i64 (imax x0 x6), .int .i64 (imax x1 x7), .int .i64 (imax x2 x8), .int .i64 (imin x3 x9), .int .i64 (imin x4 x10), .int .i64 (imin x5 x11)], .int .i64 (0)])))
    (.leaf (some (.tuple #[.agg #[.int .i64 (0), .int .i64 (0), .int .i64 (0), .int .i64 (0), .int .i64 (0), .int .i64 (0)], .int .i64 (9)])))))
  (.node 15 (box_Check_0 x6 x7 x8 x9 x10 x11 != 0)
   (.node 12 (box_Check_0 x6 x7 x8 x9 x10 x11 != 0)
    (.leaf (some (.tuple #[.agg #[.int .i64 (0), .int .i64 (0), .int .i64 (0), .int .i64 (0), .int .i64 (0), .int .i64 (0)], .int .i64 (box_Check_0 x6 x7 x8 x9 x10 x11)])))
    (.node 17 (box_Overlap_0 x0 x1 x2 x3 x4 x5 x6 x7 x8 x9 x10 x11)
     (.leaf (some (.tuple #[.agg #[.int .i64 (imax x0 x6), .int .i64 (imax x1 x7), .int .i64 (imax x2 x8), .int .i64 (imin x3 x9), .int .i64 (imin x4 x10), .int .i64 (imin x5 x11)], .int .i64 (0)])))
     (.leaf (some (.tuple #[.agg #[.int .i64 (0), .int .i64 (0), .int .i64 (0), .int .i64 (0), .int .i64 (0), .int .i64 (0)], .int .i64 (9)])))))
   (.node 12 (false)
    (.leaf (some (.tuple #[.agg #[.int .i64 (0), .int .i64 (0), .int .i64 (0), .int .i64 (0), .int .i64 (0), .int .i64 (0)], .int .i64 (0)])))
    (.node 17 (box_Overlap_0 x0 x1 x2 x3 x4 x5 x6 x7 x8 x9 x10 x11)
     (.leaf (some (.tuple #[.agg #[.int .i64 (imax x0 x6), .int .i64 (imax x1 x7), .int .i64 (imax x2 x8), .int .i64 (imin x3 x9), .int .i64 (imin x4 x10), .int .i64 (imin x5 x11)], .int .i64 (0)])))
     (.leaf (some (.tuple #[.agg #[.int .i64 (0), .int .i64 (0), .int .i64 (0), .int .i64 (0), .int .i64 (0), .int .i64 (0)], .int .i64 (9)]))))))
theorem tree20_eq (x0 x1 x2 x3 x4 x5 x6 x7 x8 x9 x10 x11 : Int) : vals (evFnT Try.prog (tb Try.prog tab20) (tbT Try.prog tab20) [(12, 0), (17, 0)] 300 20 #[.agg #[.int .i64 x0, .int .i64 x1, .int .i64 x2, .int .i64 x3, .int .i64 x4, .int .i64 x5], .agg #[.int .i64 x6, .int .i64 x7, .int .i64 x8, .int .i64 x9, .int .i64 x10, .int .i64 x11]] []) = tree20 x0 x1 x2 x3 x4 x5 x6 x7 x8 x9 x10 x11 := by kernel_rfl
theorem tree20_res (x0 x1 x2 x3 x4 x5 x6 x7 x8 x9 x10 x11 : Int) : (tree20 x0 x1 x2 x3 x4 x5 x6 x7 x8 x9 x10 x11).res = some (.tuple #[.agg #[.int .i64 (box_Intersect_0 x0 x1 x2 x3 x4 x5 x6 x7 x8 x9 x10 x11), .int .i64 (box_Intersect_1 x0 x1 x2 x3 x4 x5 x6 x7 x8 x9 x10 x11), .int .i64 (box_Intersect_2 x0 x1 x2 x3 x4 x5 x6 x7 x8 x9 x10 x11), .int .i64 (box_Intersect_3 x0 x1 x2 x3 x4 x5 x6 x7 x8 x9 x10 x11), .int .i64 (box_Intersect_4 x0 x1 x2 x3 x4 x5 x6 x7 x8 x9 x10 x11), .int .i64 (box_Intersect_5 x0 x1 x2 x3 x4 x5 x6 x7 x8 x9 x10 x11)], .int .i64 (box_Intersect_6 x0 x1 x2 x3 x4 x5 x6 x7 x8 x9 x10 x11)]) := by
  unfold tree20 box_Intersect_0 box_Intersect_1 box_Intersect_2 box_Intersect_3 box_Intersect_4 box_Intersect_5 box_Intersect_6
  simp only [Tr.res]
  generalize (box_Check_0 x0 x1 x2 x3 x4 x5 != 0) = b0
  generalize (box_Overlap_0 x0 x1 x2 x3 x4 x5 x6 x7 x8 x9 x10 x11) = b1
  generalize (box_Check_0 x6 x7 x8 x9 x10 x11 != 0) = b2
  cases b0 with
  | true =>
   first | (simp only [if_true, Bool.false_eq_true, if_false]; done) | rfl
  | false =>
   cases b2 with
   | true =>
    first | (simp only [if_true, Bool.false_eq_true, if_false]; done) | rfl
   | false =>
    cases b1 with
    | true =>
     first | (simp only [if_true, Bool.false_eq_true, if_false]; done) | rfl
    | false =>
     first | (simp only [if_true, Bool.false_eq_true, if_false]; done) | rfl
theorem tab21_ok : TabOk Try.prog tab21 := tab_cons mixed tab20_ok (by decide) fun args v h => by
  unfold ans20 at h
  split at h
  · rename_i c0 c1 h0
    split at h
    · rename_i x0 x1 x2 x3 x4 x5 x6 x7 x8 x9 x10 x11 h1 h2
      injection h with h; subst h
      obtain rfl : c0 = #[.int .i64 x0, .int .i64 x1, .int .i64 x2, .int .i64 x3, .int .i64 x4, .int .i64 x5] := by rw [← Array.toArray_toList (xs := c0), h1]
      obtain rfl : c1 = #[.int .i64 x6, .int .i64 x7, .int .i64 x8, .int .i64 x9, .int .i64 x10, .int .i64 x11] := by rw [← Array.toArray_toList (xs := c1), h2]
      obtain rfl : args = #[.agg #[.int .i64 x0, .int .i64 x1, .int .i64 x2, .int .i64 x3, .int .i64 x4, .int .i64 x5], .agg #[.int .i64 x6, .int .i64 x7, .int .i64 x8, .int .i64 x9, .int .i64 x10, .int .i64 x11]] := by rw [← Array.toArray_toList (xs := args), h0]
      exact ⟨rfl, rfl, [(12, 0), (17, 0)], 300, by rw [tree20_eq]; exact tree20_res _ _ _ _ _ _ _ _ _ _ _ _⟩
    · cases h
  · cases h

/- gangsaw/box.Hull -/
def box_Hull_0 (x0 x1 x2 x3 x4 x5 x6 x7 x8 x9 x10 x11 : Int) : Int :=
  if box_Check_0 x0 x1 x2 x3 x4 x5 != 0 then (if box_Check_0 x0 x1 x2 x3 x4 x5 != 0 then (0) else (imin x0 x6)) else if box_Check_0 x6 x7 x8 x9 x10 x11 != 0 then (if box_Check_0 x6 x7 x8 x9 x10 x11 != 0 then (0) else (imin x0 x6)) else (imin x0 x6)
def box_Hull_1 (x0 x1 x2 x3 x4 x5 x6 x7 x8 x9 x10 x11 : Int) : Int :=
  if box_Check_0 x0 x1 x2 x3 x4 x5 != 0 then (if box_Check_0 x0 x1 x2 x3 x4 x5 != 0 then (0) else (imin x1 x7)) else if box_Check_0 x6 x7 x8 x9 x10 x11 != 0 then (if box_Check_0 x6 x7 x8 x9 x10 x11 != 0 then (0) else (imin x1 x7)) else (imin x1 x7)
def box_Hull_2 (x0 x1 x2 x3 x4 x5 x6 x7 x8 x9 x10 x11 : Int) : Int :=
  if box_Check_0 x0 x1 x2 x3 x4 x5 != 0 then (if box_Check_0 x0 x1 x2 x3 x4 x5 != 0 then (0) else (imin x2 x8)) else if box_Check_0 x6 x7 x8 x9 x10 x11 != 0 then (if box_Check_0 x6 x7 x8 x9 x10 x11 != 0 then (0) else (imin x2 x8)) else (imin x2 x8)
def box_Hull_3 (x0 x1 x2 x3 x4 x5 x6 x7 x8 x9 x10 x11 : Int) : Int :=
  if box_Check_0 x0 x1 x2 x3 x4 x5 != 0 then (if box_Check_0 x0 x1 x2 x3 x4 x5 != 0 then (0) else (imax x3 x9)) else if box_Check_0 x6 x7 x8 x9 x10 x11 != 0 then (if box_Check_0 x6 x7 x8 x9 x10 x11 != 0 then (0) else (imax x3 x9)) else (imax x3 x9)
def box_Hull_4 (x0 x1 x2 x3 x4 x5 x6 x7 x8 x9 x10 x11 : Int) : Int :=
  if box_Check_0 x0 x1 x2 x3 x4 x5 != 0 then (if box_Check_0 x0 x1 x2 x3 x4 x5 != 0 then (0) else (imax x4 x10)) else if box_Check_0 x6 x7 x8 x9 x10 x11 != 0 then (if box_Check_0 x6 x7 x8 x9 x10 x11 != 0 then (0) else (imax x4 x10)) else (imax x4 x10)
def box_Hull_5 (x0 x1 x2 x3 x4 x5 x6 x7 x8 x9 x10 x11 : Int) : Int :=
  if box_Check_0 x0 x1 x2 x3 x4 x5 != 0 then (if box_Check_0 x0 x1 x2 x3 x4 x5 != 0 then (0) else (imax x5 x11)) else if box_Check_0 x6 x7 x8 x9 x10 x11 != 0 then (if box_Check_0 x6 x7 x8 x9 x10 x11 != 0 then (0) else (imax x5 x11)) else (imax x5 x11)
def box_Hull_6 (x0 x1 x2 x3 x4 x5 x6 x7 x8 x9 x10 x11 : Int) : Int :=
  if box_Check_0 x0 x1 x2 x3 x4 x5 != 0 then (if box_Check_0 x0 x1 x2 x3 x4 x5 != 0 then (box_Check_0 x0 x1 x2 x3 x4 x5) else (0)) else if box_Check_0 x6 x7 x8 x9 x10 x11 != 0 then (if box_Check_0 x6 x7 x8 x9 x10 x11 != 0 then (box_Check_0 x6 x7 x8 x9 x10 x11) else (0)) else (0)
def ans21 : Ans := fun args => match args.toList with
  | [.agg c0, .agg c1] => match c0.toList, c1.toList with
    | [.int .i64 x0, .int .i64 x1, .int .i64 x2, .int .i64 x3, .int .i64 x4, .int .i64 x5], [.int .i64 x6, .int .i64 x7, .int .i64 x8, .int .i64 x9, .int .i64 x10, .int .i64 x11] => some (.tuple #[.agg #[.int .i64 (box_Hull_0 x0 x1 x2 x3 x4 x5 x6 x7 x8 x9 x10 x11), .int .i64 (box_Hull_1 x0 x1 x2 x3 x4 x5 x6 x7 x8 x9 x10 x11), .int .i64 (box_Hull_2 x0 x1 x2 x3 x4 x5 x6 x7 x8 x9 x10 x11), .int .i64 (box_Hull_3 x0 x1 x2 x3 x4 x5 x6 x7 x8 x9 x10 x11), .int .i64 (box_Hull_4 x0 x1 x2 x3 x4 x5 x6 x7 x8 x9 x10 x11), .int .i64 (box_Hull_5 x0 x1 x2 x3 x4 x5 x6 x7 x8 x9 x10 x11)], .int .i64 (box_Hull_6 x0 x1 x2 x3 x4 x5 x6 x7 x8 x9 x10 x11)])
    | _, _ => none
  | _ => none
def tab22 : Tab := (21, .ans ans21) :: tab21
def tree21 (x0 x1 x2 x3 x4 x5 x6 x7 x8 x9 x10 x11 : Int) : Tr Value :=
  .node 15 (box_Check_0 x0 x1 x2 x3 x4 x5 != 0)
  (.node 12 (box_Check_0 x0 x1 x2 x3 x4 x5 != 0)
   (.leaf (some (.tuple #[.agg #[.int .i64 (0), .int .i64 (0), .int .i64 (0), .int .i64 (0), .int .i64 (0), .int .i64 (0)], .int .i64 (box_Check_0 x0 x1 x2 x3 x4 x5)])))
   (.leaf (some (.tuple #[.agg #[.int .i64 (imin x0 x6), .int .i64 (imin x1 x7), .int .i64 (imin x2 x8), .int .i64 (imax x3 x9), .int .i64 (imax x4 x10), .int .i64 (imax x5 x11)], .int .i64 (0)]))))
  (.node 15 (box_Check_0 x6 x7 x8 x9 x10 x11 != 0)
   (.node 12 (box_Check_0 x6 x7 x8 x9 x10 x11 != 0)
    (.leaf (some (.tuple #[.agg #[.int .i64 (0), .int .i64 (0), .int .i64 (0), .int .i64 (0), .int .i64 (0), .int .i64 (0)], .int .i64 (box_Check_0 x6 x7 x8 x9 x10 x11)])))
    (.leaf (some (.tuple #[.agg #[.int .i64 (imin x0 x6), .int .i64 (imin x1 x7), .int .i64 (imin x2 x8), .int .i64 (imax x3 x9), .int .i64 (imax x4 x10), .int .i64 (imax x5 x11)], .int .i64 (0)]))))
   (.node 12 (false)
    (.leaf (some (.tuple #[.agg #[.int .i64 (0), .int .i64 (0), .int .i64 (0), .int .i64 (0), .int .i64 (0), .int .i64 (0)], .int .i64 (0)])))
    (.leaf (some (.tuple #[.agg #[.int .i64 (imin x0 x6), .int .i64 (imin x1 x7), .int .i64 (imin x2 x8), .int .i64 (imax x3 x9), .int .i64 (imax x4 x10), .int .i64 (imax x5 x11)], .int .i64 (0)])))))
theorem tree21_eq (x0 x1 x2 x3 x4 x5 x6 x7 x8 x9 x10 x11 : Int) : vals (evFnT Try.prog (tb Try.prog tab21) (tbT Try.prog tab21) [(12, 0)] 300 21 #[.agg #[.int .i64 x0, .int .i64 x1, .int .i64 x2, .int .i64 x3, .int .i64 x4, .int .i64 x5], .agg #[.int .i64 x6, .int .i64 x7, .int .i64 x8, .int .i64 x9, .int .i64 x10, .int .i64 x11]] []) = tree21 x0 x1 x2 x3 x4 x5 x6 x7 x8 x9 x10 x11 := by kernel_rfl
theorem tree21_res (x0 x1 x2 x3 x4 x5 x6 x7 x8 x9 x10 x11 : Int) : (tree21 x0 x1 x2 x3 x4 x5 x6 x7 x8 x9 x10 x11).res = some (.tuple #[.agg #[.int .i64 (box_Hull_0 x0 x1 x2 x3 x4 x5 x6 x7 x8 x9 x10 x11), .int .i64 (box_Hull_1 x0 x1 x2 x3 x4 x5 x6 x7 x8 x9 x10 x11), .int .i64 (box_Hull_2 x0 x1 x2 x3 x4 x5 x6 x7 x8 x9 x10 x11), .int .i64 (box_Hull_3 x0 x1 x2 x3 x4 x5 x6 x7 x8 x9 x10 x11), .int .i64 (box_Hull_4 x0 x1 x2 x3 x4 x5 x6 x7 x8 x9 x10 x11), .int .i64 (box_Hull_5 x0 x1 x2 x3 x4 x5 x6 x7 x8 x9 x10 x11)], .int .i64 (box_Hull_6 x0 x1 x2 x3 x4 x5 x6 x7 x8 x9 x10 x11)]) := by
  unfold tree21 box_Hull_0 box_Hull_1 box_Hull_2 box_Hull_3 box_Hull_4 box_Hull_5 box_Hull_6
  simp only [Tr.res]
  generalize (box_Check_0 x0 x1 x2 x3 x4 x5 != 0) = b0
  generalize (box_Check_0 x6 x7 x8 x9 x10 x11 != 0) = b1
  cases b0 with
  | true =>
   first | (simp only [if_true, Bool.false_eq_true, if_false]; done) | rfl
  | false =>
   cases b1 with
   | true =>
    first | (simp only [if_true, Bool.false_eq_true, if_false]; done) | rfl
   | false =>
    first | (simp only [if_true, Bool.false_eq_true, if_false]; done) | rfl
theorem tab22_ok : TabOk Try.prog tab22 := tab_cons mixed tab21_ok (by decide) fun args v h => by
  unfold ans21 at h
  split at h
  · rename_i c0 c1 h0
    split at h
    · rename_i x0 x1 x2 x3 x4 x5 x6 x7 x8 x9 x10 x11 h1 h2
      injection h with h; subst h
      obtain rfl : c0 = #[.int .i64 x0, .int .i64 x1, .int .i64 x2, .int .i64 x3, .int .i64 x4, .int .i64 x5] := by rw [← Array.toArray_toList (xs := c0), h1]
      obtain rfl : c1 = #[.int .i64 x6, .int .i64 x7, .int .i64 x8, .int .i64 x9, .int .i64 x10, .int .i64 x11] := by rw [← Array.toArray_toList (xs := c1), h2]
      obtain rfl : args = #[.agg #[.int .i64 x0, .int .i64 x1, .int .i64 x2, .int .i64 x3, .int .i64 x4, .int .i64 x5], .agg #[.int .i64 x6, .int .i64 x7, .int .i64 x8, .int .i64 x9, .int .i64 x10, .int .i64 x11]] := by rw [← Array.toArray_toList (xs := args), h0]
      exact ⟨rfl, rfl, [(12, 0)], 300, by rw [tree21_eq]; exact tree21_res _ _ _ _ _ _ _ _ _ _ _ _⟩
    · cases h
  · cases h

/- gangsaw/gangsawlaw06.both -/
def law06_both_0 (x0 x1 x2 x3 x4 x5 x6 x7 x8 x9 x10 x11 : Int) : Int :=
  if ref06_Check_0 x0 x1 x2 x3 x4 x5 != 0 then (ref06_Check_0 x0 x1 x2 x3 x4 x5) else (ref06_Check_0 x6 x7 x8 x9 x10 x11)
def ans22 : Ans := fun args => match args.toList with
  | [.agg c0, .agg c1] => match c0.toList, c1.toList with
    | [.int .i64 x0, .int .i64 x1, .int .i64 x2, .int .i64 x3, .int .i64 x4, .int .i64 x5], [.int .i64 x6, .int .i64 x7, .int .i64 x8, .int .i64 x9, .int .i64 x10, .int .i64 x11] => some (.int .i64 (law06_both_0 x0 x1 x2 x3 x4 x5 x6 x7 x8 x9 x10 x11))
    | _, _ => none
  | _ => none
def tab23 : Tab := (22, .ans ans22) :: tab22
def tree22 (x0 x1 x2 x3 x4 x5 x6 x7 x8 x9 x10 x11 : Int) : Tr Value :=
  .node 9 (ref06_Check_0 x0 x1 x2 x3 x4 x5 != 0)
  (.leaf (some (.int .i64 (ref06_Check_0 x0 x1 x2 x3 x4 x5))))
  (.leaf (some (.int .i64 (ref06_Check_0 x6 x7 x8 x9 x10 x11))))
theorem tree22_eq (x0 x1 x2 x3 x4 x5 x6 x7 x8 x9 x10 x11 : Int) : vals (evFnT Try.prog (tb Try.prog tab22) (tbT Try.prog tab22) [(9, 0)] 300 22 #[.agg #[.int .i64 x0, .int .i64 x1, .int .i64 x2, .int .i64 x3, .int .i64 x4, .int .i64 x5], .agg #[.int .i64 x6, .int .i64 x7, .int .i64 x8, .int .i64 x9, .int .i64 x10, .int .i64 x11]] []) = tree22 x0 x1 x2 x3 x4 x5 x6 x7 x8 x9 x10 x11 := by kernel_rfl
theorem tree22_res (x0 x1 x2 x3 x4 x5 x6 x7 x8 x9 x10 x11 : Int) : (tree22 x0 x1 x2 x3 x4 x5 x6 x7 x8 x9 x10 x11).res = some (.int .i64 (law06_both_0 x0 x1 x2 x3 x4 x5 x6 x7 x8 x9 x10 x11)) := by
  unfold tree22 law06_both_0
  simp only [Tr.res]
  generalize (ref06_Check_0 x0 x1 x2 x3 x4 x5 != 0) = b0
  cases b0 with
  | true =>
   first | (simp only [if_true, Bool.false_eq_true, if_false]; done) | rfl
  | false =>
   first | (simp only [if_true, Bool.false_eq_true, if_false]; done) | rfl
theorem tab23_ok : TabOk Try.prog tab23 := tab_cons mixed tab22_ok (by decide) fun args v h => by
  unfold ans22 at h
  split at h
  · rename_i c0 c1 h0
    split at h
    · rename_i x0 x1 x2 x3 x4 x5 x6 x7 x8 x9 x10 x11 h1 h2
      injection h with h; subst h
      obtain rfl : c0 = #[.int .i64 x0, .int .i64 x1, .int .i64 x2, .int .i64 x3, .int .i64 x4, .int .i64 x5] := by rw [← Array.toArray_toList (xs := c0), h1]
      obtain rfl : c1 = #[.int .i64 x6, .int .i64 x7, .int .i64 x8, .int .i64 x9, .int .i64 x10, .int .i64 x11] := by rw [← Array.toArray_toList (xs := c1), h2]
      obtain rfl : args = #[.agg #[.int .i64 x0, .int .i64 x1, .int .i64 x2, .int .i64 x3, .int .i64 x4, .int .i64 x5], .agg #[.int .i64 x6, .int .i64 x7, .int .i64 x8, .int .i64 x9, .int .i64 x10, .int .i64 x11]] := by rw [← Array.toArray_toList (xs := args), h0]
      exact ⟨rfl, rfl, [(9, 0)], 300, by rw [tree22_eq]; exact tree22_res _ _ _ _ _ _ _ _ _ _ _ _⟩
    · cases h
  · cases h

/- gangsaw/gangsawref06.common -/
def ans58 : Ans := fun args => match args.toList with
  | [.agg c0, .agg c1] => match c0.toList, c1.toList with
    | [.int .i64 x0, .int .i64 x1, .int .i64 x2, .int .i64 x3, .int .i64 x4, .int .i64 x5], [.int .i64 x6, .int .i64 x7, .int .i64 x8, .int .i64 x9, .int .i64 x10, .int .i64 x11] => some (.agg #[.int .i64 (imax x0 x6), .int .i64 (imax x1 x7), .int .i64 (imax x2 x8), .int .i64 (imin x3 x9), .int .i64 (imin x4 x10), .int .i64 (imin x5 x11)])
    | _, _ => none
  | _ => none
def tab24 : Tab := (58, .ans ans58) :: tab23
def tree58 (x0 x1 x2 x3 x4 x5 x6 x7 x8 x9 x10 x11 : Int) : Tr Value :=
  .leaf (some (.agg #[.int .i64 (imax x0 x6), .int .i64 (imax x1 x7), .int .i64 (imax x2 x8), .int .i64 (imin x3 x9), .int .i64 (imin x4 x10), .int .i64 (imin x5 x11)]))
theorem tree58_eq (x0 x1 x2 x3 x4 x5 x6 x7 x8 x9 x10 x11 : Int) : vals (evFnT Try.prog (tb Try.prog tab23) (tbT Try.prog tab23) [] 300 58 #[.agg #[.int .i64 x0, .int .i64 x1, .int .i64 x2, .int .i64 x3, .int .i64 x4, .int .i64 x5], .agg #[.int .i64 x6, .int .i64 x7, .int .i64 x8, .int .i64 x9, .int .i64 x10, .int .i64 x11]] []) = tree58 x0 x1 x2 x3 x4 x5 x6 x7 x8 x9 x10 x11 := by kernel_rfl
theorem tree58_res (x0 x1 x2 x3 x4 x5 x6 x7 x8 x9 x10 x11 : Int) : (tree58 x0 x1 x2 x3 x4 x5 x6 x7 x8 x9 x10 x11).res = some (.agg #[.int .i64 (imax x0 x6), .int .i64 (imax x1 x7), .int .i64 (imax x2 x8), .int .i64 (imin x3 x9), .int .i64 (imin x4 x10), .int .i64 (imin x5 x11)]) := by
  rfl
theorem tab24_ok : TabOk Try.prog tab24 := tab_cons mixed tab23_ok (by decide) fun args v h => by
  unfold ans58 at h
  split at h
  · rename_i c0 c1 h0
    split at h
    · rename_i x0 x1 x2 x3 x4 x5 x6 x7 x8 x9 x10 x11 h1 h2
      injection h with h; subst h
      obtain rfl : c0 = #[.int .i64 x0, .int .i64 x1, .int .i64 x2, .int .i64 x3, .int .i64 x4, .int .i64 x5] := by rw [← Array.toArray_toList (xs := c0), h1]
      obtain rfl : c1 = #[.int .i64 x6, .int .i64 x7, .int .i64 x8, .int .i64 x9, .int .i64 x10, .int .i64 x11] := by rw [← Array.toArray_toList (xs := c1), h2]
      obtain rfl : args = #[.agg #[.int .i64 x0, .int .i64 x1, .int .i64 x2, .int .i64 x3, .int .i64 x4, .int .i64 x5], .agg #[.int .i64 x6, .int .i64 x7, .int .i64 x8, .int .i64 x9, .int .i64 x10, .int .i64 x11]] := by rw [← Array.toArray_toList (xs := args), h0]
      exact ⟨rfl, rfl, [], 300, by rw [tree58_eq]; exact tree58_res _ _ _ _ _ _ _ _ _ _ _ _⟩
    · cases h
  · cases h

/- gangsaw/gangsawref06.full -/
def ref06_full_0 (x0 x1 x2 x3 x4 x5 : Int) : Bool :=
  if Decidable.decide (x0 < x3) then (if Decidable.decide (x1 < x4) then (if Decidable.decide (x2 < x5) then (Bool.true) else (Bool.false)) else (Bool.false)) else (Bool.false)
def ans59 : Ans := fun args => match args.toList with
  | [.agg c0] => match c0.toList with
    | [.int .i64 x0, .int .i64 x1, .int .i64 x2, .int .i64 x3, .int .i64 x4, .int .i64 x5] => some (.bool (ref06_full_0 x0 x1 x2 x3 x4 x5))
    | _ => none
  | _ => none
def tab25 : Tab := (59, .ans ans59) :: tab24
def tree59 (x0 x1 x2 x3 x4 x5 : Int) : Tr Value :=
  .node 9 (Decidable.decide (x0 < x3))
  (.node 17 (Decidable.decide (x1 < x4))
   (.node 26 (Decidable.decide (x2 < x5))
    (.leaf (some (.bool (Bool.true))))
    (.leaf (some (.bool (Bool.false)))))
   (.leaf (some (.bool (Bool.false)))))
  (.leaf (some (.bool (Bool.false))))
theorem tree59_eq (x0 x1 x2 x3 x4 x5 : Int) : vals (evFnT Try.prog (tb Try.prog tab24) (tbT Try.prog tab24) [(9, 0), (17, 0), (26, 0)] 300 59 #[.agg #[.int .i64 x0, .int .i64 x1, .int .i64 x2, .int .i64 x3, .int .i64 x4, .int .i64 x5]] []) = tree59 x0 x1 x2 x3 x4 x5 := by kernel_rfl
theorem tree59_res (x0 x1 x2 x3 x4 x5 : Int) : (tree59 x0 x1 x2 x3 x4 x5).res = some (.bool (ref06_full_0 x0 x1 x2 x3 x4 x5)) := by
  unfold tree59 ref06_full_0
  simp only [Tr.res]
  generalize (Decidable.decide (x0 < x3)) = b0
  generalize (Decidable.decide (x1 < x4)) = b1
  generalize (Decidable.decide (x2 < x5)) = b2
  cases b0 with
  | true =>
   cases b1 with
   | true =>
    cases b2 with
    | true =>
     first | (simp only [if_true, Bool.false_eq_true, if_false]; done) | rfl
    | false =>
     first | (simp only [if_true, Bool.false_eq_true, if_false]; done) | rfl
   | false =>
    first | (simp only [if_true, Bool.false_eq_true, if_false]; done) | rfl
  | false =>
   first | (simp only [if_true, Bool.false_eq_true, if_false]; done) | rfl
theorem tab25_ok : TabOk Try.prog tab25 := tab_cons mixed tab24_ok (by decide) fun args v h => by
  unfold ans59 at h
  split at h
  · rename_i c0 h0
    split at h
    · rename_i x0 x1 x2 x3 x4 x5 h1
      injection h with h; subst h
      obtain rfl : c0 = #[.int .i64 x0, .int .i64 x1, .int .i64 x2, .int .i64 x3, .int .i64 x4, .int .i64 x5] := by rw [← Array.toArray_toList (xs := c0), h1]
      obtain rfl : args = #[.agg #[.int .i64 x0, .int .i64 x1, .int .i64 x2, .int .i64 x3, .int .i64 x4, .int .i64 x5]] := by rw [← Array.toArray_toList (xs := args), h0]
      exact ⟨rfl, rfl, [(9, 0), (17, 0), (26, 0)], 300, by rw [tree59_eq]; exact tree59_res _ _ _ _ _ _⟩
    · cases h
  · cases h

/- gangsaw/gangsawref06.Intersect -/
def ref06_Intersect_0 (x0 x1 x2 x3 x4 x5 x6 x7 x8 x9 x10 x11 : Int) : Int :=
  if ref06_full_0 (imax x0 x6) (imax x1 x7) (imax x2 x8) (imin x3 x9) (imin x4 x10) (imin x5 x11) then (imax x0 x6) else (0)
def ref06_Intersect_1 (x0 x1 x2 x3 x4 x5 x6 x7 x8 x9 x10 x11 : Int) : Int :=
  if ref06_full_0 (imax x0 x6) (imax x1 x7) (imax x2 x8) (imin x3 x9) (imin x4 x10) (imin x5 x11) then (imax x1 x7) else (0)
def ref06_Intersect_2 (x0 x1 x2 x3 x4 x5 x6 x7 x8 x9 x10 x11 : Int) : Int :=
  if ref06_full_0 (imax x0 x6) (imax x1 x7) (imax x2 x8) (imin x3 x9) (imin x4 x10) (imin x5 x11) then (imax x2 x8) else (0)
def ref06_Intersect_3 (x0 x1 x2 x3 x4 x5 x6 x7 x8 x9 x10 x11 : Int) : Int :=
  if ref06_full_0 (imax x0 x6) (imax x1 x7) (imax x2 x8) (imin x3 x9) (imin x4 x10) (imin x5 x11) then (imin x3 x9) else (0)
def ref06_Intersect_4 (x0 x1 x2 x3 x4 x5 x6 x7 x8 x9 x10 x11 : Int) : Int :=
  if ref06_full_0 (imax x0 x6) (imax x1 x7) (imax x2 x8) (imin x3 x9) (imin x4 x10) (imin x5 x11) then (imin x4 x10) else (0)
def ref06_Intersect_5 (x0 x1 x2 x3 x4 x5 x6 x7 x8 x9 x10 x11 : Int) : Int :=
  if ref06_full_0 (imax x0 x6) (imax x1 x7) (imax x2 x8) (imin x3 x9) (imin x4 x10) (imin x5 x11) then (imin x5 x11) else (0)
def ref06_Intersect_6 (x0 x1 x2 x3 x4 x5 x6 x7 x8 x9 x10 x11 : Int) : Bool :=
  if ref06_full_0 (imax x0 x6) (imax x1 x7) (imax x2 x8) (imin x3 x9) (imin x4 x10) (imin x5 x11) then (Bool.true) else (Bool.false)
def ans23 : Ans := fun args => match args.toList with
  | [.agg c0, .agg c1] => match c0.toList, c1.toList with
    | [.int .i64 x0, .int .i64 x1, .int .i64 x2, .int .i64 x3, .int .i64 x4, .int .i64 x5], [.int .i64 x6, .int .i64 x7, .int .i64 x8, .int .i64 x9, .int .i64 x10, .int .i64 x11] => some (.tuple #[.agg #[.int .i64 (ref06_Intersect_0 x0 x1 x2 x3 x4 x5 x6 x7 x8 x9 x10 x11), .int .i64 (ref06_Intersect_1 x0 x1 x2 x3 x4 x5 x6 x7 x8 x9 x10 x11), .int .i64 (ref06_Intersect_2 x0 x1 x2 x3 x4 x5 x6 x7 x8 x9 x10 x11), .int .i64 (ref06_Intersect_3 x0 x1 x2 x3 x4 x5 x6 x7 x8 x9 x10 x11), .int .i64 (ref06_Intersect_4 x0 x1 x2 x3 x4 x5 x6 x7 x8 x9 x10 x11), .int .i64 (ref06_Intersect_5 x0 x1 x2 x3 x4 x5 x6 x7 x8 x9 x10 x11)], .bool (ref06_Intersect_6 x0 x1 x2 x3 x4 x5 x6 x7 x8 x9 x10 x11)])
    | _, _ => none
  | _ => none
def tab26 : Tab := (23, .ans ans23) :: tab25
def tree23 (x0 x1 x2 x3 x4 x5 x6 x7 x8 x9 x10 x11 : Int) : Tr Value :=
  .node 11 (ref06_full_0 (imax x0 x6) (imax x1 x7) (imax x2 x8) (imin x3 x9) (imin x4 x10) (imin x5 x11))
  (.leaf (some (.tuple #[.agg #[.int .i64 (imax x0 x6), .int .i64 (imax x1 x7), .int .i64 (imax x2 x8), .int .i64 (imin x3 x9), .int .i64 (imin x4 x10), .int .i64 (imin x5 x11)], .bool (Bool.true)])))
  (.leaf (some (.tuple #[.agg #[.int .i64 (0), .int .i64 (0), .int .i64 (0), .int .i64 (0), .int .i64 (0), .int .i64 (0)], .bool (Bool.false)])))
theorem tree23_eq (x0 x1 x2 x3 x4 x5 x6 x7 x8 x9 x10 x11 : Int) : vals (evFnT Try.prog (tb Try.prog tab25) (tbT Try.prog tab25) [(11, 0)] 300 23 #[.agg #[.int .i64 x0, .int .i64 x1, .int .i64 x2, .int .i64 x3, .int .i64 x4, .int .i64 x5], .agg #[.int .i64 x6, .int .i64 x7, .int .i64 x8, .int .i64 x9, .int .i64 x10, .int .i64 x11]] []) = tree23 x0 x1 x2 x3 x4 x5 x6 x7 x8 x9 x10 x11 := by kernel_rfl
theorem tree23_res (x0 x1 x2 x3 x4 x5 x6 x7 x8 x9 x10 x11 : Int) : (tree23 x0 x1 x2 x3 x4 x5 x6 x7 x8 x9 x10 x11).res = some (.tuple #[.agg #[.int .i64 (ref06_Intersect_0 x0 x1 x2 x3 x4 x5 x6 x7 x8 x9 x10 x11), .int .i64 (ref06_Intersect_1 x0 x1 x2 x3 x4 x5 x6 x7 x8 x9 x10 x11), .int .i64 (ref06_Intersect_2 x0 x1 x2 x3 x4 x5 x6 x7 x8 x9 x10 x11), .int .i64 (ref06_Intersect_3 x0 x1 x2 x3 x4 x5 x6 x7 x8 x9 x10 x11), .int .i64 (ref06_Intersect_4 x0 x1 x2 x3 x4 x5 x6 x7 x8 x9 x10 x11), .int .i64 (ref06_Intersect_5 x0 x1 x2 x3 x4 x5 x6 x7 x8 x9 x10 x11)], .bool (ref06_Intersect_6 x0 x1 x2 x3 x4 x5 x6 x7 x8 x9 x10 x11)]) := by
  unfold tree23 ref06_Intersect_0 ref06_Intersect_1 ref06_Intersect_2 ref06_Intersect_3 ref06_Intersect_4 ref06_Intersect_5 ref06_Intersect_6
  simp only [Tr.res]
  generalize (ref06_full_0 (imax x0 x6) (imax x1 x7) (imax x2 x8) (imin x3 x9) (imin x4 x10) (imin x5 x11)) = b0
  cases b0 with
  | true =>
   first | (simp only [if_true, Bool.false_eq_true, if_false]; done) | rfl
  | false =>
   first | (simp only [if_true, Bool.false_eq_true, if_false]; done) | rfl
theorem tab26_ok : TabOk Try.prog tab26 := tab_cons mixed tab25_ok (by decide) fun args v h => by
  unfold ans23 at h
  split at h
  · rename_i c0 c1 h0
    split at h
    · rename_i x0 x1 x2 x3 x4 x5 x6 x7 x8 x9 x10 x11 h1 h2
      injection h with h; subst h
      obtain rfl : c0 = #[.int .i64 x0, .int .i64 x1, .int .i64 x2, .int .i64 x3, .int .i64 x4, .int .i64 x5] := by rw [← Array.toArray_toList (xs := c0), h1]
      obtain rfl : c1 = #[.int .i64 x6, .int .i64 x7, .int .i64 x8, .int .i64 x9, .int .i64 x10, .int .i64 x11] := by rw [← Array.toArray_toList (xs := c1), h2]
      obtain rfl : args = #[.agg #[.int .i64 x0, .int .i64 x1, .int .i64 x2, .int .i64 x3, .int .i64 x4, .int .i64 x5], .agg #[.int .i64 x6, .int .i64 x7, .int .i64 x8, .int .i64 x9, .int .i64 x10, .int .i64 x11]] := by rw [← Array.toArray_toList (xs := args), h0]
      exact ⟨rfl, rfl, [(11, 0)], 300, by rw [tree23_eq]; exact tree23_res _ _ _ _ _ _ _ _ _ _ _ _⟩
    · cases h
  · cases h

/- gangsaw/gangsawref06.Hull -/
def ans24 : Ans := fun args => match args.toList with
  | [.agg c0, .agg c1] => match c0.toList, c1.toList with
    | [.int .i64 x0, .int .i64 x1, .int .i64 x2, .int .i64 x3, .int .i64 x4, .int .i64 x5], [.int .i64 x6, .int .i64 x7, .int .i64 x8, .int .i64 x9, .int .i64 x10, .int .i64 x11] => some (.agg #[.int .i64 (imin x0 x6), .int .i64 (imin x1 x7), .int .i64 (imin x2 x8), .int .i64 (imax x3 x9), .int .i64 (imax x4 x10), .int .i64 (imax x5 x11)])
    | _, _ => none
  | _ => none
def tab27 : Tab := (24, .ans ans24) :: tab26
def tree24 (x0 x1 x2 x3 x4 x5 x6 x7 x8 x9 x10 x11 : Int) : Tr Value :=
  .leaf (some (.agg #[.int .i64 (imin x0 x6), .int .i64 (imin x1 x7), .int .i64 (imin x2 x8), .int .i64 (imax x3 x9), .int .i64 (imax x4 x10), .int .i64 (imax x5 x11)]))
theorem tree24_eq (x0 x1 x2 x3 x4 x5 x6 x7 x8 x9 x10 x11 : Int) : vals (evFnT Try.prog (tb Try.prog tab26) (tbT Try.prog tab26) [] 300 24 #[.agg #[.int .i64 x0, .int .i64 x1, .int .i64 x2, .int .i64 x3, .int .i64 x4, .int .i64 x5], .agg #[.int .i64 x6, .int .i64 x7, .int .i64 x8, .int .i64 x9, .int .i64 x10, .int .i64 x11]] []) = tree24 x0 x1 x2 x3 x4 x5 x6 x7 x8 x9 x10 x11 := by kernel_rfl
theorem tree24_res (x0 x1 x2 x3 x4 x5 x6 x7 x8 x9 x10 x11 : Int) : (tree24 x0 x1 x2 x3 x4 x5 x6 x7 x8 x9 x10 x11).res = some (.agg #[.int .i64 (imin x0 x6), .int .i64 (imin x1 x7), .int .i64 (imin x2 x8), .int .i64 (imax x3 x9), .int .i64 (imax x4 x10), .int .i64 (imax x5 x11)]) := by
  rfl
theorem tab27_ok : TabOk Try.prog tab27 := tab_cons mixed tab26_ok (by decide) fun args v h => by
  unfold ans24 at h
  split at h
  · rename_i c0 c1 h0
    split at h
    · rename_i x0 x1 x2 x3 x4 x5 x6 x7 x8 x9 x10 x11 h1 h2
      injection h with h; subst h
      obtain rfl : c0 = #[.int .i64 x0, .int .i64 x1, .int .i64 x2, .int .i64 x3, .int .i64 x4, .int .i64 x5] := by rw [← Array.toArray_toList (xs := c0), h1]
      obtain rfl : c1 = #[.int .i64 x6, .int .i64 x7, .int .i64 x8, .int .i64 x9, .int .i64 x10, .int .i64 x11] := by rw [← Array.toArray_toList (xs := c1), h2]
      obtain rfl : args = #[.agg #[.int .i64 x0, .int .i64 x1, .int .i64 x2, .int .i64 x3, .int .i64 x4, .int .i64 x5], .agg #[.int .i64 x6, .int .i64 x7, .int .i64 x8, .int .i64 x9, .int .i64 x10, .int .i64 x11]] := by rw [← Array.toArray_toList (xs := args), h0]
      exact ⟨rfl, rfl, [], 300, by rw [tree24_eq]; exact tree24_res _ _ _ _ _ _ _ _ _ _ _ _⟩
    · cases h
  · cases h

/- gangsaw/gangsawlaw06.BoxMakes -/
def law06_BoxMakes_0 (x0 x1 x2 x3 x4 x5 x6 x7 x8 x9 x10 x11 x12 x13 x14 : Int) : Bool :=
  if box_Check_0 x0 x1 x2 x3 x4 x5 != ref06_Check_0 x0 x1 x2 x3 x4 x5 then (Bool.false) else if box_Volume_1 x0 x1 x2 x3 x4 x5 != ref06_Check_0 x0 x1 x2 x3 x4 x5 then (Bool.false) else if !(IntKind.i64.wrap (x3 - x0) == IntKind.i64.wrap (x3 - x0) && (IntKind.i64.wrap (x4 - x1) == IntKind.i64.wrap (x4 - x1) && (IntKind.i64.wrap (x5 - x2) == IntKind.i64.wrap (x5 - x2) && Bool.true))) then (Bool.false) else if ref06_Check_0 x0 x1 x2 x3 x4 x5 != 0 then (if box_Volume_0 x0 x1 x2 x3 x4 x5 != 0 then (Bool.false) else if box_Move_6 x0 x1 x2 x3 x4 x5 x12 x13 x14 != ref06_Check_0 x0 x1 x2 x3 x4 x5 then (Bool.false) else if !(box_Move_0 x0 x1 x2 x3 x4 x5 x12 x13 x14 == 0 && (box_Move_1 x0 x1 x2 x3 x4 x5 x12 x13 x14 == 0 && (box_Move_2 x0 x1 x2 x3 x4 x5 x12 x13 x14 == 0 && Bool.true)) && (box_Move_3 x0 x1 x2 x3 x4 x5 x12 x13 x14 == 0 && (box_Move_4 x0 x1 x2 x3 x4 x5 x12 x13 x14 == 0 && (box_Move_5 x0 x1 x2 x3 x4 x5 x12 x13 x14 == 0 && Bool.true)) && Bool.true)) then (Bool.false) else if law06_both_0 x0 x1 x2 x3 x4 x5 x6 x7 x8 x9 x10 x11 != 0 then (if box_Intersect_6 x0 x1 x2 x3 x4 x5 x6 x7 x8 x9 x10 x11 == law06_both_0 x0 x1 x2 x3 x4 x5 x6 x7 x8 x9 x10 x11 then (if box_Hull_6 x0 x1 x2 x3 x4 x5 x6 x7 x8 x9 x10 x11 == law06_both_0 x0 x1 x2 x3 x4 x5 x6 x7 x8 x9 x10 x11 then (if box_Intersect_0 x0 x1 x2 x3 x4 x5 x6 x7 x8 x9 x10 x11 == 0 && (box_Intersect_1 x0 x1 x2 x3 x4 x5 x6 x7 x8 x9 x10 x11 == 0 && (box_Intersect_2 x0 x1 x2 x3 x4 x5 x6 x7 x8 x9 x10 x11 == 0 && Bool.true)) && (box_Intersect_3 x0 x1 x2 x3 x4 x5 x6 x7 x8 x9 x10 x11 == 0 && (box_Intersect_4 x0 x1 x2 x3 x4 x5 x6 x7 x8 x9 x10 x11 == 0 && (box_Intersect_5 x0 x1 x2 x3 x4 x5 x6 x7 x8 x9 x10 x11 == 0 && Bool.true)) && Bool.true) then (if box_Hull_0 x0 x1 x2 x3 x4 x5 x6 x7 x8 x9 x10 x11 == 0 && (box_Hull_1 x0 x1 x2 x3 x4 x5 x6 x7 x8 x9 x10 x11 == 0 && (box_Hull_2 x0 x1 x2 x3 x4 x5 x6 x7 x8 x9 x10 x11 == 0 && Bool.true)) && (box_Hull_3 x0 x1 x2 x3 x4 x5 x6 x7 x8 x9 x10 x11 == 0 && (box_Hull_4 x0 x1 x2 x3 x4 x5 x6 x7 x8 x9 x10 x11 == 0 && (box_Hull_5 x0 x1 x2 x3 x4 x5 x6 x7 x8 x9 x10 x11 == 0 && Bool.true)) && Bool.true) then (Bool.true) else (Bool.false)) else (Bool.false)) else (Bool.false)) else (Bool.false)) else if ref06_Intersect_6 x0 x1 x2 x3 x4 x5 x6 x7 x8 x9 x10 x11 then (if box_Intersect_6 x0 x1 x2 x3 x4 x5 x6 x7 x8 x9 x10 x11 == 0 then (if box_Intersect_0 x0 x1 x2 x3 x4 x5 x6 x7 x8 x9 x10 x11 == ref06_Intersect_0 x0 x1 x2 x3 x4 x5 x6 x7 x8 x9 x10 x11 && (box_Intersect_1 x0 x1 x2 x3 x4 x5 x6 x7 x8 x9 x10 x11 == ref06_Intersect_1 x0 x1 x2 x3 x4 x5 x6 x7 x8 x9 x10 x11 && (box_Intersect_2 x0 x1 x2 x3 x4 x5 x6 x7 x8 x9 x10 x11 == ref06_Intersect_2 x0 x1 x2 x3 x4 x5 x6 x7 x8 x9 x10 x11 && Bool.true)) && (box_Intersect_3 x0 x1 x2 x3 x4 x5 x6 x7 x8 x9 x10 x11 == ref06_Intersect_3 x0 x1 x2 x3 x4 x5 x6 x7 x8 x9 x10 x11 && (box_Intersect_4 x0 x1 x2 x3 x4 x5 x6 x7 x8 x9 x10 x11 == ref06_Intersect_4 x0 x1 x2 x3 x4 x5 x6 x7 x8 x9 x10 x11 && (box_Intersect_5 x0 x1 x2 x3 x4 x5 x6 x7 x8 x9 x10 x11 == ref06_Intersect_5 x0 x1 x2 x3 x4 x5 x6 x7 x8 x9 x10 x11 && Bool.true)) && Bool.true) then (if box_Hull_6 x0 x1 x2 x3 x4 x5 x6 x7 x8 x9 x10 x11 == 0 then (if box_Hull_0 x0 x1 x2 x3 x4 x5 x6 x7 x8 x9 x10 x11 == imin x0 x6 && (box_Hull_1 x0 x1 x2 x3 x4 x5 x6 x7 x8 x9 x10 x11 == imin x1 x7 && (box_Hull_2 x0 x1 x2 x3 x4 x5 x6 x7 x8 x9 x10 x11 == imin x2 x8 && Bool.true)) && (box_Hull_3 x0 x1 x2 x3 x4 x5 x6 x7 x8 x9 x10 x11 == imax x3 x9 && (box_Hull_4 x0 x1 x2 x3 x4 x5 x6 x7 x8 x9 x10 x11 == imax x4 x10 && (box_Hull_5 x0 x1 x2 x3 x4 x5 x6 x7 x8 x9 x10 x11 == imax x5 x11 && Bool.true)) && Bool.true) then (Bool.true) else (Bool.false)) else (Bool.false)) else (Bool.false)) else (Bool.false)) else if box_Intersect_6 x0 x1 x2 x3 x4 x5 x6 x7 x8 x9 x10 x11 == 0 then (Bool.false) else if box_Intersect_6 x0 x1 x2 x3 x4 x5 x6 x7 x8 x9 x10 x11 == 9 then (if box_Intersect_0 x0 x1 x2 x3 x4 x5 x6 x7 x8 x9 x10 x11 == ref06_Intersect_0 x0 x1 x2 x3 x4 x5 x6 x7 x8 x9 x10 x11 && (box_Intersect_1 x0 x1 x2 x3 x4 x5 x6 x7 x8 x9 x10 x11 == ref06_Intersect_1 x0 x1 x2 x3 x4 x5 x6 x7 x8 x9 x10 x11 && (box_Intersect_2 x0 x1 x2 x3 x4 x5 x6 x7 x8 x9 x10 x11 == ref06_Intersect_2 x0 x1 x2 x3 x4 x5 x6 x7 x8 x9 x10 x11 && Bool.true)) && (box_Intersect_3 x0 x1 x2 x3 x4 x5 x6 x7 x8 x9 x10 x11 == ref06_Intersect_3 x0 x1 x2 x3 x4 x5 x6 x7 x8 x9 x10 x11 && (box_Intersect_4 x0 x1 x2 x3 x4 x5 x6 x7 x8 x9 x10 x11 == ref06_Intersect_4 x0 x1 x2 x3 x4 x5 x6 x7 x8 x9 x10 x11 && (box_Intersect_5 x0 x1 x2 x3 x4 x5 x6 x7 x8 x9 x10 x11 == ref06_Intersect_5 x0 x1 x2 x3 x4 x5 x6 x7 x8 x9 x10 x11 && Bool.true)) && Bool.true) then (if box_Hull_6 x0 x1 x2 x3 x4 x5 x6 x7 x8 x9 x10 x11 == 0 then (if box_Hull_0 x0 x1 x2 x3 x4 x5 x6 x7 x8 x9 x10 x11 == imin x0 x6 && (box_Hull_1 x0 x1 x2 x3 x4 x5 x6 x7 x8 x9 x10 x11 == imin x1 x7 && (box_Hull_2 x0 x1 x2 x3 x4 x5 x6 x7 x8 x9 x10 x11 == imin x2 x8 && Bool.true)) && (box_Hull_3 x0 x1 x2 x3 x4 x5 x6 x7 x8 x9 x10 x11 == imax x3 x9 && (box_Hull_4 x0 x1 x2 x3 x4 x5 x6 x7 x8 x9 x10 x11 == imax x4 x10 && (box_Hull_5 x0 x1 x2 x3 x4 x5 x6 x7 x8 x9 x10 x11 == imax x5 x11 && Bool.true)) && Bool.true) then (Bool.true) else (Bool.false)) else (Bool.false)) else (Bool.false)) else (Bool.false)) else if box_Volume_0 x0 x1 x2 x3 x4 x5 != ref06_Volume_0 x0 x1 x2 x3 x4 x5 then (Bool.false) else if box_Move_6 x0 x1 x2 x3 x4 x5 x12 x13 x14 != ref06_Move_6 x0 x1 x2 x3 x4 x5 x12 x13 x14 then (Bool.false) else if !(box_Move_0 x0 x1 x2 x3 x4 x5 x12 x13 x14 == ref06_Move_0 x0 x1 x2 x3 x4 x5 x12 x13 x14 && (box_Move_1 x0 x1 x2 x3 x4 x5 x12 x13 x14 == ref06_Move_1 x0 x1 x2 x3 x4 x5 x12 x13 x14 && (box_Move_2 x0 x1 x2 x3 x4 x5 x12 x13 x14 == ref06_Move_2 x0 x1 x2 x3 x4 x5 x12 x13 x14 && Bool.true)) && (box_Move_3 x0 x1 x2 x3 x4 x5 x12 x13 x14 == ref06_Move_3 x0 x1 x2 x3 x4 x5 x12 x13 x14 && (box_Move_4 x0 x1 x2 x3 x4 x5 x12 x13 x14 == ref06_Move_4 x0 x1 x2 x3 x4 x5 x12 x13 x14 && (box_Move_5 x0 x1 x2 x3 x4 x5 x12 x13 x14 == ref06_Move_5 x0 x1 x2 x3 x4 x5 x12 x13 x14 && Bool.true)) && Bool.true)) then (Bool.false) else if law06_both_0 x0 x1 x2 x3 x4 x5 x6 x7 x8 x9 x10 x11 != 0 then (if box_Intersect_6 x0 x1 x2 x3 x4 x5 x6 x7 x8 x9 x10 x11 == law06_both_0 x0 x1 x2 x3 x4 x5 x6 x7 x8 x9 x10 x11 then (if box_Hull_6 x0 x1 x2 x3 x4 x5 x6 x7 x8 x9 x10 x11 == law06_both_0 x0 x1 x2 x3 x4 x5 x6 x7 x8 x9 x10 x11 then (if box_Intersect_0 x0 x1 x2 x3 x4 x5 x6 x7 x8 x9 x10 x11 == 0 && (box_Intersect_1 x0 x1 x2 x3 x4 x5 x6 x7 x8 x9 x10 x11 == 0 && (box_Intersect_2 x0 x1 x2 x3 x4 x5 x6 x7 x8 x9 x10 x11 == 0 && Bool.true)) && (box_Intersect_3 x0 x1 x2 x3 x4 x5 x6 x7 x8 x9 x10 x11 == 0 && (box_Intersect_4 x0 x1 x2 x3 x4 x5 x6 x7 x8 x9 x10 x11 == 0 && (box_Intersect_5 x0 x1 x2 x3 x4 x5 x6 x7 x8 x9 x10 x11 == 0 && Bool.true)) && Bool.true) then (if box_Hull_0 x0 x1 x2 x3 x4 x5 x6 x7 x8 x9 x10 x11 == 0 && (box_Hull_1 x0 x1 x2 x3 x4 x5 x6 x7 x8 x9 x10 x11 == 0 && (box_Hull_2 x0 x1 x2 x3 x4 x5 x6 x7 x8 x9 x10 x11 == 0 && Bool.true)) && (box_Hull_3 x0 x1 x2 x3 x4 x5 x6 x7 x8 x9 x10 x11 == 0 && (box_Hull_4 x0 x1 x2 x3 x4 x5 x6 x7 x8 x9 x10 x11 == 0 && (box_Hull_5 x0 x1 x2 x3 x4 x5 x6 x7 x8 x9 x10 x11 == 0 && Bool.true)) && Bool.true) then (Bool.true) else (Bool.false)) else (Bool.false)) else (Bool.false)) else (Bool.false)) else if ref06_Intersect_6 x0 x1 x2 x3 x4 x5 x6 x7 x8 x9 x10 x11 then (if box_Intersect_6 x0 x1 x2 x3 x4 x5 x6 x7 x8 x9 x10 x11 == 0 then (if box_Intersect_0 x0 x1 x2 x3 x4 x5 x6 x7 x8 x9 x10 x11 == ref06_Intersect_0 x0 x1 x2 x3 x4 x5 x6 x7 x8 x9 x10 x11 && (box_Intersect_1 x0 x1 x2 x3 x4 x5 x6 x7 x8 x9 x10 x11 == ref06_Intersect_1 x0 x1 x2 x3 x4 x5 x6 x7 x8 x9 x10 x11 && (box_Intersect_2 x0 x1 x2 x3 x4 x5 x6 x7 x8 x9 x10 x11 == ref06_Intersect_2 x0 x1 x2 x3 x4 x5 x6 x7 x8 x9 x10 x11 && Bool.true)) && (box_Intersect_3 x0 x1 x2 x3 x4 x5 x6 x7 x8 x9 x10 x11 == ref06_Intersect_3 x0 x1 x2 x3 x4 x5 x6 x7 x8 x9 x10 x11 && (box_Intersect_4 x0 x1 x2 x3 x4 x5 x6 x7 x8 x9 x10 x11 == ref06_Intersect_4 x0 x1 x2 x3 x4 x5 x6 x7 x8 x9 x10 x11 && (box_Intersect_5 x0 x1 x2 x3 x4 x5 x6 x7 x8 x9 x10 x11 == ref06_Intersect_5 x0 x1 x2 x3 x4 x5 x6 x7 x8 x9 x10 x11 && Bool.true)) && Bool.true) then (if box_Hull_6 x0 x1 x2 x3 x4 x5 x6 x7 x8 x9 x10 x11 == 0 then (if box_Hull_0 x0 x1 x2 x3 x4 x5 x6 x7 x8 x9 x10 x11 == imin x0 x6 && (box_Hull_1 x0 x1 x2 x3 x4 x5 x6 x7 x8 x9 x10 x11 == imin x1 x7 && (box_Hull_2 x0 x1 x2 x3 x4 x5 x6 x7 x8 x9 x10 x11 == imin x2 x8 && Bool.true)) && (box_Hull_3 x0 x1 x2 x3 x4 x5 x6 x7 x8 x9 x10 x11 == imax x3 x9 && (box_Hull_4 x0 x1 x2 x3 x4 x5 x6 x7 x8 x9 x10 x11 == imax x4 x10 && (box_Hull_5 x0 x1 x2 x3 x4 x5 x6 x7 x8 x9 x10 x11 == imax x5 x11 && Bool.true)) && Bool.true) then (Bool.true) else (Bool.false)) else (Bool.false)) else (Bool.false)) else (Bool.false)) else if box_Intersect_6 x0 x1 x2 x3 x4 x5 x6 x7 x8 x9 x10 x11 == 0 then (Bool.false) else if box_Intersect_6 x0 x1 x2 x3 x4 x5 x6 x7 x8 x9 x10 x11 == 9 then (if box_Intersect_0 x0 x1 x2 x3 x4 x5 x6 x7 x8 x9 x10 x11 == ref06_Intersect_0 x0 x1 x2 x3 x4 x5 x6 x7 x8 x9 x10 x11 && (box_Intersect_1 x0 x1 x2 x3 x4 x5 x6 x7 x8 x9 x10 x11 == ref06_Intersect_1 x0 x1 x2 x3 x4 x5 x6 x7 x8 x9 x10 x11 && (box_Intersect_2 x0 x1 x2 x3 x4 x5 x6 x7 x8 x9 x10 x11 == ref06_Intersect_2 x0 x1 x2 x3 x4 x5 x6 x7 x8 x9 x10 x11 && Bool.true)) && (box_Intersect_3 x0 x1 x2 x3 x4 x5 x6 x7 x8 x9 x10 x11 == ref06_Intersect_3 x0 x1 x2 x3 x4 x5 x6 x7 x8 x9 x10 x11 && (box_Intersect_4 x0 x1 x2 x3 x4 x5 x6 x7 x8 x9 x10 x11 == ref06_Intersect_4 x0 x1 x2 x3 x4 x5 x6 x7 x8 x9 x10 x11 && (box_Intersect_5 x0 x1 x2 x3 x4 x5 x6 x7 x8 x9 x10 x11 == ref06_Intersect_5 x0 x1 x2 x3 x4 x5 x6 x7 x8 x9 x10 x11 && Bool.true)) && Bool.true) then (if box_Hull_6 x0 x1 x2 x3 x4 x5 x6 x7 x8 x9 x10 x11 == 0 then (if box_Hull_0 x0 x1 x2 x3 x4 x5 x6 x7 x8 x9 x10 x11 == imin x0 x6 && (box_Hull_1 x0 x1 x2 x3 x4 x5 x6 x7 x8 x9 x10 x11 == imin x1 x7 && (box_Hull_2 x0 x1 x2 x3 x4 x5 x6 x7 x8 x9 x10 x11 == imin x2 x8 && Bool.true)) && (box_Hull_3 x0 x1 x2 x3 x4 x5 x6 x7 x8 x9 x10 x11 == imax x3 x9 && (box_Hull_4 x0 x1 x2 x3 x4 x5 x6 x7 x8 x9 x10 x11 == imax x4 x10 && (box_Hull_5 x0 x1 x2 x3 x4 x5 x6 x7 x8 x9 x10 x11 == imax x5 x11 && Bool.true)) && Bool.true) then (Bool.true) else (Bool.false)) else (Bool.false)) else (Bool.false)) else (Bool.false)
def ans3 : Ans := fun args => match args.toList with
  | [.agg c0, .agg c1, .agg c2] => match c0.toList, c1.toList, c2.toList with
    | [.int .i64 x0, .int .i64 x1, .int .i64 x2, .int .i64 x3, .int .i64 x4, .int .i64 x5], [.int .i64 x6, .int .i64 x7, .int .i64 x8, .int .i64 x9, .int .i64 x10, .int .i64 x11], [.int .i64 x12, .int .i64 x13, .int .i64 x14] => some (.bool (law06_BoxMakes_0 x0 x1 x2 x3 x4 x5 x6 x7 x8 x9 x10 x11 x12 x13 x14))
    | _, _, _ => none
  | _ => none
def tab28 : Tab := (3, .ans ans3) :: tab27
def tree3 (x0 x1 x2 x3 x4 x5 x6 x7 x8 x9 x10 x11 x12 x13 x14 : Int) : Tr Value :=
  .node 39 (box_Check_0 x0 x1 x2 x3 x4 x5 != ref06_Check_0 x0 x1 x2 x3 x4 x5)
  (.leaf (some (.bool (Bool.false))))
  (.node 43 (box_Volume_1 x0 x1 x2 x3 x4 x5 != ref06_Check_0 x0 x1 x2 x3 x4 x5)
   (.leaf (some (.bool (Bool.false))))
   (.node 50 (!(IntKind.i64.wrap (x3 - x0) == IntKind.i64.wrap (x3 - x0) && (IntKind.i64.wrap (x4 - x1) == IntKind.i64.wrap (x4 - x1) && (IntKind.i64.wrap (x5 - x2) == IntKind.i64.wrap (x5 - x2) && Bool.true))))
    (.leaf (some (.bool (Bool.false))))
    (.node 53 (ref06_Check_0 x0 x1 x2 x3 x4 x5 != 0)
     (.node 55 (box_Volume_0 x0 x1 x2 x3 x4 x5 != 0)
      (.leaf (some (.bool (Bool.false))))
      (.node 59 (box_Move_6 x0 x1 x2 x3 x4 x5 x12 x13 x14 != ref06_Check_0 x0 x1 x2 x3 x4 x5)
       (.leaf (some (.bool (Bool.false))))
       (.node 64 (!(box_Move_0 x0 x1 x2 x3 x4 x5 x12 x13 x14 == 0 && (box_Move_1 x0 x1 x2 x3 x4 x5 x12 x13 x14 == 0 && (box_Move_2 x0 x1 x2 x3 x4 x5 x12 x13 x14 == 0 && Bool.true)) && (box_Move_3 x0 x1 x2 x3 x4 x5 x12 x13 x14 == 0 && (box_Move_4 x0 x1 x2 x3 x4 x5 x12 x13 x14 == 0 && (box_Move_5 x0 x1 x2 x3 x4 x5 x12 x13 x14 == 0 && Bool.true)) && Bool.true)))
        (.leaf (some (.bool (Bool.false))))
        (.node 102 (law06_both_0 x0 x1 x2 x3 x4 x5 x6 x7 x8 x9 x10 x11 != 0)
         (.node 105 (box_Intersect_6 x0 x1 x2 x3 x4 x5 x6 x7 x8 x9 x10 x11 == law06_both_0 x0 x1 x2 x3 x4 x5 x6 x7 x8 x9 x10 x11)
          (.node 109 (box_Hull_6 x0 x1 x2 x3 x4 x5 x6 x7 x8 x9 x10 x11 == law06_both_0 x0 x1 x2 x3 x4 x5 x6 x7 x8 x9 x10 x11)
           (.node 114 (box_Intersect_0 x0 x1 x2 x3 x4 x5 x6 x7 x8 x9 x10 x11 == 0 && (box_Intersect_1 x0 x1 x2 x3 x4 x5 x6 x7 x8 x9 x10 x11 == 0 && (box_Intersect_2 x0 x1 x2 x3 x4 x5 x6 x7 x8 x9 x10 x11 == 0 && Bool.true)) && (box_Intersect_3 x0 x1 x2 x3 x4 x5 x6 x7 x8 x9 x10 x11 == 0 && (box_Intersect_4 x0 x1 x2 x3 x4 x5 x6 x7 x8 x9 x10 x11 == 0 && (box_Intersect_5 x0 x1 x2 x3 x4 x5 x6 x7 x8 x9 x10 x11 == 0 && Bool.true)) && Bool.true))
            (.node 119 (box_Hull_0 x0 x1 x2 x3 x4 x5 x6 x7 x8 x9 x10 x11 == 0 && (box_Hull_1 x0 x1 x2 x3 x4 x5 x6 x7 x8 x9 x10 x11 == 0 && (box_Hull_2 x0 x1 x2 x3 x4 x5 x6 x7 x8 x9 x10 x11 == 0 && Bool.true)) && (box_Hull_3 x0 x1 x2 x3 x4 x5 x6 x7 x8 x9 x10 x11 == 0 && (box_Hull_4 x0 x1 x2 x3 x4 x5 x6 x7 x8 x9 x10 x11 == 0 && (box_Hull_5 x0 x1 x2 x3 x4 x5 x6 x7 x8 x9 x10 x11 == 0 && Bool.true)) && Bool.true))
             (.leaf (some (.bool (Bool.true))))
             (.leaf (some (.bool (Bool.false)))))
            (.leaf (some (.bool (Bool.false)))))
           (.leaf (some (.bool (Bool.false)))))
          (.leaf (some (.bool (Bool.false)))))
         (.node 126 (ref06_Intersect_6 x0 x1 x2 x3 x4 x5 x6 x7 x8 x9 x10 x11)
          (.node 128 (box_Intersect_6 x0 x1 x2 x3 x4 x5 x6 x7 x8 x9 x10 x11 == 0)
           (.node 141 (box_Intersect_0 x0 x1 x2 x3 x4 x5 x6 x7 x8 x9 x10 x11 == ref06_Intersect_0 x0 x1 x2 x3 x4 x5 x6 x7 x8 x9 x10 x11 && (box_Intersect_1 x0 x1 x2 x3 x4 x5 x6 x7 x8 x9 x10 x11 == ref06_Intersect_1 x0 x1 x2 x3 x4 x5 x6 x7 x8 x9 x10 x11 && (box_Intersect_2 x0 x1 x2 x3 x4 x5 x6 x7 x8 x9 x10 x11 == ref06_Intersect_2 x0 x1 x2 x3 x4 x5 x6 x7 x8 x9 x10 x11 && Bool.true)) && (box_Intersect_3 x0 x1 x2 x3 x4 x5 x6 x7 x8 x9 x10 x11 == ref06_Intersect_3 x0 x1 x2 x3 x4 x5 x6 x7 x8 x9 x10 x11 && (box_Intersect_4 x0 x1 x2 x3 x4 x5 x6 x7 x8 x9 x10 x11 == ref06_Intersect_4 x0 x1 x2 x3 x4 x5 x6 x7 x8 x9 x10 x11 && (box_Intersect_5 x0 x1 x2 x3 x4 x5 x6 x7 x8 x9 x10 x11 == ref06_Intersect_5 x0 x1 x2 x3 x4 x5 x6 x7 x8 x9 x10 x11 && Bool.true)) && Bool.true))
            (.node 145 (box_Hull_6 x0 x1 x2 x3 x4 x5 x6 x7 x8 x9 x10 x11 == 0)
             (.node 152 (box_Hull_0 x0 x1 x2 x3 x4 x5 x6 x7 x8 x9 x10 x11 == imin x0 x6 && (box_Hull_1 x0 x1 x2 x3 x4 x5 x6 x7 x8 x9 x10 x11 == imin x1 x7 && (box_Hull_2 x0 x1 x2 x3 x4 x5 x6 x7 x8 x9 x10 x11 == imin x2 x8 && Bool.true)) && (box_Hull_3 x0 x1 x2 x3 x4 x5 x6 x7 x8 x9 x10 x11 == imax x3 x9 && (box_Hull_4 x0 x1 x2 x3 x4 x5 x6 x7 x8 x9 x10 x11 == imax x4 x10 && (box_Hull_5 x0 x1 x2 x3 x4 x5 x6 x7 x8 x9 x10 x11 == imax x5 x11 && Bool.true)) && Bool.true))
              (.leaf (some (.bool (Bool.true))))
              (.leaf (some (.bool (Bool.false)))))
             (.leaf (some (.bool (Bool.false)))))
            (.leaf (some (.bool (Bool.false)))))
           (.leaf (some (.bool (Bool.false)))))
          (.node 128 (box_Intersect_6 x0 x1 x2 x3 x4 x5 x6 x7 x8 x9 x10 x11 == 0)
           (.leaf (some (.bool (Bool.false))))
           (.node 135 (box_Intersect_6 x0 x1 x2 x3 x4 x5 x6 x7 x8 x9 x10 x11 == 9)
            (.node 141 (box_Intersect_0 x0 x1 x2 x3 x4 x5 x6 x7 x8 x9 x10 x11 == ref06_Intersect_0 x0 x1 x2 x3 x4 x5 x6 x7 x8 x9 x10 x11 && (box_Intersect_1 x0 x1 x2 x3 x4 x5 x6 x7 x8 x9 x10 x11 == ref06_Intersect_1 x0 x1 x2 x3 x4 x5 x6 x7 x8 x9 x10 x11 && (box_Intersect_2 x0 x1 x2 x3 x4 x5 x6 x7 x8 x9 x10 x11 == ref06_Intersect_2 x0 x1 x2 x3 x4 x5 x6 x7 x8 x9 x10 x11 && Bool.true)) && (box_Intersect_3 x0 x1 x2 x3 x4 x5 x6 x7 x8 x9 x10 x11 == ref06_Intersect_3 x0 x1 x2 x3 x4 x5 x6 x7 x8 x9 x10 x11 && (box_Intersect_4 x0 x1 x2 x3 x4 x5 x6 x7 x8 x9 x10 x11 == ref06_Intersect_4 x0 x1 x2 x3 x4 x5 x6 x7 x8 x9 x10 x11 && (box_Intersect_5 x0 x1 x2 x3 x4 x5 x6 x7 x8 x9 x10 x11 == ref06_Intersect_5 x0 x1 x2 x3 x4 x5 x6 x7 x8 x9 x10 x11 && Bool.true)) && Bool.true))
             (.node 145 (box_Hull_6 x0 x1 x2 x3 x4 x5 x6 x7 x8 x9 x10 x11 == 0)
              (.node 152 (box_Hull_0 x0 x1 x2 x3 x4 x5 x6 x7 x8 x9 x10 x11 == imin x0 x6 && (box_Hull_1 x0 x1 x2 x3 x4 x5 x6 x7 x8 x9 x10 x11 == imin x1 x7 && (box_Hull_2 x0 x1 x2 x3 x4 x5 x6 x7 x8 x9 x10 x11 == imin x2 x8 && Bool.true)) && (box_Hull_3 x0 x1 x2 x3 x4 x5 x6 x7 x8 x9 x10 x11 == imax x3 x9 && (box_Hull_4 x0 x1 x2 x3 x4 x5 x6 x7 x8 x9 x10 x11 == imax x4 x10 && (box_Hull_5 x0 x1 x2 x3 x4 x5 x6 x7 x8 x9 x10 x11 == imax x5 x11 && Bool.true)) && Bool.true))
               (.leaf (some (.bool (Bool.true))))
               (.leaf (some (.bool (Bool.false)))))
              (.leaf (some (.bool (Bool.false)))))
             (.leaf (some (.bool (Bool.false)))))
            (.leaf (some (.bool (Bool.false)))))))))))
     (.node 75 (box_Volume_0 x0 x1 x2 x3 x4 x5 != ref06_Volume_0 x0 x1 x2 x3 x4 x5)
      (.leaf (some (.bool (Bool.false))))
      (.node 79 (box_Move_6 x0 x1 x2 x3 x4 x5 x12 x13 x14 != ref06_Move_6 x0 x1 x2 x3 x4 x5 x12 x13 x14)
       (.leaf (some (.bool (Bool.false))))
       (.node 84 (!(box_Move_0 x0 x1 x2 x3 x4 x5 x12 x13 x14 == ref06_Move_0 x0 x1 x2 x3 x4 x5 x12 x13 x14 && (box_Move_1 x0 x1 x2 x3 x4 x5 x12 x13 x14 == ref06_Move_1 x0 x1 x2 x3 x4 x5 x12 x13 x14 && (box_Move_2 x0 x1 x2 x3 x4 x5 x12 x13 x14 == ref06_Move_2 x0 x1 x2 x3 x4 x5 x12 x13 x14 && Bool.true)) && (box_Move_3 x0 x1 x2 x3 x4 x5 x12 x13 x14 == ref06_Move_3 x0 x1 x2 x3 x4 x5 x12 x13 x14 && (box_Move_4 x0 x1 x2 x3 x4 x5 x12 x13 x14 == ref06_Move_4 x0 x1 x2 x3 x4 x5 x12 x13 x14 && (box_Move_5 x0 x1 x2 x3 x4 x5 x12 x13 x14 == ref06_Move_5 x0 x1 x2 x3 x4 x5 x12 x13 x14 && Bool.true)) && Bool.true)))
        (.leaf (some (.bool (Bool.false))))
        (.node 102 (law06_both_0 x0 x1 x2 x3 x4 x5 x6 x7 x8 x9 x10 x11 != 0)
         (.node 105 (box_Intersect_6 x0 x1 x2 x3 x4 x5 x6 x7 x8 x9 x10 x11 == law06_both_0 x0 x1 x2 x3 x4 x5 x6 x7 x8 x9 x10 x11)
          (.node 109 (box_Hull_6 x0 x1 x2 x3 x4 x5 x6 x7 x8 x9 x10 x11 == law06_both_0 x0 x1 x2 x3 x4 x5 x6 x7 x8 x9 x10 x11)
           (.node 114 (box_Intersect_0 x0 x1 x2 x3 x4 x5 x6 x7 x8 x9 x10 x11 == 0 && (box_Intersect_1 x0 x1 x2 x3 x4 x5 x6 x7 x8 x9 x10 x11 == 0 && (box_Intersect_2 x0 x1 x2 x3 x4 x5 x6 x7 x8 x9 x10 x11 == 0 && Bool.true)) && (box_Intersect_3 x0 x1 x2 x3 x4 x5 x6 x7 x8 x9 x10 x11 == 0 && (box_Intersect_4 x0 x1 x2 x3 x4 x5 x6 x7 x8 x9 x10 x11 == 0 && (box_Intersect_5 x0 x1 x2 x3 x4 x5 x6 x7 x8 x9 x10 x11 == 0 && Bool.true)) && Bool.true))
            (.node 119 (box_Hull_0 x0 x1 x2 x3 x4 x5 x6 x7 x8 x9 x10 x11 == 0 && (box_Hull_1 x0 x1 x2 x3 x4 x5 x6 x7 x8 x9 x10 x11 == 0 && (box_Hull_2 x0 x1 x2 x3 x4 x5 x6 x7 x8 x9 x10 x11 == 0 && Bool.true)) && (box_Hull_3 x0 x1 x2 x3 x4 x5 x6 x7 x8 x9 x10 x11 == 0 && (box_Hull_4 x0 x1 x2 x3 x4 x5 x6 x7 x8 x9 x10 x11 == 0 && (box_Hull_5 x0 x1 x2 x3 x4 x5 x6 x7 x8 x9 x10 x11 == 0 && Bool.true)) && Bool.true))
             (.leaf (some (.bool (Bool.true))))
             (.leaf (some (.bool (Bool.false)))))
            (.leaf (some (.bool (Bool.false)))))
           (.leaf (some (.bool (Bool.false)))))
          (.leaf (some (.bool (Bool.false)))))
         (.node 126 (ref06_Intersect_6 x0 x1 x2 x3 x4 x5 x6 x7 x8 x9 x10 x11)
          (.node 128 (box_Intersect_6 x0 x1 x2 x3 x4 x5 x6 x7 x8 x9 x10 x11 == 0)
           (.node 141 (box_Intersect_0 x0 x1 x2 x3 x4 x5 x6 x7 x8 x9 x10 x11 == ref06_Intersect_0 x0 x1 x2 x3 x4 x5 x6 x7 x8 x9 x10 x11 && (box_Intersect_1 x0 x1 x2 x3 x4 x5 x6 x7 x8 x9 x10 x11 == ref06_Intersect_1 x0 x1 x2 x3 x4 x5 x6 x7 x8 x9 x10 x11 && (box_Intersect_2 x0 x1 x2 x3 x4 x5 x6 x7 x8 x9 x10 x11 == ref06_Intersect_2 x0 x1 x2 x3 x4 x5 x6 x7 x8 x9 x10 x11 && Bool.true)) && (box_Intersect_3 x0 x1 x2 x3 x4 x5 x6 x7 x8 x9 x10 x11 == ref06_Intersect_3 x0 x1 x2 x3 x4 x5 x6 x7 x8 x9 x10 x11 && (box_Intersect_4 x0 x1 x2 x3 x4 x5 x6 x7 x8 x9 x10 x11 == ref06_Intersect_4 x0 x1 x2 x3 x4 x5 x6 x7 x8 x9 x10 x11 && (box_Intersect_5 x0 x1 x2 x3 x4 x5 x6 x7 x8 x9 x10 x11 == ref06_Intersect_5 x0 x1 x2 x3 x4 x5 x6 x7 x8 x9 x10 x11 && Bool.true)) && Bool.true))
            (.node 145 (box_Hull_6 x0 x1 x2 x3 x4 x5 x6 x7 x8 x9 x10 x11 == 0)
             (.node 152 (box_Hull_0 x0 x1 x2 x3 x4 x5 x6 x7 x8 x9 x10 x11 == imin x0 x6 && (box_Hull_1 x0 x1 x2 x3 x4 x5 x6 x7 x8 x9 x10 x11 == imin x1 x7 && (box_Hull_2 x0 x1 x2 x3 x4 x5 x6 x7 x8 x9 x10 x11 == imin x2 x8 && Bool.true)) && (box_Hull_3 x0 x1 x2 x3 x4 x5 x6 x7 x8 x9 x10 x11 == imax x3 x9 && (box_Hull_4 x0 x1 x2 x3 x4 x5 x6 x7 x8 x9 x10 x11 == imax x4 x10 && (box_Hull_5 x0 x1 x2 x3 x4 x5 x6 x7 x8 x9 x10 x11 == imax x5 x11 && Bool.true)) && Bool.true))
              (.leaf (some (.bool (Bool.true))))
              (.leaf (some (.bool (Bool.false)))))
             (.leaf (some (.bool (Bool.false)))))
            (.leaf (some (.bool (Bool.false)))))
           (.leaf (some (.bool (Bool.false)))))
          (.node 128 (box_Intersect_6 x0 x1 x2 x3 x4 x5 x6 x7 x8 x9 x10 x11 == 0)
           (.leaf (some (.bool (Bool.false))))
           (.node 135 (box_Intersect_6 x0 x1 x2 x3 x4 x5 x6 x7 x8 x9 x10 x11 == 9)
            (.node 141 (box_Intersect_0 x0 x1 x2 x3 x4 x5 x6 x7 x8 x9 x10 x11 == ref06_Intersect_0 x0 x1 x2 x3 x4 x5 x6 x7 x8 x9 x10 x11 && (box_Intersect_1 x0 x1 x2 x3 x4 x5 x6 x7 x8 x9 x10 x11 == ref06_Intersect_1 x0 x1 x2 x3 x4 x5 x6 x7 x8 x9 x10 x11 && (box_Intersect_2 x0 x1 x2 x3 x4 x5 x6 x7 x8 x9 x10 x11 == ref06_Intersect_2 x0 x1 x2 x3 x4 x5 x6 x7 x8 x9 x10 x11 && Bool.true)) && (box_Intersect_3 x0 x1 x2 x3 x4 x5 x6 x7 x8 x9 x10 x11 == ref06_Intersect_3 x0 x1 x2 x3 x4 x5 x6 x7 x8 x9 x10 x11 && (box_Intersect_4 x0 x1 x2 x3 x4 x5 x6 x7 x8 x9 x10 x11 == ref06_Intersect_4 x0 x1 x2 x3 x4 x5 x6 x7 x8 x9 x10 x11 && (box_Intersect_5 x0 x1 x2 x3 x4 x5 x6 x7 x8 x9 x10 x11 == ref06_Intersect_5 x0 x1 x2 x3 x4 x5 x6 x7 x8 x9 x10 x11 && Bool.true)) && Bool.true))
             (.node 145 (box_Hull_6 x0 x1 x2 x3 x4 x5 x6 x7 x8 x9 x10 x11 == 0)
              (.node 152 (box_Hull_0 x0 x1 x2 x3 x4 x5 x6 x7 x8 x9 x10 x11 == imin x0 x6 && (box_Hull_1 x0 x1 x2 x3 x4 x5 x6 x7 x8 x9 x10 x11 == imin x1 x7 && (box_Hull_2 x0 x1 x2 x3 x4 x5 x6 x7 x8 x9 x10 x11 == imin x2 x8 && Bool.true)) && (box_Hull_3 x0 x1 x2 x3 x4 x5 x6 x7 x8 x9 x10 x11 == imax x3 x9 && (box_Hull_4 x0 x1 x2 x3 x4 x5 x6 x7 x8 x9 x10 x11 == imax x4 x10 && (box_Hull_5 x0 x1 x2 x3 x4 x5 x6 x7 x8 x9 x10 x11 == imax x5 x11 && Bool.true)) && Bool.true))
               (.leaf (some (.bool (Bool.true))))
               (.leaf (some (.bool (Bool.false)))))
              (.leaf (some (.bool (Bool.false)))))
             (.leaf (some (.bool (Bool.false)))))
            (.leaf (some (.bool (Bool.false))))))))))))))
theorem tree3_eq (x0 x1 x2 x3 x4 x5 x6 x7 x8 x9 x10 x11 x12 x13 x14 : Int) : vals (evFnT Try.prog (tb Try.prog tab27) (tbT Try.prog tab27) [(39, 0), (43, 0), (50, 0), (53, 0), (55, 0), (59, 0), (64, 0), (75, 0), (79, 0), (84, 0), (102, 0), (105, 0), (109, 0), (114, 0), (119, 0), (126, 0), (128, 0), (135, 0), (141, 0), (145, 0), (152, 0)] 300 3 #[.agg #[.int .i64 x0, .int .i64 x1, .int .i64 x2, .int .i64 x3, .int .i64 x4, .int .i64 x5], .agg #[.int .i64 x6, .int .i64 x7, .int .i64 x8, .int .i64 x9, .int .i64 x10, .int .i64 x11], .agg #[.int .i64 x12, .int .i64 x13, .int .i64 x14]] []) = tree3 x0 x1 x2 x3 x4 x5 x6 x7 x8 x9 x10 x11 x12 x13 x14 := by kernel_rfl
theorem tree3_res (x0 x1 x2 x3 x4 x5 x6 x7 x8 x9 x10 x11 x12 x13 x14 : Int) : (tree3 x0 x1 x2 x3 x4 x5 x6 x7 x8 x9 x10 x11 x12 x13 x14).res = some (.bool (law06_BoxMakes_0 x0 x1 x2 x3 x4 x5 x6 x7 x8 x9 x10 x11 x12 x13 x14)) := by
  unfold tree3 law06_BoxMakes_0
  simp only [Tr.res]
  generalize (box_Check_0 x0 x1 x2 x3 x4 x5 != ref06_Check_0 x0 x1 x2 x3 x4 x5) = b0
  generalize (box_Volume_1 x0 x1 x2 x3 x4 x5 != ref06_Check_0 x0 x1 x2 x3 x4 x5) = b1
  generalize (!(IntKind.i64.wrap (x3 - x0) == IntKind.i64.wrap (x3 - x0) && (IntKind.i64.wrap (x4 - x1) == IntKind.i64.wrap (x4 - x1) && (IntKind.i64.wrap (x5 - x2) == IntKind.i64.wrap (x5 - x2) && Bool.true)))) = b2
  generalize (ref06_Check_0 x0 x1 x2 x3 x4 x5 != 0) = b3
  generalize (box_Volume_0 x0 x1 x2 x3 x4 x5 != 0) = b4
  generalize (box_Move_6 x0 x1 x2 x3 x4 x5 x12 x13 x14 != ref06_Check_0 x0 x1 x2 x3 x4 x5) = b5
  generalize (!(box_Move_0 x0 x1 x2 x3 x4 x5 x12 x13 x14 == 0 && (box_Move_1 x0 x1 x2 x3 x4 x5 x12 x13 x14 == 0 && (box_Move_2 x0 x1 x2 x3 x4 x5 x12 x13 x14 == 0 && Bool.true)) && (box_Move_3 x0 x1 x2 x3 x4 x5 x12 x13 x14 == 0 && (box_Move_4 x0 x1 x2 x3 x4 x5 x12 x13 x14 == 0 && (box_Move_5 x0 x1 x2 x3 x4 x5 x12 x13 x14 == 0 && Bool.true)) && Bool.true))) = b6
  generalize (law06_both_0 x0 x1 x2 x3 x4 x5 x6 x7 x8 x9 x10 x11 != 0) = b7
  generalize (box_Intersect_6 x0 x1 x2 x3 x4 x5 x6 x7 x8 x9 x10 x11 == law06_both_0 x0 x1 x2 x3 x4 x5 x6 x7 x8 x9 x10 x11) = b8
  generalize (box_Hull_6 x0 x1 x2 x3 x4 x5 x6 x7 x8 x9 x10 x11 == law06_both_0 x0 x1 x2 x3 x4 x5 x6 x7 x8 x9 x10 x11) = b9
  generalize (box_Intersect_0 x0 x1 x2 x3 x4 x5 x6 x7 x8 x9 x10 x11 == 0 && (box_Intersect_1 x0 x1 x2 x3 x4 x5 x6 x7 x8 x9 x10 x11 == 0 && (box_Intersect_2 x0 x1 x2 x3 x4 x5 x6 x7 x8 x9 x10 x11 == 0 && Bool.true)) && (box_Intersect_3 x0 x1 x2 x3 x4 x5 x6 x7 x8 x9 x10 x11 == 0 && (box_Intersect_4 x0 x1 x2 x3 x4 x5 x6 x7 x8 x9 x10 x11 == 0 && (box_Intersect_5 x0 x1 x2 x3 x4 x5 x6 x7 x8 x9 x10 x11 == 0 && Bool.true)) && Bool.true)) = b10
  generalize (box_Hull_0 x0 x1 x2 x3 x4 x5 x6 x7 x8 x9 x10 x11 == 0 && (box_Hull_1 x0 x1 x2 x3 x4 x5 x6 x7 x8 x9 x10 x11 == 0 && (box_Hull_2 x0 x1 x2 x3 x4 x5 x6 x7 x8 x9 x10 x11 == 0 && Bool.true)) && (box_Hull_3 x0 x1 x2 x3 x4 x5 x6 x7 x8 x9 x10 x11 == 0 && (box_Hull_4 x0 x1 x2 x3 x4 x5 x6 x7 x8 x9 x10 x11 == 0 && (box_Hull_5 x0 x1 x2 x3 x4 x5 x6 x7 x8 x9 x10 x11 == 0 && Bool.true)) && Bool.true)) = b11
  generalize (ref06_Intersect_6 x0 x1 x2 x3 x4 x5 x6 x7 x8 x9 x10 x11) = b12
  generalize (box_Intersect_6 x0 x1 x2 x3 x4 x5 x6 x7 x8 x9 x10 x11 == 0) = b13
  generalize (box_Intersect_0 x0 x1 x2 x3 x4 x5 x6 x7 x8 x9 x10 x11 == ref06_Intersect_0 x0 x1 x2 x3 x4 x5 x6 x7 x8 x9 x10 x11 && (box_Intersect_1 x0 x1 x2 x3 x4 x5 x6 x7 x8 x9 x10 x11 == ref06_Intersect_1 x0 x1 x2 x3 x4 x5 x6 x7 x8 x9 x10 x11 && (box_Intersect_2 x0 x1 x2 x3 x4 x5 x6 x7 x8 x9 x10 x11 == ref06_Intersect_2 x0 x1 x2 x3 x4 x5 x6 x7 x8 x9 x10 x11 && Bool.true)) && (box_Intersect_3 x0 x1 x2 x3 x4 x5 x6 x7 x8 x9 x10 x11 == ref06_Intersect_3 x0 x1 x2 x3 x4 x5 x6 x7 x8 x9 x10 x11 && (box_Intersect_4 x0 x1 x2 x3 x4 x5 x6 x7 x8 x9 x10 x11 == ref06_Intersect_4 x0 x1 x2 x3 x4 x5 x6 x7 x8 x9 x10 x11 && (box_Intersect_5 x0 x1 x2 x3 x4 x5 x6 x7 x8 x9 x10 x11 == ref06_Intersect_5 x0 x1 x2 x3 x4 x5 x6 x7 x8 x9 x10 x11 && Bool.true)) && Bool.true)) = b14
  generalize (box_Hull_6 x0 x1 x2 x3 x4 x5 x6 x7 x8 x9 x10 x11 == 0) = b15
  generalize (box_Hull_0 x0 x1 x2 x3 x4 x5 x6 x7 x8 x9 x10 x11 == imin x0 x6 && (box_Hull_1 x0 x1 x2 x3 x4 x5 x6 x7 x8 x9 x10 x11 == imin x1 x7 && (box_Hull_2 x0 x1 x2 x3 x4 x5 x6 x7 x8 x9 x10 x11 == imin x2 x8 && Bool.true)) && (box_Hull_3 x0 x1 x2 x3 x4 x5 x6 x7 x8 x9 x10 x11 == imax x3 x9 && (box_Hull_4 x0 x1 x2 x3 x4 x5 x6 x7 x8 x9 x10 x11 == imax x4 x10 && (box_Hull_5 x0 x1 x2 x3 x4 x5 x6 x7 x8 x9 x10 x11 == imax x5 x11 && Bool.true)) && Bool.true)) = b16
  generalize (box_Intersect_6 x0 x1 x2 x3 x4 x5 x6 x7 x8 x9 x10 x11 == 9) = b17
  generalize (box_Volume_0 x0 x1 x2 x3 x4 x5 != ref06_Volume_0 x0 x1 x2 x3 x4 x5) = b18
  generalize (box_Move_6 x0 x1 x2 x3 x4 x5 x12 x13 x14 != ref06_Move_6 x0 x1 x2 x3 x4 x5 x12 x13 x14) = b19
  generalize (!(box_Move_0 x0 x1 x2 x3 x4 x5 x12 x13 x14 == ref06_Move_0 x0 x1 x2 x3 x4 x5 x12 x13 x14 && (box_Move_1 x0 x1 x2 x3 x4 x5 x12 x13 x14 == ref06_Move_1 x0 x1 x2 x3 x4 x5 x12 x13 x14 && (box_Move_2 x0 x1 x2 x3 x4 x5 x12 x13 x14 == ref06_Move_2 x0 x1 x2 x3 x4 x5 x12 x13 x14 && Bool.true)) && (box_Move_3 x0 x1 x2 x3 x4 x5 x12 x13 x14 == ref06_Move_3 x0 x1 x2 x3 x4 x5 x12 x13 x14 && (box_Move_4 x0 x1 x2 x3 x4 x5 x12 x13 x14 == ref06_Move_4 x0 x1 x2 x3 x4 x5 x12 x13 x14 && (box_Move_5 x0 x1 x2 x3 x4 x5 x12 x13 x14 == ref06_Move_5 x0 x1 x2 x3 x4 x5 x12 x13 x14 && Bool.true)) && Bool.true))) = b20
  cases b0 with
  | true =>
   first | (simp only [if_true, Bool.false_eq_true, if_false]; done) | rfl
  | false =>
   cases b1 with
   | true =>
    first | (simp only [if_true, Bool.false_eq_true, if_false]; done) | rfl
   | false =>
    cases b2 with
    | true =>
     first | (simp only [if_true, Bool.false_eq_true, if_false]; done) | rfl
    | false =>
     cases b3 with
     | true =>
      cases b4 with
      | true =>
       first | (simp only [if_true, Bool.false_eq_true, if_false]; done) | rfl
      | false =>
       cases b5 with
       | true =>
        first | (simp only [if_true, Bool.false_eq_true, if_false]; done) | rfl
       | false =>
        cases b6 with
        | true =>
         first | (simp only [if_true, Bool.false_eq_true, if_false]; done) | rfl
        | false =>
         cases b7 with
         | true =>
          cases b8 with
          | true =>
           cases b9 with
           | true =>
            cases b10 with
            | true =>
             cases b11 with
             | true =>
              first | (simp only [if_true, Bool.false_eq_true, if_false]; done) | rfl
             | false =>
              first | (simp only [if_true, Bool.false_eq_true, if_false]; done) | rfl
            | false =>
             first | (simp only [if_true, Bool.false_eq_true, if_false]; done) | rfl
           | false =>
            first | (simp only [if_true, Bool.false_eq_true, if_false]; done) | rfl
          | false =>
           first | (simp only [if_true, Bool.false_eq_true, if_false]; done) | rfl
         | false =>
          cases b12 with
          | true =>
           cases b13 with
           | true =>
            cases b14 with
            | true =>
             cases b15 with
             | true =>
              cases b16 with
              | true =>
               first | (simp only [if_true, Bool.false_eq_true, if_false]; done) | rfl
              | false =>
               first | (simp only [if_true, Bool.false_eq_true, if_false]; done) | rfl
             | false =>
              first | (simp only [if_true, Bool.false_eq_true, if_false]; done) | rfl
            | false =>
             first | (simp only [if_true, Bool.false_eq_true, if_false]; done) | rfl
           | false =>
            first | (simp only [if_true, Bool.false_eq_true, if_false]; done) | rfl
          | false =>
           cases b13 with
           | true =>
            first | (simp only [if_true, Bool.false_eq_true, if_false]; done) | rfl
           | false =>
            cases b17 with
            | true =>
             cases b14 with
             | true =>
              cases b15 with
              | true =>
               cases b16 with
               | true =>
                first | (simp only [if_true, Bool.false_eq_true, if_false]; done) | rfl
               | false =>
                first | (simp only [if_true, Bool.false_eq_true, if_false]; done) | rfl
              | false =>
               first | (simp only [if_true, Bool.false_eq_true, if_false]; done) | rfl
             | false =>
              first | (simp only [if_true, Bool.false_eq_true, if_false]; done) | rfl
            | false =>
             first | (simp only [if_true, Bool.false_eq_true, if_false]; done) | rfl
     | false =>
      cases b18 with
      | true =>
       first | (simp only [if_true, Bool.false_eq_true, if_false]; done) | rfl
      | false =>
       cases b19 with
       | true =>
        first | (simp only [if_true, Bool.false_eq_true, if_false]; done) | rfl
       | false =>
        cases b20 with
        | true =>
         first | (simp only [if_true, Bool.false_eq_true, if_false]; done) | rfl
        | false =>
         cases b7 with
         | true =>
          cases b8 with
          | true =>
           cases b9 with
           | true =>
            cases b10 with
            | true =>
             cases b11 with
             | true =>
              first | (simp only [if_true, Bool.false_eq_true, if_false]; done) | rfl
             | false =>
              first | (simp only [if_true, Bool.false_eq_true, if_false]; done) | rfl
            | false =>
             first | (simp only [if_true, Bool.false_eq_true, if_false]; done) | rfl
           | false =>
            first | (simp only [if_true, Bool.false_eq_true, if_false]; done) | rfl
          | false =>
           first | (simp only [if_true, Bool.false_eq_true, if_false]; done) | rfl
         | false =>
          cases b12 with
          | true =>
           cases b13 with
           | true =>
            cases b14 with
            | true =>
             cases b15 with
             | true =>
              cases b16 with
              | true =>
               first | (simp only [if_true, Bool.false_eq_true, if_false]; done) | rfl
              | false =>
               first | (simp only [if_true, Bool.false_eq_true, if_false]; done) | rfl
             | false =>
              first | (simp only [if_true, Bool.false_eq_true, if_false]; done) | rfl
            | false =>
             first | (simp only [if_true, Bool.false_eq_true, if_false]; done) | rfl
           | false =>
            first | (simp only [if_true, Bool.false_eq_true, if_false]; done) | rfl
          | false =>
           cases b13 with
           | true =>
            first | (simp only [if_true, Bool.false_eq_true, if_false]; done) | rfl
           | false =>
            cases b17 with
            | true =>
             cases b14 with
             | true =>
              cases b15 with
              | true =>
               cases b16 with
               | true =>
                first | (simp only [if_true, Bool.false_eq_true, if_false]; done) | rfl
               | false =>
                first | (simp only [if_true, Bool.false_eq_true, if_false]; done) | rfl
              | false =>
               first | (simp only [if_true, Bool.false_eq_true, if_false]; done) | rfl
             | false =>
              first | (simp only [if_true, Bool.false_eq_true, if_false]; done) | rfl
            | false =>
             first | (simp only [if_true, Bool.false_eq_true, if_false]; done) | rfl
theorem tab28_ok : TabOk Try.prog tab28 := tab_cons mixed tab27_ok (by decide) fun args v h => by
  unfold ans3 at h
  split at h
  · rename_i c0 c1 c2 h0
    split at h
    · rename_i x0 x1 x2 x3 x4 x5 x6 x7 x8 x9 x10 x11 x12 x13 x14 h1 h2 h3
      injection h with h; subst h
      obtain rfl : c0 = #[.int .i64 x0, .int .i64 x1, .int .i64 x2, .int .i64 x3, .int .i64 x4, .int .i64 x5] := by rw [← Array.toArray_toList (xs := c0), h1]
      obtain rfl : c1 = #[.int .i64 x6, .int .i64 x7, .int .i64 x8, .int .i64 x9, .int .i64 x10, .int .i64 x11] := by rw [← Array.toArray_toList (xs := c1), h2]
      obtain rfl : c2 = #[.int .i64 x12, .int .i64 x13, .int .i64 x14] := by rw [← Array.toArray_toList (xs := c2), h3]
      obtain rfl : args = #[.agg #[.int .i64 x0, .int .i64 x1, .int .i64 x2, .int .i64 x3, .int .i64 x4, .int .i64 x5], .agg #[.int .i64 x6, .int .i64 x7, .int .i64 x8, .int .i64 x9, .int .i64 x10, .int .i64 x11], .agg #[.int .i64 x12, .int .i64 x13, .int .i64 x14]] := by rw [← Array.toArray_toList (xs := args), h0]
      exact ⟨rfl, rfl, [(39, 0), (43, 0), (50, 0), (53, 0), (55, 0), (59, 0), (64, 0), (75, 0), (79, 0), (84, 0), (102, 0), (105, 0), (109, 0), (114, 0), (119, 0), (126, 0), (128, 0), (135, 0), (141, 0), (145, 0), (152, 0)], 300, by rw [tree3_eq]; exact tree3_res _ _ _ _ _ _ _ _ _ _ _ _ _ _ _⟩
    · cases h
  · cases h
end Go.Proofs.Ytgpcgcflmimnbaa.Vx
