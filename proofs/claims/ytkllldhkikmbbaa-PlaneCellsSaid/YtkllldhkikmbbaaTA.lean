/- The answers of the functions of the package and of its reference, read off their texts. -/
import Derived.Test.YtkllldhkikmbbaaXA
namespace Go.Proofs.Ytkllldhkikmbbaa.Vx
open Go Go.RowKit Go.Proofs
set_option maxRecDepth 100000
set_option linter.unusedVariables false
set_option linter.unusedSimpArgs false
def tab0 : Tab := []
theorem tab0_ok : TabOk Try.prog tab0 := tab_nil

/- gangsaw/gangsawlaw07.awake -/
def ans12 : Ans := fun args => match args.toList with
  | [] => some (.bool true)
  | _ => none
def tab1 : Tab := (12, .ans ans12) :: tab0
theorem tab1_ok : TabOk Try.prog tab1 := tab_put tab0_ok (by decide) fun args v h => by
  unfold ans12 at h
  split at h
  · rename_i h0
    injection h with h; subst h
    obtain rfl : args = #[] := by rw [← Array.toArray_toList (xs := args), h0]
    exact ⟨rfl, rfl, fun w => awake_any w⟩
  · cases h

/- gangsaw/plane.across -/
def ans34 : Ans := fun args => match args.toList with
  | [.agg c0] => match c0.toList with
    | [.int .i64 x0, .int .i64 x1, .int .i64 x2, .int .i64 x3] => some (.agg #[.int .i64 (x0), .int .i64 (x1), .int .i64 (x2)])
    | _ => none
  | _ => none
def tab2 : Tab := (34, .ans ans34) :: tab1
def tree34 (x0 x1 x2 x3 : Int) : Tr Value :=
  .leaf (some (.agg #[.int .i64 (x0), .int .i64 (x1), .int .i64 (x2)]))
theorem tree34_eq (x0 x1 x2 x3 : Int) : vals (evFnT Try.prog (tb Try.prog tab1) (tbT Try.prog tab1) ⟨[], [], []⟩ noLoops 300 34 #[.agg #[.int .i64 x0, .int .i64 x1, .int .i64 x2, .int .i64 x3]] []) = tree34 x0 x1 x2 x3 := by kernel_rfl
theorem tree34_res (x0 x1 x2 x3 : Int) : (tree34 x0 x1 x2 x3).res = some (.agg #[.int .i64 (x0), .int .i64 (x1), .int .i64 (x2)]) := by
  rfl
theorem tab2_ok : TabOk Try.prog tab2 := tab_cons mixed tab1_ok (by decide) fun args v h => by
  unfold ans34 at h
  split at h
  · rename_i c0 h0
    split at h
    · rename_i x0 x1 x2 x3 h1
      injection h with h; subst h
      obtain rfl : c0 = #[.int .i64 x0, .int .i64 x1, .int .i64 x2, .int .i64 x3] := by rw [← Array.toArray_toList (xs := c0), h1]
      obtain rfl : args = #[.agg #[.int .i64 x0, .int .i64 x1, .int .i64 x2, .int .i64 x3]] := by rw [← Array.toArray_toList (xs := args), h0]
      exact ⟨rfl, rfl, ⟨[], [], []⟩, 300, by rw [tree34_eq]; exact tree34_res _ _ _ _⟩
    · cases h
  · cases h

/- gangsaw/plane.coordinates -/
def ans47 : Ans := fun args => match args.toList with
  | [.agg c0] => match c0.toList with
    | [.int .i64 x0, .int .i64 x1, .int .i64 x2] => some (.agg #[.int .i64 (x0), .int .i64 (x1), .int .i64 (x2)])
    | _ => none
  | _ => none
def tab3 : Tab := (47, .ans ans47) :: tab2
def tree47 (x0 x1 x2 : Int) : Tr Value :=
  .leaf (some (.agg #[.int .i64 (x0), .int .i64 (x1), .int .i64 (x2)]))
theorem tree47_eq (x0 x1 x2 : Int) : vals (evFnT Try.prog (tb Try.prog tab2) (tbT Try.prog tab2) ⟨[], [], []⟩ noLoops 300 47 #[.agg #[.int .i64 x0, .int .i64 x1, .int .i64 x2]] []) = tree47 x0 x1 x2 := by kernel_rfl
theorem tree47_res (x0 x1 x2 : Int) : (tree47 x0 x1 x2).res = some (.agg #[.int .i64 (x0), .int .i64 (x1), .int .i64 (x2)]) := by
  rfl
theorem tab3_ok : TabOk Try.prog tab3 := tab_cons mixed tab2_ok (by decide) fun args v h => by
  unfold ans47 at h
  split at h
  · rename_i c0 h0
    split at h
    · rename_i x0 x1 x2 h1
      injection h with h; subst h
      obtain rfl : c0 = #[.int .i64 x0, .int .i64 x1, .int .i64 x2] := by rw [← Array.toArray_toList (xs := c0), h1]
      obtain rfl : args = #[.agg #[.int .i64 x0, .int .i64 x1, .int .i64 x2]] := by rw [← Array.toArray_toList (xs := args), h0]
      exact ⟨rfl, rfl, ⟨[], [], []⟩, 300, by rw [tree47_eq]; exact tree47_res _ _ _⟩
    · cases h
  · cases h

/- gangsaw/plane.coefficients -/
def ans35 : Ans := fun args => match args.toList with
  | [.agg c0] => match c0.toList with
    | [.int .i64 x0, .int .i64 x1, .int .i64 x2, .int .i64 x3] => some (.agg #[.int .i64 (x0), .int .i64 (x1), .int .i64 (x2)])
    | _ => none
  | _ => none
def tab4 : Tab := (35, .ans ans35) :: tab3
def tree35 (x0 x1 x2 x3 : Int) : Tr Value :=
  .leaf (some (.agg #[.int .i64 (x0), .int .i64 (x1), .int .i64 (x2)]))
theorem tree35_eq (x0 x1 x2 x3 : Int) : vals (evFnT Try.prog (tb Try.prog tab3) (tbT Try.prog tab3) ⟨[], [], []⟩ noLoops 300 35 #[.agg #[.int .i64 x0, .int .i64 x1, .int .i64 x2, .int .i64 x3]] []) = tree35 x0 x1 x2 x3 := by kernel_rfl
theorem tree35_res (x0 x1 x2 x3 : Int) : (tree35 x0 x1 x2 x3).res = some (.agg #[.int .i64 (x0), .int .i64 (x1), .int .i64 (x2)]) := by
  rfl
theorem tab4_ok : TabOk Try.prog tab4 := tab_cons mixed tab3_ok (by decide) fun args v h => by
  unfold ans35 at h
  split at h
  · rename_i c0 h0
    split at h
    · rename_i x0 x1 x2 x3 h1
      injection h with h; subst h
      obtain rfl : c0 = #[.int .i64 x0, .int .i64 x1, .int .i64 x2, .int .i64 x3] := by rw [← Array.toArray_toList (xs := c0), h1]
      obtain rfl : args = #[.agg #[.int .i64 x0, .int .i64 x1, .int .i64 x2, .int .i64 x3]] := by rw [← Array.toArray_toList (xs := args), h0]
      exact ⟨rfl, rfl, ⟨[], [], []⟩, 300, by rw [tree35_eq]; exact tree35_res _ _ _ _⟩
    · cases h
  · cases h

/- gangsaw/plane.Check -/
def plane_Check_0 (x0 x1 x2 x3 : Int) : Int :=
  if Decidable.decide (x0 < -1000) then (6) else if Decidable.decide (x0 > 1000) then (6) else if Decidable.decide (x1 < -1000) then (6) else if Decidable.decide (x1 > 1000) then (6) else if Decidable.decide (x2 < -1000) then (6) else if Decidable.decide (x2 > 1000) then (6) else if Decidable.decide (x3 < -4000000000) then (6) else if Decidable.decide (x3 > 4000000000) then (6) else if x0 == 0 && (x1 == 0 && (x2 == 0 && Bool.true)) then (1) else (0)
def ans14 : Ans := fun args => match args.toList with
  | [.agg c0] => match c0.toList with
    | [.int .i64 x0, .int .i64 x1, .int .i64 x2, .int .i64 x3] => some (.int .i64 (plane_Check_0 x0 x1 x2 x3))
    | _ => none
  | _ => none
def tab5 : Tab := (14, .ans ans14) :: tab4
def tree14 (x0 x1 x2 x3 : Int) : Tr Value :=
  .node 11 (Decidable.decide (x0 < -1000))
  (.leaf (some (.int .i64 (6))))
  (.node 14 (Decidable.decide (x0 > 1000))
   (.leaf (some (.int .i64 (6))))
   (.node 11 (Decidable.decide (x1 < -1000))
    (.leaf (some (.int .i64 (6))))
    (.node 14 (Decidable.decide (x1 > 1000))
     (.leaf (some (.int .i64 (6))))
     (.node 11 (Decidable.decide (x2 < -1000))
      (.leaf (some (.int .i64 (6))))
      (.node 14 (Decidable.decide (x2 > 1000))
       (.leaf (some (.int .i64 (6))))
       (.node 19 (Decidable.decide (x3 < -4000000000))
        (.leaf (some (.int .i64 (6))))
        (.node 23 (Decidable.decide (x3 > 4000000000))
         (.leaf (some (.int .i64 (6))))
         (.node 28 (x0 == 0 && (x1 == 0 && (x2 == 0 && Bool.true)))
          (.leaf (some (.int .i64 (1))))
          (.leaf (some (.int .i64 (0))))))))))))
theorem tree14_eq (x0 x1 x2 x3 : Int) : vals (evFnT Try.prog (tb Try.prog tab4) (tbT Try.prog tab4) ⟨[(11, 0), (14, 0), (19, 0), (23, 0), (28, 0)], [], []⟩ noLoops 300 14 #[.agg #[.int .i64 x0, .int .i64 x1, .int .i64 x2, .int .i64 x3]] []) = tree14 x0 x1 x2 x3 := by kernel_rfl
theorem tree14_res (x0 x1 x2 x3 : Int) : (tree14 x0 x1 x2 x3).res = some (.int .i64 (plane_Check_0 x0 x1 x2 x3)) := by
  unfold tree14 plane_Check_0
  simp only [Tr.res]
  generalize (Decidable.decide (x0 < -1000)) = b0
  generalize (Decidable.decide (x0 > 1000)) = b1
  generalize (Decidable.decide (x1 < -1000)) = b2
  generalize (Decidable.decide (x1 > 1000)) = b3
  generalize (Decidable.decide (x2 < -1000)) = b4
  generalize (Decidable.decide (x2 > 1000)) = b5
  generalize (Decidable.decide (x3 < -4000000000)) = b6
  generalize (Decidable.decide (x3 > 4000000000)) = b7
  generalize (x0 == 0 && (x1 == 0 && (x2 == 0 && Bool.true))) = b8
  cases b0 with
  | true =>
   first | (simp only [if_true, Bool.false_eq_true, if_false]; done) | rfl
  | false =>
   cases b1 with
   | true =>
    first | (simp only [if_true, Bool.false_eq_true, if_false]; done) | rfl
   | false =>
    cases b2 with
    | true =>
     first | (simp only [if_true, Bool.false_eq_true, if_false]; done) | rfl
    | false =>
     cases b3 with
     | true =>
      first | (simp only [if_true, Bool.false_eq_true, if_false]; done) | rfl
     | false =>
      cases b4 with
      | true =>
       first | (simp only [if_true, Bool.false_eq_true, if_false]; done) | rfl
      | false =>
       cases b5 with
       | true =>
        first | (simp only [if_true, Bool.false_eq_true, if_false]; done) | rfl
       | false =>
        cases b6 with
        | true =>
         first | (simp only [if_true, Bool.false_eq_true, if_false]; done) | rfl
        | false =>
         cases b7 with
         | true =>
          first | (simp only [if_true, Bool.false_eq_true, if_false]; done) | rfl
         | false =>
          cases b8 with
          | true =>
           first | (simp only [if_true, Bool.false_eq_true, if_false]; done) | rfl
          | false =>
           first | (simp only [if_true, Bool.false_eq_true, if_false]; done) | rfl
theorem tab5_ok : TabOk Try.prog tab5 := tab_cons mixed tab4_ok (by decide) fun args v h => by
  unfold ans14 at h
  split at h
  · rename_i c0 h0
    split at h
    · rename_i x0 x1 x2 x3 h1
      injection h with h; subst h
      obtain rfl : c0 = #[.int .i64 x0, .int .i64 x1, .int .i64 x2, .int .i64 x3] := by rw [← Array.toArray_toList (xs := c0), h1]
      obtain rfl : args = #[.agg #[.int .i64 x0, .int .i64 x1, .int .i64 x2, .int .i64 x3]] := by rw [← Array.toArray_toList (xs := args), h0]
      exact ⟨rfl, rfl, ⟨[(11, 0), (14, 0), (19, 0), (23, 0), (28, 0)], [], []⟩, 300, by rw [tree14_eq]; exact tree14_res _ _ _ _⟩
    · cases h
  · cases h

/- gangsaw/box.coordinates -/
def ans59 : Ans := fun args => match args.toList with
  | [.agg c0] => match c0.toList with
    | [.int .i64 x0, .int .i64 x1, .int .i64 x2] => some (.agg #[.int .i64 (x0), .int .i64 (x1), .int .i64 (x2)])
    | _ => none
  | _ => none
def tab6 : Tab := (59, .ans ans59) :: tab5
def tree59 (x0 x1 x2 : Int) : Tr Value :=
  .leaf (some (.agg #[.int .i64 (x0), .int .i64 (x1), .int .i64 (x2)]))
theorem tree59_eq (x0 x1 x2 : Int) : vals (evFnT Try.prog (tb Try.prog tab5) (tbT Try.prog tab5) ⟨[], [], []⟩ noLoops 300 59 #[.agg #[.int .i64 x0, .int .i64 x1, .int .i64 x2]] []) = tree59 x0 x1 x2 := by kernel_rfl
theorem tree59_res (x0 x1 x2 : Int) : (tree59 x0 x1 x2).res = some (.agg #[.int .i64 (x0), .int .i64 (x1), .int .i64 (x2)]) := by
  rfl
theorem tab6_ok : TabOk Try.prog tab6 := tab_cons mixed tab5_ok (by decide) fun args v h => by
  unfold ans59 at h
  split at h
  · rename_i c0 h0
    split at h
    · rename_i x0 x1 x2 h1
      injection h with h; subst h
      obtain rfl : c0 = #[.int .i64 x0, .int .i64 x1, .int .i64 x2] := by rw [← Array.toArray_toList (xs := c0), h1]
      obtain rfl : args = #[.agg #[.int .i64 x0, .int .i64 x1, .int .i64 x2]] := by rw [← Array.toArray_toList (xs := args), h0]
      exact ⟨rfl, rfl, ⟨[], [], []⟩, 300, by rw [tree59_eq]; exact tree59_res _ _ _⟩
    · cases h
  · cases h

/- gangsaw/box.empty -/
def box_empty_0 (x0 x1 x2 x3 x4 x5 : Int) : Bool :=
  if Decidable.decide (x0 ≥ x3) then (Bool.true) else if Decidable.decide (x1 ≥ x4) then (Bool.true) else if Decidable.decide (x2 ≥ x5) then (Bool.true) else (Bool.false)
def ans60 : Ans := fun args => match args.toList with
  | [.agg c0] => match c0.toList with
    | [.int .i64 x0, .int .i64 x1, .int .i64 x2, .int .i64 x3, .int .i64 x4, .int .i64 x5] => some (.bool (box_empty_0 x0 x1 x2 x3 x4 x5))
    | _ => none
  | _ => none
def tab7 : Tab := (60, .ans ans60) :: tab6
def tree60 (x0 x1 x2 x3 x4 x5 : Int) : Tr Value :=
  .node 9 (Decidable.decide (x0 ≥ x3))
  (.leaf (some (.bool (Bool.true))))
  (.node 17 (Decidable.decide (x1 ≥ x4))
   (.leaf (some (.bool (Bool.true))))
   (.node 26 (Decidable.decide (x2 ≥ x5))
    (.leaf (some (.bool (Bool.true))))
    (.leaf (some (.bool (Bool.false))))))
theorem tree60_eq (x0 x1 x2 x3 x4 x5 : Int) : vals (evFnT Try.prog (tb Try.prog tab6) (tbT Try.prog tab6) ⟨[(9, 0), (17, 0), (26, 0)], [], []⟩ noLoops 300 60 #[.agg #[.int .i64 x0, .int .i64 x1, .int .i64 x2, .int .i64 x3, .int .i64 x4, .int .i64 x5]] []) = tree60 x0 x1 x2 x3 x4 x5 := by kernel_rfl
theorem tree60_res (x0 x1 x2 x3 x4 x5 : Int) : (tree60 x0 x1 x2 x3 x4 x5).res = some (.bool (box_empty_0 x0 x1 x2 x3 x4 x5)) := by
  unfold tree60 box_empty_0
  simp only [Tr.res]
  generalize (Decidable.decide (x0 ≥ x3)) = b0
  generalize (Decidable.decide (x1 ≥ x4)) = b1
  generalize (Decidable.decide (x2 ≥ x5)) = b2
  cases b0 with
  | true =>
   first | (simp only [if_true, Bool.false_eq_true, if_false]; done) | rfl
  | false =>
   cases b1 with
   | true =>
    first | (simp only [if_true, Bool.false_eq_true, if_false]; done) | rfl
   | false =>
    cases b2 with
    | true =>
     first | (simp only [if_true, Bool.false_eq_true, if_false]; done) | rfl
    | false =>
     first | (simp only [if_true, Bool.false_eq_true, if_false]; done) | rfl
theorem tab7_ok : TabOk Try.prog tab7 := tab_cons mixed tab6_ok (by decide) fun args v h => by
  unfold ans60 at h
  split at h
  · rename_i c0 h0
    split at h
    · rename_i x0 x1 x2 x3 x4 x5 h1
      injection h with h; subst h
      obtain rfl : c0 = #[.int .i64 x0, .int .i64 x1, .int .i64 x2, .int .i64 x3, .int .i64 x4, .int .i64 x5] := by rw [← Array.toArray_toList (xs := c0), h1]
      obtain rfl : args = #[.agg #[.int .i64 x0, .int .i64 x1, .int .i64 x2, .int .i64 x3, .int .i64 x4, .int .i64 x5]] := by rw [← Array.toArray_toList (xs := args), h0]
      exact ⟨rfl, rfl, ⟨[(9, 0), (17, 0), (26, 0)], [], []⟩, 300, by rw [tree60_eq]; exact tree60_res _ _ _ _ _ _⟩
    · cases h
  · cases h

/- gangsaw/box.Check -/
def box_Check_0 (x0 x1 x2 x3 x4 x5 : Int) : Int :=
  if Decidable.decide (imin x0 x3 < -1000000) then (6) else if Decidable.decide (imax x0 x3 > 1000000) then (6) else if Decidable.decide (imin x1 x4 < -1000000) then (6) else if Decidable.decide (imax x1 x4 > 1000000) then (6) else if Decidable.decide (imin x2 x5 < -1000000) then (6) else if Decidable.decide (imax x2 x5 > 1000000) then (6) else if box_empty_0 x0 x1 x2 x3 x4 x5 then (1) else (0)
def ans55 : Ans := fun args => match args.toList with
  | [.agg c0] => match c0.toList with
    | [.int .i64 x0, .int .i64 x1, .int .i64 x2, .int .i64 x3, .int .i64 x4, .int .i64 x5] => some (.int .i64 (box_Check_0 x0 x1 x2 x3 x4 x5))
    | _ => none
  | _ => none
def tab8 : Tab := (55, .ans ans55) :: tab7
def tree55 (x0 x1 x2 x3 x4 x5 : Int) : Tr Value :=
  .node 22 (Decidable.decide (imin x0 x3 < -1000000))
  (.leaf (some (.int .i64 (6))))
  (.node 31 (Decidable.decide (imax x0 x3 > 1000000))
   (.leaf (some (.int .i64 (6))))
   (.node 22 (Decidable.decide (imin x1 x4 < -1000000))
    (.leaf (some (.int .i64 (6))))
    (.node 31 (Decidable.decide (imax x1 x4 > 1000000))
     (.leaf (some (.int .i64 (6))))
     (.node 22 (Decidable.decide (imin x2 x5 < -1000000))
      (.leaf (some (.int .i64 (6))))
      (.node 31 (Decidable.decide (imax x2 x5 > 1000000))
       (.leaf (some (.int .i64 (6))))
       (.node 35 (box_empty_0 x0 x1 x2 x3 x4 x5)
        (.leaf (some (.int .i64 (1))))
        (.leaf (some (.int .i64 (0))))))))))
theorem tree55_eq (x0 x1 x2 x3 x4 x5 : Int) : vals (evFnT Try.prog (tb Try.prog tab7) (tbT Try.prog tab7) ⟨[(22, 0), (31, 0), (35, 0)], [], []⟩ noLoops 300 55 #[.agg #[.int .i64 x0, .int .i64 x1, .int .i64 x2, .int .i64 x3, .int .i64 x4, .int .i64 x5]] []) = tree55 x0 x1 x2 x3 x4 x5 := by kernel_rfl
theorem tree55_res (x0 x1 x2 x3 x4 x5 : Int) : (tree55 x0 x1 x2 x3 x4 x5).res = some (.int .i64 (box_Check_0 x0 x1 x2 x3 x4 x5)) := by
  unfold tree55 box_Check_0
  simp only [Tr.res]
  generalize (Decidable.decide (imin x0 x3 < -1000000)) = b0
  generalize (Decidable.decide (imax x0 x3 > 1000000)) = b1
  generalize (Decidable.decide (imin x1 x4 < -1000000)) = b2
  generalize (Decidable.decide (imax x1 x4 > 1000000)) = b3
  generalize (Decidable.decide (imin x2 x5 < -1000000)) = b4
  generalize (Decidable.decide (imax x2 x5 > 1000000)) = b5
  generalize (box_empty_0 x0 x1 x2 x3 x4 x5) = b6
  cases b0 with
  | true =>
   first | (simp only [if_true, Bool.false_eq_true, if_false]; done) | rfl
  | false =>
   cases b1 with
   | true =>
    first | (simp only [if_true, Bool.false_eq_true, if_false]; done) | rfl
   | false =>
    cases b2 with
    | true =>
     first | (simp only [if_true, Bool.false_eq_true, if_false]; done) | rfl
    | false =>
     cases b3 with
     | true =>
      first | (simp only [if_true, Bool.false_eq_true, if_false]; done) | rfl
     | false =>
      cases b4 with
      | true =>
       first | (simp only [if_true, Bool.false_eq_true, if_false]; done) | rfl
      | false =>
       cases b5 with
       | true =>
        first | (simp only [if_true, Bool.false_eq_true, if_false]; done) | rfl
       | false =>
        cases b6 with
        | true =>
         first | (simp only [if_true, Bool.false_eq_true, if_false]; done) | rfl
        | false =>
         first | (simp only [if_true, Bool.false_eq_true, if_false]; done) | rfl
theorem tab8_ok : TabOk Try.prog tab8 := tab_cons mixed tab7_ok (by decide) fun args v h => by
  unfold ans55 at h
  split at h
  · rename_i c0 h0
    split at h
    · rename_i x0 x1 x2 x3 x4 x5 h1
      injection h with h; subst h
      obtain rfl : c0 = #[.int .i64 x0, .int .i64 x1, .int .i64 x2, .int .i64 x3, .int .i64 x4, .int .i64 x5] := by rw [← Array.toArray_toList (xs := c0), h1]
      obtain rfl : args = #[.agg #[.int .i64 x0, .int .i64 x1, .int .i64 x2, .int .i64 x3, .int .i64 x4, .int .i64 x5]] := by rw [← Array.toArray_toList (xs := args), h0]
      exact ⟨rfl, rfl, ⟨[(22, 0), (31, 0), (35, 0)], [], []⟩, 300, by rw [tree55_eq]; exact tree55_res _ _ _ _ _ _⟩
    · cases h
  · cases h

/- gangsaw/plane.checkBoth -/
def plane_checkBoth_0 (x0 x1 x2 x3 x4 x5 x6 x7 x8 x9 : Int) : Int :=
  if plane_Check_0 x0 x1 x2 x3 != 0 then (plane_Check_0 x0 x1 x2 x3) else (box_Check_0 x4 x5 x6 x7 x8 x9)
def ans38 : Ans := fun args => match args.toList with
  | [.agg c0, .agg c1] => match c0.toList, c1.toList with
    | [.int .i64 x0, .int .i64 x1, .int .i64 x2, .int .i64 x3], [.int .i64 x4, .int .i64 x5, .int .i64 x6, .int .i64 x7, .int .i64 x8, .int .i64 x9] => some (.int .i64 (plane_checkBoth_0 x0 x1 x2 x3 x4 x5 x6 x7 x8 x9))
    | _, _ => none
  | _ => none
def tab9 : Tab := (38, .ans ans38) :: tab8
def tree38 (x0 x1 x2 x3 x4 x5 x6 x7 x8 x9 : Int) : Tr Value :=
  .node 9 (plane_Check_0 x0 x1 x2 x3 != 0)
  (.leaf (some (.int .i64 (plane_Check_0 x0 x1 x2 x3))))
  (.leaf (some (.int .i64 (box_Check_0 x4 x5 x6 x7 x8 x9))))
theorem tree38_eq (x0 x1 x2 x3 x4 x5 x6 x7 x8 x9 : Int) : vals (evFnT Try.prog (tb Try.prog tab8) (tbT Try.prog tab8) ⟨[(9, 0)], [], []⟩ noLoops 300 38 #[.agg #[.int .i64 x0, .int .i64 x1, .int .i64 x2, .int .i64 x3], .agg #[.int .i64 x4, .int .i64 x5, .int .i64 x6, .int .i64 x7, .int .i64 x8, .int .i64 x9]] []) = tree38 x0 x1 x2 x3 x4 x5 x6 x7 x8 x9 := by kernel_rfl
theorem tree38_res (x0 x1 x2 x3 x4 x5 x6 x7 x8 x9 : Int) : (tree38 x0 x1 x2 x3 x4 x5 x6 x7 x8 x9).res = some (.int .i64 (plane_checkBoth_0 x0 x1 x2 x3 x4 x5 x6 x7 x8 x9)) := by
  unfold tree38 plane_checkBoth_0
  simp only [Tr.res]
  generalize (plane_Check_0 x0 x1 x2 x3 != 0) = b0
  cases b0 with
  | true =>
   first | (simp only [if_true, Bool.false_eq_true, if_false]; done) | rfl
  | false =>
   first | (simp only [if_true, Bool.false_eq_true, if_false]; done) | rfl
theorem tab9_ok : TabOk Try.prog tab9 := tab_cons mixed tab8_ok (by decide) fun args v h => by
  unfold ans38 at h
  split at h
  · rename_i c0 c1 h0
    split at h
    · rename_i x0 x1 x2 x3 x4 x5 x6 x7 x8 x9 h1 h2
      injection h with h; subst h
      obtain rfl : c0 = #[.int .i64 x0, .int .i64 x1, .int .i64 x2, .int .i64 x3] := by rw [← Array.toArray_toList (xs := c0), h1]
      obtain rfl : c1 = #[.int .i64 x4, .int .i64 x5, .int .i64 x6, .int .i64 x7, .int .i64 x8, .int .i64 x9] := by rw [← Array.toArray_toList (xs := c1), h2]
      obtain rfl : args = #[.agg #[.int .i64 x0, .int .i64 x1, .int .i64 x2, .int .i64 x3], .agg #[.int .i64 x4, .int .i64 x5, .int .i64 x6, .int .i64 x7, .int .i64 x8, .int .i64 x9]] := by rw [← Array.toArray_toList (xs := args), h0]
      exact ⟨rfl, rfl, ⟨[(9, 0)], [], []⟩, 300, by rw [tree38_eq]; exact tree38_res _ _ _ _ _ _ _ _ _ _⟩
    · cases h
  · cases h

/- gangsaw/plane.extremes -/
def plane_extremes_0 (x0 x1 x2 x3 x4 x5 x6 x7 x8 x9 : Int) : Int :=
  (IntKind.i64.wrap (IntKind.i64.wrap (IntKind.i64.wrap (IntKind.i64.wrap (0 - x3) + imin (IntKind.i64.wrap (x0 * x4)) (IntKind.i64.wrap (x0 * x7))) + imin (IntKind.i64.wrap (x1 * x5)) (IntKind.i64.wrap (x1 * x8))) + imin (IntKind.i64.wrap (x2 * x6)) (IntKind.i64.wrap (x2 * x9))))
def plane_extremes_1 (x0 x1 x2 x3 x4 x5 x6 x7 x8 x9 : Int) : Int :=
  (IntKind.i64.wrap (IntKind.i64.wrap (IntKind.i64.wrap (IntKind.i64.wrap (0 - x3) + imax (IntKind.i64.wrap (x0 * x4)) (IntKind.i64.wrap (x0 * x7))) + imax (IntKind.i64.wrap (x1 * x5)) (IntKind.i64.wrap (x1 * x8))) + imax (IntKind.i64.wrap (x2 * x6)) (IntKind.i64.wrap (x2 * x9))))
def ans39 : Ans := fun args => match args.toList with
  | [.agg c0, .agg c1] => match c0.toList, c1.toList with
    | [.int .i64 x0, .int .i64 x1, .int .i64 x2, .int .i64 x3], [.int .i64 x4, .int .i64 x5, .int .i64 x6, .int .i64 x7, .int .i64 x8, .int .i64 x9] => some (.tuple #[.int .i64 (plane_extremes_0 x0 x1 x2 x3 x4 x5 x6 x7 x8 x9), .int .i64 (plane_extremes_1 x0 x1 x2 x3 x4 x5 x6 x7 x8 x9)])
    | _, _ => none
  | _ => none
def tab10 : Tab := (39, .ans ans39) :: tab9
def tree39 (x0 x1 x2 x3 x4 x5 x6 x7 x8 x9 : Int) : Tr Value :=
  .leaf (some (.tuple #[.int .i64 (IntKind.i64.wrap (IntKind.i64.wrap (IntKind.i64.wrap (IntKind.i64.wrap (0 - x3) + imin (IntKind.i64.wrap (x0 * x4)) (IntKind.i64.wrap (x0 * x7))) + imin (IntKind.i64.wrap (x1 * x5)) (IntKind.i64.wrap (x1 * x8))) + imin (IntKind.i64.wrap (x2 * x6)) (IntKind.i64.wrap (x2 * x9)))), .int .i64 (IntKind.i64.wrap (IntKind.i64.wrap (IntKind.i64.wrap (IntKind.i64.wrap (0 - x3) + imax (IntKind.i64.wrap (x0 * x4)) (IntKind.i64.wrap (x0 * x7))) + imax (IntKind.i64.wrap (x1 * x5)) (IntKind.i64.wrap (x1 * x8))) + imax (IntKind.i64.wrap (x2 * x6)) (IntKind.i64.wrap (x2 * x9))))]))
theorem tree39_eq (x0 x1 x2 x3 x4 x5 x6 x7 x8 x9 : Int) : vals (evFnT Try.prog (tb Try.prog tab9) (tbT Try.prog tab9) ⟨[], [], []⟩ noLoops 300 39 #[.agg #[.int .i64 x0, .int .i64 x1, .int .i64 x2, .int .i64 x3], .agg #[.int .i64 x4, .int .i64 x5, .int .i64 x6, .int .i64 x7, .int .i64 x8, .int .i64 x9]] []) = tree39 x0 x1 x2 x3 x4 x5 x6 x7 x8 x9 := by kernel_rfl
theorem tree39_res (x0 x1 x2 x3 x4 x5 x6 x7 x8 x9 : Int) : (tree39 x0 x1 x2 x3 x4 x5 x6 x7 x8 x9).res = some (.tuple #[.int .i64 (plane_extremes_0 x0 x1 x2 x3 x4 x5 x6 x7 x8 x9), .int .i64 (plane_extremes_1 x0 x1 x2 x3 x4 x5 x6 x7 x8 x9)]) := by
  rfl
theorem tab10_ok : TabOk Try.prog tab10 := tab_cons mixed tab9_ok (by decide) fun args v h => by
  unfold ans39 at h
  split at h
  · rename_i c0 c1 h0
    split at h
    · rename_i x0 x1 x2 x3 x4 x5 x6 x7 x8 x9 h1 h2
      injection h with h; subst h
      obtain rfl : c0 = #[.int .i64 x0, .int .i64 x1, .int .i64 x2, .int .i64 x3] := by rw [← Array.toArray_toList (xs := c0), h1]
      obtain rfl : c1 = #[.int .i64 x4, .int .i64 x5, .int .i64 x6, .int .i64 x7, .int .i64 x8, .int .i64 x9] := by rw [← Array.toArray_toList (xs := c1), h2]
      obtain rfl : args = #[.agg #[.int .i64 x0, .int .i64 x1, .int .i64 x2, .int .i64 x3], .agg #[.int .i64 x4, .int .i64 x5, .int .i64 x6, .int .i64 x7, .int .i64 x8, .int .i64 x9]] := by rw [← Array.toArray_toList (xs := args), h0]
      exact ⟨rfl, rfl, ⟨[], [], []⟩, 300, by rw [tree39_eq]; exact tree39_res _ _ _ _ _ _ _ _ _ _⟩
    · cases h
  · cases h

/- gangsaw/plane.Extremes -/
def plane_Extremes_0 (x0 x1 x2 x3 x4 x5 x6 x7 x8 x9 : Int) : Int :=
  if plane_checkBoth_0 x0 x1 x2 x3 x4 x5 x6 x7 x8 x9 != 0 then (0) else (plane_extremes_0 x0 x1 x2 x3 x4 x5 x6 x7 x8 x9)
def plane_Extremes_1 (x0 x1 x2 x3 x4 x5 x6 x7 x8 x9 : Int) : Int :=
  if plane_checkBoth_0 x0 x1 x2 x3 x4 x5 x6 x7 x8 x9 != 0 then (0) else (plane_extremes_1 x0 x1 x2 x3 x4 x5 x6 x7 x8 x9)
def plane_Extremes_2 (x0 x1 x2 x3 x4 x5 x6 x7 x8 x9 : Int) : Int :=
  if plane_checkBoth_0 x0 x1 x2 x3 x4 x5 x6 x7 x8 x9 != 0 then (plane_checkBoth_0 x0 x1 x2 x3 x4 x5 x6 x7 x8 x9) else (0)
def ans18 : Ans := fun args => match args.toList with
  | [.agg c0, .agg c1] => match c0.toList, c1.toList with
    | [.int .i64 x0, .int .i64 x1, .int .i64 x2, .int .i64 x3], [.int .i64 x4, .int .i64 x5, .int .i64 x6, .int .i64 x7, .int .i64 x8, .int .i64 x9] => some (.tuple #[.int .i64 (plane_Extremes_0 x0 x1 x2 x3 x4 x5 x6 x7 x8 x9), .int .i64 (plane_Extremes_1 x0 x1 x2 x3 x4 x5 x6 x7 x8 x9), .int .i64 (plane_Extremes_2 x0 x1 x2 x3 x4 x5 x6 x7 x8 x9)])
    | _, _ => none
  | _ => none
def tab11 : Tab := (18, .ans ans18) :: tab10
def tree18 (x0 x1 x2 x3 x4 x5 x6 x7 x8 x9 : Int) : Tr Value :=
  .node 14 (plane_checkBoth_0 x0 x1 x2 x3 x4 x5 x6 x7 x8 x9 != 0)
  (.leaf (some (.tuple #[.int .i64 (0), .int .i64 (0), .int .i64 (plane_checkBoth_0 x0 x1 x2 x3 x4 x5 x6 x7 x8 x9)])))
  (.leaf (some (.tuple #[.int .i64 (plane_extremes_0 x0 x1 x2 x3 x4 x5 x6 x7 x8 x9), .int .i64 (plane_extremes_1 x0 x1 x2 x3 x4 x5 x6 x7 x8 x9), .int .i64 (0)])))
theorem tree18_eq (x0 x1 x2 x3 x4 x5 x6 x7 x8 x9 : Int) : vals (evFnT Try.prog (tb Try.prog tab10) (tbT Try.prog tab10) ⟨[(14, 0)], [], []⟩ noLoops 300 18 #[.agg #[.int .i64 x0, .int .i64 x1, .int .i64 x2, .int .i64 x3], .agg #[.int .i64 x4, .int .i64 x5, .int .i64 x6, .int .i64 x7, .int .i64 x8, .int .i64 x9]] []) = tree18 x0 x1 x2 x3 x4 x5 x6 x7 x8 x9 := by kernel_rfl
theorem tree18_res (x0 x1 x2 x3 x4 x5 x6 x7 x8 x9 : Int) : (tree18 x0 x1 x2 x3 x4 x5 x6 x7 x8 x9).res = some (.tuple #[.int .i64 (plane_Extremes_0 x0 x1 x2 x3 x4 x5 x6 x7 x8 x9), .int .i64 (plane_Extremes_1 x0 x1 x2 x3 x4 x5 x6 x7 x8 x9), .int .i64 (plane_Extremes_2 x0 x1 x2 x3 x4 x5 x6 x7 x8 x9)]) := by
  unfold tree18 plane_Extremes_0 plane_Extremes_1 plane_Extremes_2
  simp only [Tr.res]
  generalize (plane_checkBoth_0 x0 x1 x2 x3 x4 x5 x6 x7 x8 x9 != 0) = b0
  cases b0 with
  | true =>
   first | (simp only [if_true, Bool.false_eq_true, if_false]; done) | rfl
  | false =>
   first | (simp only [if_true, Bool.false_eq_true, if_false]; done) | rfl
theorem tab11_ok : TabOk Try.prog tab11 := tab_cons mixed tab10_ok (by decide) fun args v h => by
  unfold ans18 at h
  split at h
  · rename_i c0 c1 h0
    split at h
    · rename_i x0 x1 x2 x3 x4 x5 x6 x7 x8 x9 h1 h2
      injection h with h; subst h
      obtain rfl : c0 = #[.int .i64 x0, .int .i64 x1, .int .i64 x2, .int .i64 x3] := by rw [← Array.toArray_toList (xs := c0), h1]
      obtain rfl : c1 = #[.int .i64 x4, .int .i64 x5, .int .i64 x6, .int .i64 x7, .int .i64 x8, .int .i64 x9] := by rw [← Array.toArray_toList (xs := c1), h2]
      obtain rfl : args = #[.agg #[.int .i64 x0, .int .i64 x1, .int .i64 x2, .int .i64 x3], .agg #[.int .i64 x4, .int .i64 x5, .int .i64 x6, .int .i64 x7, .int .i64 x8, .int .i64 x9]] := by rw [← Array.toArray_toList (xs := args), h0]
      exact ⟨rfl, rfl, ⟨[(14, 0)], [], []⟩, 300, by rw [tree18_eq]; exact tree18_res _ _ _ _ _ _ _ _ _ _⟩
    · cases h
  · cases h

/- gangsaw/plane.Side -/
def plane_Side_0 (x0 x1 x2 x3 x4 x5 x6 x7 x8 x9 : Int) : Int :=
  if plane_checkBoth_0 x0 x1 x2 x3 x4 x5 x6 x7 x8 x9 != 0 then (0) else if Decidable.decide (plane_extremes_1 x0 x1 x2 x3 x4 x5 x6 x7 x8 x9 ≤ 0) then (1) else if Decidable.decide (plane_extremes_0 x0 x1 x2 x3 x4 x5 x6 x7 x8 x9 ≥ 0) then (2) else (3)
def plane_Side_1 (x0 x1 x2 x3 x4 x5 x6 x7 x8 x9 : Int) : Int :=
  if plane_checkBoth_0 x0 x1 x2 x3 x4 x5 x6 x7 x8 x9 != 0 then (plane_checkBoth_0 x0 x1 x2 x3 x4 x5 x6 x7 x8 x9) else (0)
def ans19 : Ans := fun args => match args.toList with
  | [.agg c0, .agg c1] => match c0.toList, c1.toList with
    | [.int .i64 x0, .int .i64 x1, .int .i64 x2, .int .i64 x3], [.int .i64 x4, .int .i64 x5, .int .i64 x6, .int .i64 x7, .int .i64 x8, .int .i64 x9] => some (.tuple #[.int .i64 (plane_Side_0 x0 x1 x2 x3 x4 x5 x6 x7 x8 x9), .int .i64 (plane_Side_1 x0 x1 x2 x3 x4 x5 x6 x7 x8 x9)])
    | _, _ => none
  | _ => none
def tab12 : Tab := (19, .ans ans19) :: tab11
def tree19 (x0 x1 x2 x3 x4 x5 x6 x7 x8 x9 : Int) : Tr Value :=
  .node 13 (plane_checkBoth_0 x0 x1 x2 x3 x4 x5 x6 x7 x8 x9 != 0)
  (.leaf (some (.tuple #[.int .i64 (0), .int .i64 (plane_checkBoth_0 x0 x1 x2 x3 x4 x5 x6 x7 x8 x9)])))
  (.node 23 (Decidable.decide (plane_extremes_1 x0 x1 x2 x3 x4 x5 x6 x7 x8 x9 ≤ 0))
   (.leaf (some (.tuple #[.int .i64 (1), .int .i64 (0)])))
   (.node 26 (Decidable.decide (plane_extremes_0 x0 x1 x2 x3 x4 x5 x6 x7 x8 x9 ≥ 0))
    (.leaf (some (.tuple #[.int .i64 (2), .int .i64 (0)])))
    (.leaf (some (.tuple #[.int .i64 (3), .int .i64 (0)])))))
theorem tree19_eq (x0 x1 x2 x3 x4 x5 x6 x7 x8 x9 : Int) : vals (evFnT Try.prog (tb Try.prog tab11) (tbT Try.prog tab11) ⟨[(13, 0), (23, 0), (26, 0)], [], []⟩ noLoops 300 19 #[.agg #[.int .i64 x0, .int .i64 x1, .int .i64 x2, .int .i64 x3], .agg #[.int .i64 x4, .int .i64 x5, .int .i64 x6, .int .i64 x7, .int .i64 x8, .int .i64 x9]] []) = tree19 x0 x1 x2 x3 x4 x5 x6 x7 x8 x9 := by kernel_rfl
theorem tree19_res (x0 x1 x2 x3 x4 x5 x6 x7 x8 x9 : Int) : (tree19 x0 x1 x2 x3 x4 x5 x6 x7 x8 x9).res = some (.tuple #[.int .i64 (plane_Side_0 x0 x1 x2 x3 x4 x5 x6 x7 x8 x9), .int .i64 (plane_Side_1 x0 x1 x2 x3 x4 x5 x6 x7 x8 x9)]) := by
  unfold tree19 plane_Side_0 plane_Side_1
  simp only [Tr.res]
  generalize (plane_checkBoth_0 x0 x1 x2 x3 x4 x5 x6 x7 x8 x9 != 0) = b0
  generalize (Decidable.decide (plane_extremes_1 x0 x1 x2 x3 x4 x5 x6 x7 x8 x9 ≤ 0)) = b1
  generalize (Decidable.decide (plane_extremes_0 x0 x1 x2 x3 x4 x5 x6 x7 x8 x9 ≥ 0)) = b2
  cases b0 with
  | true =>
   first | (simp only [if_true, Bool.false_eq_true, if_false]; done) | rfl
  | false =>
   cases b1 with
   | true =>
    first | (simp only [if_true, Bool.false_eq_true, if_false]; done) | rfl
   | false =>
    cases b2 with
    | true =>
     first | (simp only [if_true, Bool.false_eq_true, if_false]; done) | rfl
    | false =>
     first | (simp only [if_true, Bool.false_eq_true, if_false]; done) | rfl
theorem tab12_ok : TabOk Try.prog tab12 := tab_cons mixed tab11_ok (by decide) fun args v h => by
  unfold ans19 at h
  split at h
  · rename_i c0 c1 h0
    split at h
    · rename_i x0 x1 x2 x3 x4 x5 x6 x7 x8 x9 h1 h2
      injection h with h; subst h
      obtain rfl : c0 = #[.int .i64 x0, .int .i64 x1, .int .i64 x2, .int .i64 x3] := by rw [← Array.toArray_toList (xs := c0), h1]
      obtain rfl : c1 = #[.int .i64 x4, .int .i64 x5, .int .i64 x6, .int .i64 x7, .int .i64 x8, .int .i64 x9] := by rw [← Array.toArray_toList (xs := c1), h2]
      obtain rfl : args = #[.agg #[.int .i64 x0, .int .i64 x1, .int .i64 x2, .int .i64 x3], .agg #[.int .i64 x4, .int .i64 x5, .int .i64 x6, .int .i64 x7, .int .i64 x8, .int .i64 x9]] := by rw [← Array.toArray_toList (xs := args), h0]
      exact ⟨rfl, rfl, ⟨[(13, 0), (23, 0), (26, 0)], [], []⟩, 300, by rw [tree19_eq]; exact tree19_res _ _ _ _ _ _ _ _ _ _⟩
    · cases h
  · cases h

/- gangsaw/gangsawref07.factor -/
def ref07_factor_0 (x0 : Int) : Bool :=
  if Decidable.decide (x0 ≥ -1000) then (if Decidable.decide (x0 ≤ 1000) then (Bool.true) else (Bool.false)) else (Bool.false)
def ans36 : Ans := fun args => match args.toList with
  | [.int .i64 x0] => some (.bool (ref07_factor_0 x0))
  | _ => none
def tab13 : Tab := (36, .ans ans36) :: tab12
def tree36 (x0 : Int) : Tr Value :=
  .node 4 (Decidable.decide (x0 ≥ -1000))
  (.node 7 (Decidable.decide (x0 ≤ 1000))
   (.leaf (some (.bool (Bool.true))))
   (.leaf (some (.bool (Bool.false)))))
  (.leaf (some (.bool (Bool.false))))
theorem tree36_eq (x0 : Int) : vals (evFnT Try.prog (tb Try.prog tab12) (tbT Try.prog tab12) ⟨[(4, 0), (7, 0)], [], []⟩ noLoops 300 36 #[.int .i64 x0] []) = tree36 x0 := by kernel_rfl
theorem tree36_res (x0 : Int) : (tree36 x0).res = some (.bool (ref07_factor_0 x0)) := by
  unfold tree36 ref07_factor_0
  simp only [Tr.res]
  generalize (Decidable.decide (x0 ≥ -1000)) = b0
  generalize (Decidable.decide (x0 ≤ 1000)) = b1
  cases b0 with
  | true =>
   cases b1 with
   | true =>
    first | (simp only [if_true, Bool.false_eq_true, if_false]; done) | rfl
   | false =>
    first | (simp only [if_true, Bool.false_eq_true, if_false]; done) | rfl
  | false =>
   first | (simp only [if_true, Bool.false_eq_true, if_false]; done) | rfl
theorem tab13_ok : TabOk Try.prog tab13 := tab_cons mixed tab12_ok (by decide) fun args v h => by
  unfold ans36 at h
  split at h
  · rename_i x0 h0
    injection h with h; subst h
    obtain rfl : args = #[.int .i64 x0] := by rw [← Array.toArray_toList (xs := args), h0]
    exact ⟨rfl, rfl, ⟨[(4, 0), (7, 0)], [], []⟩, 300, by rw [tree36_eq]; exact tree36_res _⟩
  · cases h

/- gangsaw/gangsawref07.Check -/
def ref07_Check_0 (x0 x1 x2 x3 : Int) : Int :=
  if ref07_factor_0 x0 then (if ref07_factor_0 x1 then (if ref07_factor_0 x2 then (if Decidable.decide (x3 < -4000000000) then (6) else if Decidable.decide (x3 > 4000000000) then (6) else if x0 == 0 then (if x1 == 0 then (if x2 == 0 then (1) else (0)) else (0)) else (0)) else (6)) else (6)) else (6)
def ans15 : Ans := fun args => match args.toList with
  | [.agg c0] => match c0.toList with
    | [.int .i64 x0, .int .i64 x1, .int .i64 x2, .int .i64 x3] => some (.int .i64 (ref07_Check_0 x0 x1 x2 x3))
    | _ => none
  | _ => none
def tab14 : Tab := (15, .ans ans15) :: tab13
def tree15 (x0 x1 x2 x3 : Int) : Tr Value :=
  .node 5 (ref07_factor_0 x0)
  (.node 10 (ref07_factor_0 x1)
   (.node 16 (ref07_factor_0 x2)
    (.node 22 (Decidable.decide (x3 < -4000000000))
     (.leaf (some (.int .i64 (6))))
     (.node 27 (Decidable.decide (x3 > 4000000000))
      (.leaf (some (.int .i64 (6))))
      (.node 31 (x0 == 0)
       (.node 35 (x1 == 0)
        (.node 40 (x2 == 0)
         (.leaf (some (.int .i64 (1))))
         (.leaf (some (.int .i64 (0)))))
        (.leaf (some (.int .i64 (0)))))
       (.leaf (some (.int .i64 (0)))))))
    (.leaf (some (.int .i64 (6)))))
   (.leaf (some (.int .i64 (6)))))
  (.leaf (some (.int .i64 (6))))
theorem tree15_eq (x0 x1 x2 x3 : Int) : vals (evFnT Try.prog (tb Try.prog tab13) (tbT Try.prog tab13) ⟨[(5, 0), (10, 0), (16, 0), (22, 0), (27, 0), (31, 0), (35, 0), (40, 0)], [], []⟩ noLoops 300 15 #[.agg #[.int .i64 x0, .int .i64 x1, .int .i64 x2, .int .i64 x3]] []) = tree15 x0 x1 x2 x3 := by kernel_rfl
theorem tree15_res (x0 x1 x2 x3 : Int) : (tree15 x0 x1 x2 x3).res = some (.int .i64 (ref07_Check_0 x0 x1 x2 x3)) := by
  unfold tree15 ref07_Check_0
  simp only [Tr.res]
  generalize (ref07_factor_0 x0) = b0
  generalize (ref07_factor_0 x1) = b1
  generalize (ref07_factor_0 x2) = b2
  generalize (Decidable.decide (x3 < -4000000000)) = b3
  generalize (Decidable.decide (x3 > 4000000000)) = b4
  generalize (x0 == 0) = b5
  generalize (x1 == 0) = b6
  generalize (x2 == 0) = b7
  cases b0 with
  | true =>
   cases b1 with
   | true =>
    cases b2 with
    | true =>
     cases b3 with
     | true =>
      first | (simp only [if_true, Bool.false_eq_true, if_false]; done) | rfl
     | false =>
      cases b4 with
      | true =>
       first | (simp only [if_true, Bool.false_eq_true, if_false]; done) | rfl
      | false =>
       cases b5 with
       | true =>
        cases b6 with
        | true =>
         cases b7 with
         | true =>
          first | (simp only [if_true, Bool.false_eq_true, if_false]; done) | rfl
         | false =>
          first | (simp only [if_true, Bool.false_eq_true, if_false]; done) | rfl
        | false =>
         first | (simp only [if_true, Bool.false_eq_true, if_false]; done) | rfl
       | false =>
        first | (simp only [if_true, Bool.false_eq_true, if_false]; done) | rfl
    | false =>
     first | (simp only [if_true, Bool.false_eq_true, if_false]; done) | rfl
   | false =>
    first | (simp only [if_true, Bool.false_eq_true, if_false]; done) | rfl
  | false =>
   first | (simp only [if_true, Bool.false_eq_true, if_false]; done) | rfl
theorem tab14_ok : TabOk Try.prog tab14 := tab_cons mixed tab13_ok (by decide) fun args v h => by
  unfold ans15 at h
  split at h
  · rename_i c0 h0
    split at h
    · rename_i x0 x1 x2 x3 h1
      injection h with h; subst h
      obtain rfl : c0 = #[.int .i64 x0, .int .i64 x1, .int .i64 x2, .int .i64 x3] := by rw [← Array.toArray_toList (xs := c0), h1]
      obtain rfl : args = #[.agg #[.int .i64 x0, .int .i64 x1, .int .i64 x2, .int .i64 x3]] := by rw [← Array.toArray_toList (xs := args), h0]
      exact ⟨rfl, rfl, ⟨[(5, 0), (10, 0), (16, 0), (22, 0), (27, 0), (31, 0), (35, 0), (40, 0)], [], []⟩, 300, by rw [tree15_eq]; exact tree15_res _ _ _ _⟩
    · cases h
  · cases h

/- gangsaw/gangsawref06.At -/
def ref06_At_0 (x0 x1 x2 x3 : Int) : Int :=
  if x3 == 0 then (x0) else if x3 == 1 then (x1) else (x2)
def ans56 : Ans := fun args => match args.toList with
  | [.agg c0, .int .i64 x3] => match c0.toList with
    | [.int .i64 x0, .int .i64 x1, .int .i64 x2] => some (.int .i64 (ref06_At_0 x0 x1 x2 x3))
    | _ => none
  | _ => none
def tab15 : Tab := (56, .ans ans56) :: tab14
def tree56 (x0 x1 x2 x3 : Int) : Tr Value :=
  .node 7 (x3 == 0)
  (.leaf (some (.int .i64 (x0))))
  (.node 11 (x3 == 1)
   (.leaf (some (.int .i64 (x1))))
   (.leaf (some (.int .i64 (x2)))))
theorem tree56_eq (x0 x1 x2 x3 : Int) : vals (evFnT Try.prog (tb Try.prog tab14) (tbT Try.prog tab14) ⟨[(7, 0), (11, 0)], [], []⟩ noLoops 300 56 #[.agg #[.int .i64 x0, .int .i64 x1, .int .i64 x2], .int .i64 x3] []) = tree56 x0 x1 x2 x3 := by kernel_rfl
theorem tree56_res (x0 x1 x2 x3 : Int) : (tree56 x0 x1 x2 x3).res = some (.int .i64 (ref06_At_0 x0 x1 x2 x3)) := by
  unfold tree56 ref06_At_0
  simp only [Tr.res]
  generalize (x3 == 0) = b0
  generalize (x3 == 1) = b1
  cases b0 with
  | true =>
   first | (simp only [if_true, Bool.false_eq_true, if_false]; done) | rfl
  | false =>
   cases b1 with
   | true =>
    first | (simp only [if_true, Bool.false_eq_true, if_false]; done) | rfl
   | false =>
    first | (simp only [if_true, Bool.false_eq_true, if_false]; done) | rfl
theorem tab15_ok : TabOk Try.prog tab15 := tab_cons mixed tab14_ok (by decide) fun args v h => by
  unfold ans56 at h
  split at h
  · rename_i c0 x3 h0
    split at h
    · rename_i x0 x1 x2 h1
      injection h with h; subst h
      obtain rfl : c0 = #[.int .i64 x0, .int .i64 x1, .int .i64 x2] := by rw [← Array.toArray_toList (xs := c0), h1]
      obtain rfl : args = #[.agg #[.int .i64 x0, .int .i64 x1, .int .i64 x2], .int .i64 x3] := by rw [← Array.toArray_toList (xs := args), h0]
      exact ⟨rfl, rfl, ⟨[(7, 0), (11, 0)], [], []⟩, 300, by rw [tree56_eq]; exact tree56_res _ _ _ _⟩
    · cases h
  · cases h

/- gangsaw/gangsawref06.Check -/
def ref06_Check_0 (x0 x1 x2 x3 x4 x5 : Int) : Int :=
  if Decidable.decide (ref06_At_0 x0 x1 x2 0 < -1000000) then (6) else if Decidable.decide (ref06_At_0 x0 x1 x2 0 > 1000000) then (6) else if Decidable.decide (ref06_At_0 x3 x4 x5 0 < -1000000) then (6) else if Decidable.decide (ref06_At_0 x3 x4 x5 0 > 1000000) then (6) else if Decidable.decide (ref06_At_0 x0 x1 x2 (IntKind.i64.wrap (0 + 1)) < -1000000) then (6) else if Decidable.decide (ref06_At_0 x0 x1 x2 (IntKind.i64.wrap (0 + 1)) > 1000000) then (6) else if Decidable.decide (ref06_At_0 x3 x4 x5 (IntKind.i64.wrap (0 + 1)) < -1000000) then (6) else if Decidable.decide (ref06_At_0 x3 x4 x5 (IntKind.i64.wrap (0 + 1)) > 1000000) then (6) else if Decidable.decide (ref06_At_0 x0 x1 x2 (IntKind.i64.wrap (IntKind.i64.wrap (0 + 1) + 1)) < -1000000) then (6) else if Decidable.decide (ref06_At_0 x0 x1 x2 (IntKind.i64.wrap (IntKind.i64.wrap (0 + 1) + 1)) > 1000000) then (6) else if Decidable.decide (ref06_At_0 x3 x4 x5 (IntKind.i64.wrap (IntKind.i64.wrap (0 + 1) + 1)) < -1000000) then (6) else if Decidable.decide (ref06_At_0 x3 x4 x5 (IntKind.i64.wrap (IntKind.i64.wrap (0 + 1) + 1)) > 1000000) then (6) else if Decidable.decide (ref06_At_0 x0 x1 x2 0 ≥ ref06_At_0 x3 x4 x5 0) then (1) else if Decidable.decide (ref06_At_0 x0 x1 x2 (IntKind.i64.wrap (0 + 1)) ≥ ref06_At_0 x3 x4 x5 (IntKind.i64.wrap (0 + 1))) then (1) else if Decidable.decide (ref06_At_0 x0 x1 x2 (IntKind.i64.wrap (IntKind.i64.wrap (0 + 1) + 1)) ≥ ref06_At_0 x3 x4 x5 (IntKind.i64.wrap (IntKind.i64.wrap (0 + 1) + 1))) then (1) else (0)
def ans40 : Ans := fun args => match args.toList with
  | [.agg c0] => match c0.toList with
    | [.int .i64 x0, .int .i64 x1, .int .i64 x2, .int .i64 x3, .int .i64 x4, .int .i64 x5] => some (.int .i64 (ref06_Check_0 x0 x1 x2 x3 x4 x5))
    | _ => none
  | _ => none
def tab16 : Tab := (40, .ans ans40) :: tab15
def tree40 (x0 x1 x2 x3 x4 x5 : Int) : Tr Value :=
  .node 20 (Decidable.decide (ref06_At_0 x0 x1 x2 0 < -1000000))
  (.leaf (some (.int .i64 (6))))
  (.node 23 (Decidable.decide (ref06_At_0 x0 x1 x2 0 > 1000000))
   (.leaf (some (.int .i64 (6))))
   (.node 27 (Decidable.decide (ref06_At_0 x3 x4 x5 0 < -1000000))
    (.leaf (some (.int .i64 (6))))
    (.node 31 (Decidable.decide (ref06_At_0 x3 x4 x5 0 > 1000000))
     (.leaf (some (.int .i64 (6))))
     (.node 20 (Decidable.decide (ref06_At_0 x0 x1 x2 (IntKind.i64.wrap (0 + 1)) < -1000000))
      (.leaf (some (.int .i64 (6))))
      (.node 23 (Decidable.decide (ref06_At_0 x0 x1 x2 (IntKind.i64.wrap (0 + 1)) > 1000000))
       (.leaf (some (.int .i64 (6))))
       (.node 27 (Decidable.decide (ref06_At_0 x3 x4 x5 (IntKind.i64.wrap (0 + 1)) < -1000000))
        (.leaf (some (.int .i64 (6))))
        (.node 31 (Decidable.decide (ref06_At_0 x3 x4 x5 (IntKind.i64.wrap (0 + 1)) > 1000000))
         (.leaf (some (.int .i64 (6))))
         (.node 20 (Decidable.decide (ref06_At_0 x0 x1 x2 (IntKind.i64.wrap (IntKind.i64.wrap (0 + 1) + 1)) < -1000000))
          (.leaf (some (.int .i64 (6))))
          (.node 23 (Decidable.decide (ref06_At_0 x0 x1 x2 (IntKind.i64.wrap (IntKind.i64.wrap (0 + 1) + 1)) > 1000000))
           (.leaf (some (.int .i64 (6))))
           (.node 27 (Decidable.decide (ref06_At_0 x3 x4 x5 (IntKind.i64.wrap (IntKind.i64.wrap (0 + 1) + 1)) < -1000000))
            (.leaf (some (.int .i64 (6))))
            (.node 31 (Decidable.decide (ref06_At_0 x3 x4 x5 (IntKind.i64.wrap (IntKind.i64.wrap (0 + 1) + 1)) > 1000000))
             (.leaf (some (.int .i64 (6))))
             (.node 45 (Decidable.decide (ref06_At_0 x0 x1 x2 0 ≥ ref06_At_0 x3 x4 x5 0))
              (.leaf (some (.int .i64 (1))))
              (.node 45 (Decidable.decide (ref06_At_0 x0 x1 x2 (IntKind.i64.wrap (0 + 1)) ≥ ref06_At_0 x3 x4 x5 (IntKind.i64.wrap (0 + 1))))
               (.leaf (some (.int .i64 (1))))
               (.node 45 (Decidable.decide (ref06_At_0 x0 x1 x2 (IntKind.i64.wrap (IntKind.i64.wrap (0 + 1) + 1)) ≥ ref06_At_0 x3 x4 x5 (IntKind.i64.wrap (IntKind.i64.wrap (0 + 1) + 1))))
                (.leaf (some (.int .i64 (1))))
                (.leaf (some (.int .i64 (0))))))))))))))))))
theorem tree40_eq (x0 x1 x2 x3 x4 x5 : Int) : vals (evFnT Try.prog (tb Try.prog tab15) (tbT Try.prog tab15) ⟨[(20, 0), (23, 0), (27, 0), (31, 0), (45, 0)], [], []⟩ noLoops 300 40 #[.agg #[.int .i64 x0, .int .i64 x1, .int .i64 x2, .int .i64 x3, .int .i64 x4, .int .i64 x5]] []) = tree40 x0 x1 x2 x3 x4 x5 := by kernel_rfl
theorem tree40_res (x0 x1 x2 x3 x4 x5 : Int) : (tree40 x0 x1 x2 x3 x4 x5).res = some (.int .i64 (ref06_Check_0 x0 x1 x2 x3 x4 x5)) := by
  unfold tree40 ref06_Check_0
  simp only [Tr.res]
  generalize (Decidable.decide (ref06_At_0 x0 x1 x2 0 < -1000000)) = b0
  generalize (Decidable.decide (ref06_At_0 x0 x1 x2 0 > 1000000)) = b1
  generalize (Decidable.decide (ref06_At_0 x3 x4 x5 0 < -1000000)) = b2
  generalize (Decidable.decide (ref06_At_0 x3 x4 x5 0 > 1000000)) = b3
  generalize (Decidable.decide (ref06_At_0 x0 x1 x2 (IntKind.i64.wrap (0 + 1)) < -1000000)) = b4
  generalize (Decidable.decide (ref06_At_0 x0 x1 x2 (IntKind.i64.wrap (0 + 1)) > 1000000)) = b5
  generalize (Decidable.decide (ref06_At_0 x3 x4 x5 (IntKind.i64.wrap (0 + 1)) < -1000000)) = b6
  generalize (Decidable.decide (ref06_At_0 x3 x4 x5 (IntKind.i64.wrap (0 + 1)) > 1000000)) = b7
  generalize (Decidable.decide (ref06_At_0 x0 x1 x2 (IntKind.i64.wrap (IntKind.i64.wrap (0 + 1) + 1)) < -1000000)) = b8
  generalize (Decidable.decide (ref06_At_0 x0 x1 x2 (IntKind.i64.wrap (IntKind.i64.wrap (0 + 1) + 1)) > 1000000)) = b9
  generalize (Decidable.decide (ref06_At_0 x3 x4 x5 (IntKind.i64.wrap (IntKind.i64.wrap (0 + 1) + 1)) < -1000000)) = b10
  generalize (Decidable.decide (ref06_At_0 x3 x4 x5 (IntKind.i64.wrap (IntKind.i64.wrap (0 + 1) + 1)) > 1000000)) = b11
  generalize (Decidable.decide (ref06_At_0 x0 x1 x2 0 ≥ ref06_At_0 x3 x4 x5 0)) = b12
  generalize (Decidable.decide (ref06_At_0 x0 x1 x2 (IntKind.i64.wrap (0 + 1)) ≥ ref06_At_0 x3 x4 x5 (IntKind.i64.wrap (0 + 1)))) = b13
  generalize (Decidable.decide (ref06_At_0 x0 x1 x2 (IntKind.i64.wrap (IntKind.i64.wrap (0 + 1) + 1)) ≥ ref06_At_0 x3 x4 x5 (IntKind.i64.wrap (IntKind.i64.wrap (0 + 1) + 1)))) = b14
  cases b0 with
  | true =>
   first | (simp only [if_true, Bool.false_eq_true, if_false]; done) | rfl
  | false =>
   cases b1 with
   | true =>
    first | (simp only [if_true, Bool.false_eq_true, if_false]; done) | rfl
   | false =>
    cases b2 with
    | true =>
     first | (simp only [if_true, Bool.false_eq_true, if_false]; done) | rfl
    | false =>
     cases b3 with
     | true =>
      first | (simp only [if_true, Bool.false_eq_true, if_false]; done) | rfl
     | false =>
      cases b4 with
      | true =>
       first | (simp only [if_true, Bool.false_eq_true, if_false]; done) | rfl
      | false =>
       cases b5 with
       | true =>
        first | (simp only [if_true, Bool.false_eq_true, if_false]; done) | rfl
       | false =>
        cases b6 with
        | true =>
         first | (simp only [if_true, Bool.false_eq_true, if_false]; done) | rfl
        | false =>
         cases b7 with
         | true =>
          first | (simp only [if_true, Bool.false_eq_true, if_false]; done) | rfl
         | false =>
          cases b8 with
          | true =>
           first | (simp only [if_true, Bool.false_eq_true, if_false]; done) | rfl
          | false =>
           cases b9 with
           | true =>
            first | (simp only [if_true, Bool.false_eq_true, if_false]; done) | rfl
           | false =>
            cases b10 with
            | true =>
             first | (simp only [if_true, Bool.false_eq_true, if_false]; done) | rfl
            | false =>
             cases b11 with
             | true =>
              first | (simp only [if_true, Bool.false_eq_true, if_false]; done) | rfl
             | false =>
              cases b12 with
              | true =>
               first | (simp only [if_true, Bool.false_eq_true, if_false]; done) | rfl
              | false =>
               cases b13 with
               | true =>
                first | (simp only [if_true, Bool.false_eq_true, if_false]; done) | rfl
               | false =>
                cases b14 with
                | true =>
                 first | (simp only [if_true, Bool.false_eq_true, if_false]; done) | rfl
                | false =>
                 first | (simp only [if_true, Bool.false_eq_true, if_false]; done) | rfl
theorem tab16_ok : TabOk Try.prog tab16 := tab_cons mixed tab15_ok (by decide) fun args v h => by
  unfold ans40 at h
  split at h
  · rename_i c0 h0
    split at h
    · rename_i x0 x1 x2 x3 x4 x5 h1
      injection h with h; subst h
      obtain rfl : c0 = #[.int .i64 x0, .int .i64 x1, .int .i64 x2, .int .i64 x3, .int .i64 x4, .int .i64 x5] := by rw [← Array.toArray_toList (xs := c0), h1]
      obtain rfl : args = #[.agg #[.int .i64 x0, .int .i64 x1, .int .i64 x2, .int .i64 x3, .int .i64 x4, .int .i64 x5]] := by rw [← Array.toArray_toList (xs := args), h0]
      exact ⟨rfl, rfl, ⟨[(20, 0), (23, 0), (27, 0), (31, 0), (45, 0)], [], []⟩, 300, by rw [tree40_eq]; exact tree40_res _ _ _ _ _ _⟩
    · cases h
  · cases h

/- gangsaw/gangsawref07.Valid -/
def ref07_Valid_0 (x0 x1 x2 x3 x4 x5 x6 x7 x8 x9 : Int) : Int :=
  if ref07_Check_0 x0 x1 x2 x3 != 0 then (ref07_Check_0 x0 x1 x2 x3) else (ref06_Check_0 x4 x5 x6 x7 x8 x9)
def ans20 : Ans := fun args => match args.toList with
  | [.agg c0, .agg c1] => match c0.toList, c1.toList with
    | [.int .i64 x0, .int .i64 x1, .int .i64 x2, .int .i64 x3], [.int .i64 x4, .int .i64 x5, .int .i64 x6, .int .i64 x7, .int .i64 x8, .int .i64 x9] => some (.int .i64 (ref07_Valid_0 x0 x1 x2 x3 x4 x5 x6 x7 x8 x9))
    | _, _ => none
  | _ => none
def tab17 : Tab := (20, .ans ans20) :: tab16
def tree20 (x0 x1 x2 x3 x4 x5 x6 x7 x8 x9 : Int) : Tr Value :=
  .node 9 (ref07_Check_0 x0 x1 x2 x3 != 0)
  (.leaf (some (.int .i64 (ref07_Check_0 x0 x1 x2 x3))))
  (.leaf (some (.int .i64 (ref06_Check_0 x4 x5 x6 x7 x8 x9))))
theorem tree20_eq (x0 x1 x2 x3 x4 x5 x6 x7 x8 x9 : Int) : vals (evFnT Try.prog (tb Try.prog tab16) (tbT Try.prog tab16) ⟨[(9, 0)], [], []⟩ noLoops 300 20 #[.agg #[.int .i64 x0, .int .i64 x1, .int .i64 x2, .int .i64 x3], .agg #[.int .i64 x4, .int .i64 x5, .int .i64 x6, .int .i64 x7, .int .i64 x8, .int .i64 x9]] []) = tree20 x0 x1 x2 x3 x4 x5 x6 x7 x8 x9 := by kernel_rfl
theorem tree20_res (x0 x1 x2 x3 x4 x5 x6 x7 x8 x9 : Int) : (tree20 x0 x1 x2 x3 x4 x5 x6 x7 x8 x9).res = some (.int .i64 (ref07_Valid_0 x0 x1 x2 x3 x4 x5 x6 x7 x8 x9)) := by
  unfold tree20 ref07_Valid_0
  simp only [Tr.res]
  generalize (ref07_Check_0 x0 x1 x2 x3 != 0) = b0
  cases b0 with
  | true =>
   first | (simp only [if_true, Bool.false_eq_true, if_false]; done) | rfl
  | false =>
   first | (simp only [if_true, Bool.false_eq_true, if_false]; done) | rfl
theorem tab17_ok : TabOk Try.prog tab17 := tab_cons mixed tab16_ok (by decide) fun args v h => by
  unfold ans20 at h
  split at h
  · rename_i c0 c1 h0
    split at h
    · rename_i x0 x1 x2 x3 x4 x5 x6 x7 x8 x9 h1 h2
      injection h with h; subst h
      obtain rfl : c0 = #[.int .i64 x0, .int .i64 x1, .int .i64 x2, .int .i64 x3] := by rw [← Array.toArray_toList (xs := c0), h1]
      obtain rfl : c1 = #[.int .i64 x4, .int .i64 x5, .int .i64 x6, .int .i64 x7, .int .i64 x8, .int .i64 x9] := by rw [← Array.toArray_toList (xs := c1), h2]
      obtain rfl : args = #[.agg #[.int .i64 x0, .int .i64 x1, .int .i64 x2, .int .i64 x3], .agg #[.int .i64 x4, .int .i64 x5, .int .i64 x6, .int .i64 x7, .int .i64 x8, .int .i64 x9]] := by rw [← Array.toArray_toList (xs := args), h0]
      exact ⟨rfl, rfl, ⟨[(9, 0)], [], []⟩, 300, by rw [tree20_eq]; exact tree20_res _ _ _ _ _ _ _ _ _ _⟩
    · cases h
  · cases h

/- gangsaw/gangsawref07.Value -/
def ref07_Value_0 (x0 x1 x2 x3 x4 x5 x6 : Int) : Int :=
  (IntKind.i64.wrap (IntKind.i64.wrap (IntKind.i64.wrap (IntKind.i64.wrap (x0 * x4) + IntKind.i64.wrap (x1 * x5)) + IntKind.i64.wrap (x2 * x6)) - x3))
def ans17 : Ans := fun args => match args.toList with
  | [.agg c0, .agg c1] => match c0.toList, c1.toList with
    | [.int .i64 x0, .int .i64 x1, .int .i64 x2, .int .i64 x3], [.int .i64 x4, .int .i64 x5, .int .i64 x6] => some (.int .i64 (ref07_Value_0 x0 x1 x2 x3 x4 x5 x6))
    | _, _ => none
  | _ => none
def tab18 : Tab := (17, .ans ans17) :: tab17
def tree17 (x0 x1 x2 x3 x4 x5 x6 : Int) : Tr Value :=
  .leaf (some (.int .i64 (IntKind.i64.wrap (IntKind.i64.wrap (IntKind.i64.wrap (IntKind.i64.wrap (x0 * x4) + IntKind.i64.wrap (x1 * x5)) + IntKind.i64.wrap (x2 * x6)) - x3))))
theorem tree17_eq (x0 x1 x2 x3 x4 x5 x6 : Int) : vals (evFnT Try.prog (tb Try.prog tab17) (tbT Try.prog tab17) ⟨[], [], []⟩ noLoops 300 17 #[.agg #[.int .i64 x0, .int .i64 x1, .int .i64 x2, .int .i64 x3], .agg #[.int .i64 x4, .int .i64 x5, .int .i64 x6]] []) = tree17 x0 x1 x2 x3 x4 x5 x6 := by kernel_rfl
theorem tree17_res (x0 x1 x2 x3 x4 x5 x6 : Int) : (tree17 x0 x1 x2 x3 x4 x5 x6).res = some (.int .i64 (ref07_Value_0 x0 x1 x2 x3 x4 x5 x6)) := by
  rfl
theorem tab18_ok : TabOk Try.prog tab18 := tab_cons mixed tab17_ok (by decide) fun args v h => by
  unfold ans17 at h
  split at h
  · rename_i c0 c1 h0
    split at h
    · rename_i x0 x1 x2 x3 x4 x5 x6 h1 h2
      injection h with h; subst h
      obtain rfl : c0 = #[.int .i64 x0, .int .i64 x1, .int .i64 x2, .int .i64 x3] := by rw [← Array.toArray_toList (xs := c0), h1]
      obtain rfl : c1 = #[.int .i64 x4, .int .i64 x5, .int .i64 x6] := by rw [← Array.toArray_toList (xs := c1), h2]
      obtain rfl : args = #[.agg #[.int .i64 x0, .int .i64 x1, .int .i64 x2, .int .i64 x3], .agg #[.int .i64 x4, .int .i64 x5, .int .i64 x6]] := by rw [← Array.toArray_toList (xs := args), h0]
      exact ⟨rfl, rfl, ⟨[], [], []⟩, 300, by rw [tree17_eq]; exact tree17_res _ _ _ _ _ _ _⟩
    · cases h
  · cases h

/- gangsaw/gangsawref07.Corners -/
def tab19 : Tab := (41, .inl ⟨[], [], []⟩ 300) :: tab18
theorem tab19_ok : TabOk Try.prog tab19 := tab_inl mixed tab18_ok _ _ _

/- gangsaw/gangsawref07.Extremes -/
def ref07_Extremes_0 (x0 x1 x2 x3 x4 x5 x6 x7 x8 x9 : Int) : Int :=
  (imin (imin (imin (imin (imin (imin (imin (ref07_Value_0 x0 x1 x2 x3 x4 x5 x6) (ref07_Value_0 x0 x1 x2 x3 x7 x5 x6)) (ref07_Value_0 x0 x1 x2 x3 x4 x8 x6)) (ref07_Value_0 x0 x1 x2 x3 x7 x8 x6)) (ref07_Value_0 x0 x1 x2 x3 x4 x5 x9)) (ref07_Value_0 x0 x1 x2 x3 x7 x5 x9)) (ref07_Value_0 x0 x1 x2 x3 x4 x8 x9)) (ref07_Value_0 x0 x1 x2 x3 x7 x8 x9))
def ref07_Extremes_1 (x0 x1 x2 x3 x4 x5 x6 x7 x8 x9 : Int) : Int :=
  (imax (imax (imax (imax (imax (imax (imax (ref07_Value_0 x0 x1 x2 x3 x4 x5 x6) (ref07_Value_0 x0 x1 x2 x3 x7 x5 x6)) (ref07_Value_0 x0 x1 x2 x3 x4 x8 x6)) (ref07_Value_0 x0 x1 x2 x3 x7 x8 x6)) (ref07_Value_0 x0 x1 x2 x3 x4 x5 x9)) (ref07_Value_0 x0 x1 x2 x3 x7 x5 x9)) (ref07_Value_0 x0 x1 x2 x3 x4 x8 x9)) (ref07_Value_0 x0 x1 x2 x3 x7 x8 x9))
def ans21 : Ans := fun args => match args.toList with
  | [.agg c0, .agg c1] => match c0.toList, c1.toList with
    | [.int .i64 x0, .int .i64 x1, .int .i64 x2, .int .i64 x3], [.int .i64 x4, .int .i64 x5, .int .i64 x6, .int .i64 x7, .int .i64 x8, .int .i64 x9] => some (.tuple #[.int .i64 (ref07_Extremes_0 x0 x1 x2 x3 x4 x5 x6 x7 x8 x9), .int .i64 (ref07_Extremes_1 x0 x1 x2 x3 x4 x5 x6 x7 x8 x9)])
    | _, _ => none
  | _ => none
def tab20 : Tab := (21, .ans ans21) :: tab19
def tree21 (x0 x1 x2 x3 x4 x5 x6 x7 x8 x9 : Int) : Tr Value :=
  .leaf (some (.tuple #[.int .i64 (imin (imin (imin (imin (imin (imin (imin (ref07_Value_0 x0 x1 x2 x3 x4 x5 x6) (ref07_Value_0 x0 x1 x2 x3 x7 x5 x6)) (ref07_Value_0 x0 x1 x2 x3 x4 x8 x6)) (ref07_Value_0 x0 x1 x2 x3 x7 x8 x6)) (ref07_Value_0 x0 x1 x2 x3 x4 x5 x9)) (ref07_Value_0 x0 x1 x2 x3 x7 x5 x9)) (ref07_Value_0 x0 x1 x2 x3 x4 x8 x9)) (ref07_Value_0 x0 x1 x2 x3 x7 x8 x9)), .int .i64 (imax (imax (imax (imax (imax (imax (imax (ref07_Value_0 x0 x1 x2 x3 x4 x5 x6) (ref07_Value_0 x0 x1 x2 x3 x7 x5 x6)) (ref07_Value_0 x0 x1 x2 x3 x4 x8 x6)) (ref07_Value_0 x0 x1 x2 x3 x7 x8 x6)) (ref07_Value_0 x0 x1 x2 x3 x4 x5 x9)) (ref07_Value_0 x0 x1 x2 x3 x7 x5 x9)) (ref07_Value_0 x0 x1 x2 x3 x4 x8 x9)) (ref07_Value_0 x0 x1 x2 x3 x7 x8 x9))]))
theorem tree21_eq (x0 x1 x2 x3 x4 x5 x6 x7 x8 x9 : Int) : vals (evFnT Try.prog (tb Try.prog tab19) (tbT Try.prog tab19) ⟨[], [], []⟩ noLoops 300 21 #[.agg #[.int .i64 x0, .int .i64 x1, .int .i64 x2, .int .i64 x3], .agg #[.int .i64 x4, .int .i64 x5, .int .i64 x6, .int .i64 x7, .int .i64 x8, .int .i64 x9]] []) = tree21 x0 x1 x2 x3 x4 x5 x6 x7 x8 x9 := by kernel_rfl
theorem tree21_res (x0 x1 x2 x3 x4 x5 x6 x7 x8 x9 : Int) : (tree21 x0 x1 x2 x3 x4 x5 x6 x7 x8 x9).res = some (.tuple #[.int .i64 (ref07_Extremes_0 x0 x1 x2 x3 x4 x5 x6 x7 x8 x9), .int .i64 (ref07_Extremes_1 x0 x1 x2 x3 x4 x5 x6 x7 x8 x9)]) := by
  rfl
theorem tab20_ok : TabOk Try.prog tab20 := tab_cons mixed tab19_ok (by decide) fun args v h => by
  unfold ans21 at h
  split at h
  · rename_i c0 c1 h0
    split at h
    · rename_i x0 x1 x2 x3 x4 x5 x6 x7 x8 x9 h1 h2
      injection h with h; subst h
      obtain rfl : c0 = #[.int .i64 x0, .int .i64 x1, .int .i64 x2, .int .i64 x3] := by rw [← Array.toArray_toList (xs := c0), h1]
      obtain rfl : c1 = #[.int .i64 x4, .int .i64 x5, .int .i64 x6, .int .i64 x7, .int .i64 x8, .int .i64 x9] := by rw [← Array.toArray_toList (xs := c1), h2]
      obtain rfl : args = #[.agg #[.int .i64 x0, .int .i64 x1, .int .i64 x2, .int .i64 x3], .agg #[.int .i64 x4, .int .i64 x5, .int .i64 x6, .int .i64 x7, .int .i64 x8, .int .i64 x9]] := by rw [← Array.toArray_toList (xs := args), h0]
      exact ⟨rfl, rfl, ⟨[], [], []⟩, 300, by rw [tree21_eq]; exact tree21_res _ _ _ _ _ _ _ _ _ _⟩
    · cases h
  · cases h

/- gangsaw/gangsawref07.Side -/
def ref07_Side_0 (x0 x1 x2 x3 x4 x5 x6 x7 x8 x9 : Int) : Int :=
  if Decidable.decide (ref07_Extremes_1 x0 x1 x2 x3 x4 x5 x6 x7 x8 x9 ≤ 0) then (1) else if Decidable.decide (ref07_Extremes_0 x0 x1 x2 x3 x4 x5 x6 x7 x8 x9 ≥ 0) then (2) else (3)
def ans22 : Ans := fun args => match args.toList with
  | [.agg c0, .agg c1] => match c0.toList, c1.toList with
    | [.int .i64 x0, .int .i64 x1, .int .i64 x2, .int .i64 x3], [.int .i64 x4, .int .i64 x5, .int .i64 x6, .int .i64 x7, .int .i64 x8, .int .i64 x9] => some (.int .i64 (ref07_Side_0 x0 x1 x2 x3 x4 x5 x6 x7 x8 x9))
    | _, _ => none
  | _ => none
def tab21 : Tab := (22, .ans ans22) :: tab20
def tree22 (x0 x1 x2 x3 x4 x5 x6 x7 x8 x9 : Int) : Tr Value :=
  .node 14 (Decidable.decide (ref07_Extremes_1 x0 x1 x2 x3 x4 x5 x6 x7 x8 x9 ≤ 0))
  (.leaf (some (.int .i64 (1))))
  (.node 16 (Decidable.decide (ref07_Extremes_0 x0 x1 x2 x3 x4 x5 x6 x7 x8 x9 ≥ 0))
   (.leaf (some (.int .i64 (2))))
   (.leaf (some (.int .i64 (3)))))
theorem tree22_eq (x0 x1 x2 x3 x4 x5 x6 x7 x8 x9 : Int) : vals (evFnT Try.prog (tb Try.prog tab20) (tbT Try.prog tab20) ⟨[(14, 0), (16, 0)], [], []⟩ noLoops 300 22 #[.agg #[.int .i64 x0, .int .i64 x1, .int .i64 x2, .int .i64 x3], .agg #[.int .i64 x4, .int .i64 x5, .int .i64 x6, .int .i64 x7, .int .i64 x8, .int .i64 x9]] []) = tree22 x0 x1 x2 x3 x4 x5 x6 x7 x8 x9 := by kernel_rfl
theorem tree22_res (x0 x1 x2 x3 x4 x5 x6 x7 x8 x9 : Int) : (tree22 x0 x1 x2 x3 x4 x5 x6 x7 x8 x9).res = some (.int .i64 (ref07_Side_0 x0 x1 x2 x3 x4 x5 x6 x7 x8 x9)) := by
  unfold tree22 ref07_Side_0
  simp only [Tr.res]
  generalize (Decidable.decide (ref07_Extremes_1 x0 x1 x2 x3 x4 x5 x6 x7 x8 x9 ≤ 0)) = b0
  generalize (Decidable.decide (ref07_Extremes_0 x0 x1 x2 x3 x4 x5 x6 x7 x8 x9 ≥ 0)) = b1
  cases b0 with
  | true =>
   first | (simp only [if_true, Bool.false_eq_true, if_false]; done) | rfl
  | false =>
   cases b1 with
   | true =>
    first | (simp only [if_true, Bool.false_eq_true, if_false]; done) | rfl
   | false =>
    first | (simp only [if_true, Bool.false_eq_true, if_false]; done) | rfl
theorem tab21_ok : TabOk Try.prog tab21 := tab_cons mixed tab20_ok (by decide) fun args v h => by
  unfold ans22 at h
  split at h
  · rename_i c0 c1 h0
    split at h
    · rename_i x0 x1 x2 x3 x4 x5 x6 x7 x8 x9 h1 h2
      injection h with h; subst h
      obtain rfl : c0 = #[.int .i64 x0, .int .i64 x1, .int .i64 x2, .int .i64 x3] := by rw [← Array.toArray_toList (xs := c0), h1]
      obtain rfl : c1 = #[.int .i64 x4, .int .i64 x5, .int .i64 x6, .int .i64 x7, .int .i64 x8, .int .i64 x9] := by rw [← Array.toArray_toList (xs := c1), h2]
      obtain rfl : args = #[.agg #[.int .i64 x0, .int .i64 x1, .int .i64 x2, .int .i64 x3], .agg #[.int .i64 x4, .int .i64 x5, .int .i64 x6, .int .i64 x7, .int .i64 x8, .int .i64 x9]] := by rw [← Array.toArray_toList (xs := args), h0]
      exact ⟨rfl, rfl, ⟨[(14, 0), (16, 0)], [], []⟩, 300, by rw [tree22_eq]; exact tree22_res _ _ _ _ _ _ _ _ _ _⟩
    · cases h
  · cases h

end Go.Proofs.Ytkllldhkikmbbaa.Vx
