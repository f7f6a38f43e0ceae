/- The answers of the functions of the package and of its reference, read off their texts. -/
import Derived.Test.YtgpcgcflmimnbaaXA
namespace Go.Proofs.Ytgpcgcflmimnbaa.Vx
open Go Go.RowKit Go.Proofs
set_option maxRecDepth 100000
set_option linter.unusedVariables false
set_option linter.unusedSimpArgs false
def tab0 : Tab := []
theorem tab0_ok : TabOk Try.prog tab0 := tab_nil

/- gangsaw/gangsawlaw06.awake -/
def ans11 : Ans := fun args => match args.toList with
  | [] => some (.bool true)
  | _ => none
def tab1 : Tab := (11, .ans ans11) :: tab0
theorem tab1_ok : TabOk Try.prog tab1 := tab_put tab0_ok (by decide) fun args v h => by
  unfold ans11 at h
  split at h
  · rename_i h0
    injection h with h; subst h
    obtain rfl : args = #[] := by rw [← Array.toArray_toList (xs := args), h0]
    exact ⟨rfl, rfl, fun w => awake_any w⟩
  · cases h

/- gangsaw/box.coordinates -/
def ans51 : Ans := fun args => match args.toList with
  | [.agg c0] => match c0.toList with
    | [.int .i64 x0, .int .i64 x1, .int .i64 x2] => some (.agg #[.int .i64 (x0), .int .i64 (x1), .int .i64 (x2)])
    | _ => none
  | _ => none
def tab2 : Tab := (51, .ans ans51) :: tab1
def tree51 (x0 x1 x2 : Int) : Tr Value :=
  .leaf (some (.agg #[.int .i64 (x0), .int .i64 (x1), .int .i64 (x2)]))
theorem tree51_eq (x0 x1 x2 : Int) : vals (evFnT Try.prog (tb Try.prog tab1) (tbT Try.prog tab1) [] 300 51 #[.agg #[.int .i64 x0, .int .i64 x1, .int .i64 x2]] []) = tree51 x0 x1 x2 := by kernel_rfl
theorem tree51_res (x0 x1 x2 : Int) : (tree51 x0 x1 x2).res = some (.agg #[.int .i64 (x0), .int .i64 (x1), .int .i64 (x2)]) := by
  rfl
theorem tab2_ok : TabOk Try.prog tab2 := tab_cons mixed tab1_ok (by decide) fun args v h => by
  unfold ans51 at h
  split at h
  · rename_i c0 h0
    split at h
    · rename_i x0 x1 x2 h1
      injection h with h; subst h
      obtain rfl : c0 = #[.int .i64 x0, .int .i64 x1, .int .i64 x2] := by rw [← Array.toArray_toList (xs := c0), h1]
      obtain rfl : args = #[.agg #[.int .i64 x0, .int .i64 x1, .int .i64 x2]] := by rw [← Array.toArray_toList (xs := args), h0]
      exact ⟨rfl, rfl, [], 300, by rw [tree51_eq]; exact tree51_res _ _ _⟩
    · cases h
  · cases h

/- gangsaw/box.empty -/
def box_empty_0 (x0 x1 x2 x3 x4 x5 : Int) : Bool :=
  if Decidable.decide (x0 ≥ x3) then (Bool.true) else if Decidable.decide (x1 ≥ x4) then (Bool.true) else if Decidable.decide (x2 ≥ x5) then (Bool.true) else (Bool.false)
def ans52 : Ans := fun args => match args.toList with
  | [.agg c0] => match c0.toList with
    | [.int .i64 x0, .int .i64 x1, .int .i64 x2, .int .i64 x3, .int .i64 x4, .int .i64 x5] => some (.bool (box_empty_0 x0 x1 x2 x3 x4 x5))
    | _ => none
  | _ => none
def tab3 : Tab := (52, .ans ans52) :: tab2
def tree52 (x0 x1 x2 x3 x4 x5 : Int) : Tr Value :=
  .node 9 (Decidable.decide (x0 ≥ x3))
  (.leaf (some (.bool (Bool.true))))
  (.node 17 (Decidable.decide (x1 ≥ x4))
   (.leaf (some (.bool (Bool.true))))
   (.node 26 (Decidable.decide (x2 ≥ x5))
    (.leaf (some (.bool (Bool.true))))
    (.leaf (some (.bool (Bool.false))))))
theorem tree52_eq (x0 x1 x2 x3 x4 x5 : Int) : vals (evFnT Try.prog (tb Try.prog tab2) (tbT Try.prog tab2) [(9, 0), (17, 0), (26, 0)] 300 52 #[.agg #[.int .i64 x0, .int .i64 x1, .int .i64 x2, .int .i64 x3, .int .i64 x4, .int .i64 x5]] []) = tree52 x0 x1 x2 x3 x4 x5 := by kernel_rfl
theorem tree52_res (x0 x1 x2 x3 x4 x5 : Int) : (tree52 x0 x1 x2 x3 x4 x5).res = some (.bool (box_empty_0 x0 x1 x2 x3 x4 x5)) := by
  unfold tree52 box_empty_0
  simp only [Tr.res]
  generalize (Decidable.decide (x0 ≥ x3)) = b0
  generalize (Decidable.decide (x1 ≥ x4)) = b1
  generalize (Decidable.decide (x2 ≥ x5)) = b2
  cases b0 with
  | true =>
   first | (simp only [if_true, Bool.false_eq_true, if_false]; done) | rfl
  | false =>
   cases b1 with
   | true =>
    first | (simp only [if_true, Bool.false_eq_true, if_false]; done) | rfl
   | false =>
    cases b2 with
    | true =>
     first | (simp only [if_true, Bool.false_eq_true, if_false]; done) | rfl
    | false =>
     first | (simp only [if_true, Bool.false_eq_true, if_false]; done) | rfl
theorem tab3_ok : TabOk Try.prog tab3 := tab_cons mixed tab2_ok (by decide) fun args v h => by
  unfold ans52 at h
  split at h
  · rename_i c0 h0
    split at h
    · rename_i x0 x1 x2 x3 x4 x5 h1
      injection h with h; subst h
      obtain rfl : c0 = #[.int .i64 x0, .int .i64 x1, .int .i64 x2, .int .i64 x3, .int .i64 x4, .int .i64 x5] := by rw [← Array.toArray_toList (xs := c0), h1]
      obtain rfl : args = #[.agg #[.int .i64 x0, .int .i64 x1, .int .i64 x2, .int .i64 x3, .int .i64 x4, .int .i64 x5]] := by rw [← Array.toArray_toList (xs := args), h0]
      exact ⟨rfl, rfl, [(9, 0), (17, 0), (26, 0)], 300, by rw [tree52_eq]; exact tree52_res _ _ _ _ _ _⟩
    · cases h
  · cases h

/- gangsaw/box.Check -/
def box_Check_0 (x0 x1 x2 x3 x4 x5 : Int) : Int :=
  if Decidable.decide (imin x0 x3 < -1000000) then (6) else if Decidable.decide (imax x0 x3 > 1000000) then (6) else if Decidable.decide (imin x1 x4 < -1000000) then (6) else if Decidable.decide (imax x1 x4 > 1000000) then (6) else if Decidable.decide (imin x2 x5 < -1000000) then (6) else if Decidable.decide (imax x2 x5 > 1000000) then (6) else if box_empty_0 x0 x1 x2 x3 x4 x5 then (1) else (0)
def ans15 : Ans := fun args => match args.toList with
  | [.agg c0] => match c0.toList with
    | [.int .i64 x0, .int .i64 x1, .int .i64 x2, .int .i64 x3, .int .i64 x4, .int .i64 x5] => some (.int .i64 (box_Check_0 x0 x1 x2 x3 x4 x5))
    | _ => none
  | _ => none
def tab4 : Tab := (15, .ans ans15) :: tab3
def tree15 (x0 x1 x2 x3 x4 x5 : Int) : Tr Value :=
  .node 22 (Decidable.decide (imin x0 x3 < -1000000))
  (.leaf (some (.int .i64 (6))))
  (.node 31 (Decidable.decide (imax x0 x3 > 1000000))
   (.leaf (some (.int .i64 (6))))
   (.node 22 (Decidable.decide (imin x1 x4 < -1000000))
    (.leaf (some (.int .i64 (6))))
    (.node 31 (Decidable.decide (imax x1 x4 > 1000000))
     (.leaf (some (.int .i64 (6))))
     (.node 22 (Decidable.decide (imin x2 x5 < -1000000))
      (.leaf (some (.int .i64 (6))))
      (.node 31 (Decidable.decide (imax x2 x5 > 1000000))
       (.leaf (some (.int .i64 (6))))
       (.node 35 (box_empty_0 x0 x1 x2 x3 x4 x5)
        (.leaf (some (.int .i64 (1))))
        (.leaf (some (.int .i64 (0))))))))))
theorem tree15_eq (x0 x1 x2 x3 x4 x5 : Int) : vals (evFnT Try.prog (tb Try.prog tab3) (tbT Try.prog tab3) [(22, 0), (31, 0), (35, 0)] 300 15 #[.agg #[.int .i64 x0, .int .i64 x1, .int .i64 x2, .int .i64 x3, .int .i64 x4, .int .i64 x5]] []) = tree15 x0 x1 x2 x3 x4 x5 := by kernel_rfl
theorem tree15_res (x0 x1 x2 x3 x4 x5 : Int) : (tree15 x0 x1 x2 x3 x4 x5).res = some (.int .i64 (box_Check_0 x0 x1 x2 x3 x4 x5)) := by
  unfold tree15 box_Check_0
  simp only [Tr.res]
  generalize (Decidable.decide (imin x0 x3 < -1000000)) = b0
  generalize (Decidable.decide (imax x0 x3 > 1000000)) = b1
  generalize (Decidable.decide (imin x1 x4 < -1000000)) = b2
  generalize (Decidable.decide (imax x1 x4 > 1000000)) = b3
  generalize (Decidable.decide (imin x2 x5 < -1000000)) = b4
  generalize (Decidable.decide (imax x2 x5 > 1000000)) = b5
  generalize (box_empty_0 x0 x1 x2 x3 x4 x5) = b6
  cases b0 with
  | true =>
   first | (simp only [if_true, Bool.false_eq_true, if_false]; done) | rfl
  | false =>
   cases b1 with
   | true =>
    first | (simp only [if_true, Bool.false_eq_true, if_false]; done) | rfl
   | false =>
    cases b2 with
    | true =>
     first | (simp only [if_true, Bool.false_eq_true, if_false]; done) | rfl
    | false =>
     cases b3 with
     | true =>
      first | (simp only [if_true, Bool.false_eq_true, if_false]; done) | rfl
     | false =>
      cases b4 with
      | true =>
       first | (simp only [if_true, Bool.false_eq_true, if_false]; done) | rfl
      | false =>
       cases b5 with
       | true =>
        first | (simp only [if_true, Bool.false_eq_true, if_false]; done) | rfl
       | false =>
        cases b6 with
        | true =>
         first | (simp only [if_true, Bool.false_eq_true, if_false]; done) | rfl
        | false =>
         first | (simp only [if_true, Bool.false_eq_true, if_false]; done) | rfl
theorem tab4_ok : TabOk Try.prog tab4 := tab_cons mixed tab3_ok (by decide) fun args v h => by
  unfold ans15 at h
  split at h
  · rename_i c0 h0
    split at h
    · rename_i x0 x1 x2 x3 x4 x5 h1
      injection h with h; subst h
      obtain rfl : c0 = #[.int .i64 x0, .int .i64 x1, .int .i64 x2, .int .i64 x3, .int .i64 x4, .int .i64 x5] := by rw [← Array.toArray_toList (xs := c0), h1]
      obtain rfl : args = #[.agg #[.int .i64 x0, .int .i64 x1, .int .i64 x2, .int .i64 x3, .int .i64 x4, .int .i64 x5]] := by rw [← Array.toArray_toList (xs := args), h0]
      exact ⟨rfl, rfl, [(22, 0), (31, 0), (35, 0)], 300, by rw [tree15_eq]; exact tree15_res _ _ _ _ _ _⟩
    · cases h
  · cases h

/- gangsaw/box.Size -/
def ans16 : Ans := fun args => match args.toList with
  | [.agg c0] => match c0.toList with
    | [.int .i64 x0, .int .i64 x1, .int .i64 x2, .int .i64 x3, .int .i64 x4, .int .i64 x5] => some (.agg #[.int .i64 (IntKind.i64.wrap (x3 - x0)), .int .i64 (IntKind.i64.wrap (x4 - x1)), .int .i64 (IntKind.i64.wrap (x5 - x2))])
    | _ => none
  | _ => none
def tab5 : Tab := (16, .ans ans16) :: tab4
def tree16 (x0 x1 x2 x3 x4 x5 : Int) : Tr Value :=
  .leaf (some (.agg #[.int .i64 (IntKind.i64.wrap (x3 - x0)), .int .i64 (IntKind.i64.wrap (x4 - x1)), .int .i64 (IntKind.i64.wrap (x5 - x2))]))
theorem tree16_eq (x0 x1 x2 x3 x4 x5 : Int) : vals (evFnT Try.prog (tb Try.prog tab4) (tbT Try.prog tab4) [] 300 16 #[.agg #[.int .i64 x0, .int .i64 x1, .int .i64 x2, .int .i64 x3, .int .i64 x4, .int .i64 x5]] []) = tree16 x0 x1 x2 x3 x4 x5 := by kernel_rfl
theorem tree16_res (x0 x1 x2 x3 x4 x5 : Int) : (tree16 x0 x1 x2 x3 x4 x5).res = some (.agg #[.int .i64 (IntKind.i64.wrap (x3 - x0)), .int .i64 (IntKind.i64.wrap (x4 - x1)), .int .i64 (IntKind.i64.wrap (x5 - x2))]) := by
  rfl
theorem tab5_ok : TabOk Try.prog tab5 := tab_cons mixed tab4_ok (by decide) fun args v h => by
  unfold ans16 at h
  split at h
  · rename_i c0 h0
    split at h
    · rename_i x0 x1 x2 x3 x4 x5 h1
      injection h with h; subst h
      obtain rfl : c0 = #[.int .i64 x0, .int .i64 x1, .int .i64 x2, .int .i64 x3, .int .i64 x4, .int .i64 x5] := by rw [← Array.toArray_toList (xs := c0), h1]
      obtain rfl : args = #[.agg #[.int .i64 x0, .int .i64 x1, .int .i64 x2, .int .i64 x3, .int .i64 x4, .int .i64 x5]] := by rw [← Array.toArray_toList (xs := args), h0]
      exact ⟨rfl, rfl, [], 300, by rw [tree16_eq]; exact tree16_res _ _ _ _ _ _⟩
    · cases h
  · cases h

/- gangsaw/box.volume -/
def box_volume_0 (x0 x1 x2 x3 x4 x5 : Int) : Int :=
  (IntKind.i64.wrap (IntKind.i64.wrap (IntKind.i64.wrap (x3 - x0) * IntKind.i64.wrap (x4 - x1)) * IntKind.i64.wrap (x5 - x2)))
def ans49 : Ans := fun args => match args.toList with
  | [.agg c0] => match c0.toList with
    | [.int .i64 x0, .int .i64 x1, .int .i64 x2, .int .i64 x3, .int .i64 x4, .int .i64 x5] => some (.int .i64 (box_volume_0 x0 x1 x2 x3 x4 x5))
    | _ => none
  | _ => none
def tab6 : Tab := (49, .ans ans49) :: tab5
def tree49 (x0 x1 x2 x3 x4 x5 : Int) : Tr Value :=
  .leaf (some (.int .i64 (IntKind.i64.wrap (IntKind.i64.wrap (IntKind.i64.wrap (x3 - x0) * IntKind.i64.wrap (x4 - x1)) * IntKind.i64.wrap (x5 - x2)))))
theorem tree49_eq (x0 x1 x2 x3 x4 x5 : Int) : vals (evFnT Try.prog (tb Try.prog tab5) (tbT Try.prog tab5) [] 300 49 #[.agg #[.int .i64 x0, .int .i64 x1, .int .i64 x2, .int .i64 x3, .int .i64 x4, .int .i64 x5]] []) = tree49 x0 x1 x2 x3 x4 x5 := by kernel_rfl
theorem tree49_res (x0 x1 x2 x3 x4 x5 : Int) : (tree49 x0 x1 x2 x3 x4 x5).res = some (.int .i64 (box_volume_0 x0 x1 x2 x3 x4 x5)) := by
  rfl
theorem tab6_ok : TabOk Try.prog tab6 := tab_cons mixed tab5_ok (by decide) fun args v h => by
  unfold ans49 at h
  split at h
  · rename_i c0 h0
    split at h
    · rename_i x0 x1 x2 x3 x4 x5 h1
      injection h with h; subst h
      obtain rfl : c0 = #[.int .i64 x0, .int .i64 x1, .int .i64 x2, .int .i64 x3, .int .i64 x4, .int .i64 x5] := by rw [← Array.toArray_toList (xs := c0), h1]
      obtain rfl : args = #[.agg #[.int .i64 x0, .int .i64 x1, .int .i64 x2, .int .i64 x3, .int .i64 x4, .int .i64 x5]] := by rw [← Array.toArray_toList (xs := args), h0]
      exact ⟨rfl, rfl, [], 300, by rw [tree49_eq]; exact tree49_res _ _ _ _ _ _⟩
    · cases h
  · cases h

/- gangsaw/box.Volume -/
def box_Volume_0 (x0 x1 x2 x3 x4 x5 : Int) : Int :=
  if box_Check_0 x0 x1 x2 x3 x4 x5 != 0 then (0) else (box_volume_0 x0 x1 x2 x3 x4 x5)
def box_Volume_1 (x0 x1 x2 x3 x4 x5 : Int) : Int :=
  if box_Check_0 x0 x1 x2 x3 x4 x5 != 0 then (box_Check_0 x0 x1 x2 x3 x4 x5) else (0)
def ans13 : Ans := fun args => match args.toList with
  | [.agg c0] => match c0.toList with
    | [.int .i64 x0, .int .i64 x1, .int .i64 x2, .int .i64 x3, .int .i64 x4, .int .i64 x5] => some (.tuple #[.int .i64 (box_Volume_0 x0 x1 x2 x3 x4 x5), .int .i64 (box_Volume_1 x0 x1 x2 x3 x4 x5)])
    | _ => none
  | _ => none
def tab7 : Tab := (13, .ans ans13) :: tab6
def tree13 (x0 x1 x2 x3 x4 x5 : Int) : Tr Value :=
  .node 8 (box_Check_0 x0 x1 x2 x3 x4 x5 != 0)
  (.leaf (some (.tuple #[.int .i64 (0), .int .i64 (box_Check_0 x0 x1 x2 x3 x4 x5)])))
  (.leaf (some (.tuple #[.int .i64 (box_volume_0 x0 x1 x2 x3 x4 x5), .int .i64 (0)])))
theorem tree13_eq (x0 x1 x2 x3 x4 x5 : Int) : vals (evFnT Try.prog (tb Try.prog tab6) (tbT Try.prog tab6) [(8, 0)] 300 13 #[.agg #[.int .i64 x0, .int .i64 x1, .int .i64 x2, .int .i64 x3, .int .i64 x4, .int .i64 x5]] []) = tree13 x0 x1 x2 x3 x4 x5 := by kernel_rfl
theorem tree13_res (x0 x1 x2 x3 x4 x5 : Int) : (tree13 x0 x1 x2 x3 x4 x5).res = some (.tuple #[.int .i64 (box_Volume_0 x0 x1 x2 x3 x4 x5), .int .i64 (box_Volume_1 x0 x1 x2 x3 x4 x5)]) := by
  unfold tree13 box_Volume_0 box_Volume_1
  simp only [Tr.res]
  generalize (box_Check_0 x0 x1 x2 x3 x4 x5 != 0) = b0
  cases b0 with
  | true =>
   first | (simp only [if_true, Bool.false_eq_true, if_false]; done) | rfl
  | false =>
   first | (simp only [if_true, Bool.false_eq_true, if_false]; done) | rfl
theorem tab7_ok : TabOk Try.prog tab7 := tab_cons mixed tab6_ok (by decide) fun args v h => by
  unfold ans13 at h
  split at h
  · rename_i c0 h0
    split at h
    · rename_i x0 x1 x2 x3 x4 x5 h1
      injection h with h; subst h
      obtain rfl : c0 = #[.int .i64 x0, .int .i64 x1, .int .i64 x2, .int .i64 x3, .int .i64 x4, .int .i64 x5] := by rw [← Array.toArray_toList (xs := c0), h1]
      obtain rfl : args = #[.agg #[.int .i64 x0, .int .i64 x1, .int .i64 x2, .int .i64 x3, .int .i64 x4, .int .i64 x5]] := by rw [← Array.toArray_toList (xs := args), h0]
      exact ⟨rfl, rfl, [(8, 0)], 300, by rw [tree13_eq]; exact tree13_res _ _ _ _ _ _⟩
    · cases h
  · cases h

/- gangsaw/box.sum -/
def ans50 : Ans := fun args => match args.toList with
  | [.agg c0, .agg c1] => match c0.toList, c1.toList with
    | [.int .i64 x0, .int .i64 x1, .int .i64 x2], [.int .i64 x3, .int .i64 x4, .int .i64 x5] => some (.agg #[.int .i64 (IntKind.i64.wrap (x0 + x3)), .int .i64 (IntKind.i64.wrap (x1 + x4)), .int .i64 (IntKind.i64.wrap (x2 + x5))])
    | _, _ => none
  | _ => none
def tab8 : Tab := (50, .ans ans50) :: tab7
def tree50 (x0 x1 x2 x3 x4 x5 : Int) : Tr Value :=
  .leaf (some (.agg #[.int .i64 (IntKind.i64.wrap (x0 + x3)), .int .i64 (IntKind.i64.wrap (x1 + x4)), .int .i64 (IntKind.i64.wrap (x2 + x5))]))
theorem tree50_eq (x0 x1 x2 x3 x4 x5 : Int) : vals (evFnT Try.prog (tb Try.prog tab7) (tbT Try.prog tab7) [] 300 50 #[.agg #[.int .i64 x0, .int .i64 x1, .int .i64 x2], .agg #[.int .i64 x3, .int .i64 x4, .int .i64 x5]] []) = tree50 x0 x1 x2 x3 x4 x5 := by kernel_rfl
theorem tree50_res (x0 x1 x2 x3 x4 x5 : Int) : (tree50 x0 x1 x2 x3 x4 x5).res = some (.agg #[.int .i64 (IntKind.i64.wrap (x0 + x3)), .int .i64 (IntKind.i64.wrap (x1 + x4)), .int .i64 (IntKind.i64.wrap (x2 + x5))]) := by
  rfl
theorem tab8_ok : TabOk Try.prog tab8 := tab_cons mixed tab7_ok (by decide) fun args v h => by
  unfold ans50 at h
  split at h
  · rename_i c0 c1 h0
    split at h
    · rename_i x0 x1 x2 x3 x4 x5 h1 h2
      injection h with h; subst h
      obtain rfl : c0 = #[.int .i64 x0, .int .i64 x1, .int .i64 x2] := by rw [← Array.toArray_toList (xs := c0), h1]
      obtain rfl : c1 = #[.int .i64 x3, .int .i64 x4, .int .i64 x5] := by rw [← Array.toArray_toList (xs := c1), h2]
      obtain rfl : args = #[.agg #[.int .i64 x0, .int .i64 x1, .int .i64 x2], .agg #[.int .i64 x3, .int .i64 x4, .int .i64 x5]] := by rw [← Array.toArray_toList (xs := args), h0]
      exact ⟨rfl, rfl, [], 300, by rw [tree50_eq]; exact tree50_res _ _ _ _ _ _⟩
    · cases h
  · cases h

/- gangsaw/box.Move -/
def box_Move_0 (x0 x1 x2 x3 x4 x5 x6 x7 x8 : Int) : Int :=
  if box_Check_0 x0 x1 x2 x3 x4 x5 != 0 then (0) else if box_Check_0 (IntKind.i64.wrap (x0 + x6)) (IntKind.i64.wrap (x1 + x7)) (IntKind.i64.wrap (x2 + x8)) (IntKind.i64.wrap (x3 + x6)) (IntKind.i64.wrap (x4 + x7)) (IntKind.i64.wrap (x5 + x8)) != 0 then (0) else (IntKind.i64.wrap (x0 + x6))
def box_Move_1 (x0 x1 x2 x3 x4 x5 x6 x7 x8 : Int) : Int :=
  if box_Check_0 x0 x1 x2 x3 x4 x5 != 0 then (0) else if box_Check_0 (IntKind.i64.wrap (x0 + x6)) (IntKind.i64.wrap (x1 + x7)) (IntKind.i64.wrap (x2 + x8)) (IntKind.i64.wrap (x3 + x6)) (IntKind.i64.wrap (x4 + x7)) (IntKind.i64.wrap (x5 + x8)) != 0 then (0) else (IntKind.i64.wrap (x1 + x7))
def box_Move_2 (x0 x1 x2 x3 x4 x5 x6 x7 x8 : Int) : Int :=
  if box_Check_0 x0 x1 x2 x3 x4 x5 != 0 then (0) else if box_Check_0 (IntKind.i64.wrap (x0 + x6)) (IntKind.i64.wrap (x1 + x7)) (IntKind.i64.wrap (x2 + x8)) (IntKind.i64.wrap (x3 + x6)) (IntKind.i64.wrap (x4 + x7)) (IntKind.i64.wrap (x5 + x8)) != 0 then (0) else (IntKind.i64.wrap (x2 + x8))
def box_Move_3 (x0 x1 x2 x3 x4 x5 x6 x7 x8 : Int) : Int :=
  if box_Check_0 x0 x1 x2 x3 x4 x5 != 0 then (0) else if box_Check_0 (IntKind.i64.wrap (x0 + x6)) (IntKind.i64.wrap (x1 + x7)) (IntKind.i64.wrap (x2 + x8)) (IntKind.i64.wrap (x3 + x6)) (IntKind.i64.wrap (x4 + x7)) (IntKind.i64.wrap (x5 + x8)) != 0 then (0) else (IntKind.i64.wrap (x3 + x6))
def box_Move_4 (x0 x1 x2 x3 x4 x5 x6 x7 x8 : Int) : Int :=
  if box_Check_0 x0 x1 x2 x3 x4 x5 != 0 then (0) else if box_Check_0 (IntKind.i64.wrap (x0 + x6)) (IntKind.i64.wrap (x1 + x7)) (IntKind.i64.wrap (x2 + x8)) (IntKind.i64.wrap (x3 + x6)) (IntKind.i64.wrap (x4 + x7)) (IntKind.i64.wrap (x5 + x8)) != 0 then (0) else (IntKind.i64.wrap (x4 + x7))
def box_Move_5 (x0 x1 x2 x3 x4 x5 x6 x7 x8 : Int) : Int :=
  if box_Check_0 x0 x1 x2 x3 x4 x5 != 0 then (0) else if box_Check_0 (IntKind.i64.wrap (x0 + x6)) (IntKind.i64.wrap (x1 + x7)) (IntKind.i64.wrap (x2 + x8)) (IntKind.i64.wrap (x3 + x6)) (IntKind.i64.wrap (x4 + x7)) (IntKind.i64.wrap (x5 + x8)) != 0 then (0) else (IntKind.i64.wrap (x5 + x8))
def box_Move_6 (x0 x1 x2 x3 x4 x5 x6 x7 x8 : Int) : Int :=
  if box_Check_0 x0 x1 x2 x3 x4 x5 != 0 then (box_Check_0 x0 x1 x2 x3 x4 x5) else if box_Check_0 (IntKind.i64.wrap (x0 + x6)) (IntKind.i64.wrap (x1 + x7)) (IntKind.i64.wrap (x2 + x8)) (IntKind.i64.wrap (x3 + x6)) (IntKind.i64.wrap (x4 + x7)) (IntKind.i64.wrap (x5 + x8)) != 0 then (box_Check_0 (IntKind.i64.wrap (x0 + x6)) (IntKind.i64.wrap (x1 + x7)) (IntKind.i64.wrap (x2 + x8)) (IntKind.i64.wrap (x3 + x6)) (IntKind.i64.wrap (x4 + x7)) (IntKind.i64.wrap (x5 + x8))) else (0)
def ans14 : Ans := fun args => match args.toList with
  | [.agg c0, .agg c1] => match c0.toList, c1.toList with
    | [.int .i64 x0, .int .i64 x1, .int .i64 x2, .int .i64 x3, .int .i64 x4, .int .i64 x5], [.int .i64 x6, .int .i64 x7, .int .i64 x8] => some (.tuple #[.agg #[.int .i64 (box_Move_0 x0 x1 x2 x3 x4 x5 x6 x7 x8), .int .i64 (box_Move_1 x0 x1 x2 x3 x4 x5 x6 x7 x8), .int .i64 (box_Move_2 x0 x1 x2 x3 x4 x5 x6 x7 x8), .int .i64 (box_Move_3 x0 x1 x2 x3 x4 x5 x6 x7 x8), .int .i64 (box_Move_4 x0 x1 x2 x3 x4 x5 x6 x7 x8), .int .i64 (box_Move_5 x0 x1 x2 x3 x4 x5 x6 x7 x8)], .int .i64 (box_Move_6 x0 x1 x2 x3 x4 x5 x6 x7 x8)])
    | _, _ => none
  | _ => none
def tab9 : Tab := (14, .ans ans14) :: tab8
def tree14 (x0 x1 x2 x3 x4 x5 x6 x7 x8 : Int) : Tr Value :=
  .node 12 (box_Check_0 x0 x1 x2 x3 x4 x5 != 0)
  (.leaf (some (.tuple #[.agg #[.int .i64 (0), .int .i64 (0), .int .i64 (0), .int .i64 (0), .int .i64 (0), .int .i64 (0)], .int .i64 (box_Check_0 x0 x1 x2 x3 x4 x5)])))
  (.node 27 (box_Check_0 (IntKind.i64.wrap (x0 + x6)) (IntKind.i64.wrap (x1 + x7)) (IntKind.i64.wrap (x2 + x8)) (IntKind.i64.wrap (x3 + x6)) (IntKind.i64.wrap (x4 + x7)) (IntKind.i64.wrap (x5 + x8)) != 0)
   (.leaf (some (.tuple #[.agg #[.int .i64 (0), .int .i64 (0), .int .i64 (0), .int .i64 (0), .int .i64 (0), .int .i64 (0)], .int .i64 (box_Check_0 (IntKind.i64.wrap (x0 + x6)) (IntKind.i64.wrap (x1 + x7)) (IntKind.i64.wrap (x2 + x8)) (IntKind.i64.wrap (x3 + x6)) (IntKind.i64.wrap (x4 + x7)) (IntKind.i64.wrap (x5 + x8)))])))
   (.leaf (some (.tuple #[.agg #[.int .i64 (IntKind.i64.wrap (x0 + x6)), .int .i64 (IntKind.i64.wrap (x1 + x7)), .int .i64 (IntKind.i64.wrap (x2 + x8)), .int .i64 (IntKind.i64.wrap (x3 + x6)), .int .i64 (IntKind.i64.wrap (x4 + x7)), .int .i64 (IntKind.i64.wrap (x5 + x8))], .int .i64 (0)]))))
theorem tree14_eq (x0 x1 x2 x3 x4 x5 x6 x7 x8 : Int) : vals (evFnT Try.prog (tb Try.prog tab8) (tbT Try.prog tab8) [(12, 0), (27, 0)] 300 14 #[.agg #[.int .i64 x0, .int .i64 x1, .int .i64 x2, .int .i64 x3, .int .i64 x4, .int .i64 x5], .agg #[.int .i64 x6, .int .i64 x7, .int .i64 x8]] []) = tree14 x0 x1 x2 x3 x4 x5 x6 x7 x8 := by kernel_rfl
theorem tree14_res (x0 x1 x2 x3 x4 x5 x6 x7 x8 : Int) : (tree14 x0 x1 x2 x3 x4 x5 x6 x7 x8).res = some (.tuple #[.agg #[.int .i64 (box_Move_0 x0 x1 x2 x3 x4 x5 x6 x7 x8), .int .i64 (box_Move_1 x0 x1 x2 x3 x4 x5 x6 x7 x8), .int .i64 (box_Move_2 x0 x1 x2 x3 x4 x5 x6 x7 x8), .int .i64 (box_Move_3 x0 x1 x2 x3 x4 x5 x6 x7 x8), .int .i64 (box_Move_4 x0 x1 x2 x3 x4 x5 x6 x7 x8), .int .i64 (box_Move_5 x0 x1 x2 x3 x4 x5 x6 x7 x8)], .int .i64 (box_Move_6 x0 x1 x2 x3 x4 x5 x6 x7 x8)]) := by
  unfold tree14 box_Move_0 box_Move_1 box_Move_2 box_Move_3 box_Move_4 box_Move_5 box_Move_6
  simp only [Tr.res]
  generalize (box_Check_0 x0 x1 x2 x3 x4 x5 != 0) = b0
  generalize (box_Check_0 (IntKind.i64.wrap (x0 + x6)) (IntKind.i64.wrap (x1 + x7)) (IntKind.i64.wrap (x2 + x8)) (IntKind.i64.wrap (x3 + x6)) (IntKind.i64.wrap (x4 + x7)) (IntKind.i64.wrap (x5 + x8)) != 0) = b1
  cases b0 with
  | true =>
   first | (simp only [if_true, Bool.false_eq_true, if_false]; done) | rfl
  | false =>
   cases b1 with
   | true =>
    first | (simp only [if_true, Bool.false_eq_true, if_false]; done) | rfl
   | false =>
    first | (simp only [if_true, Bool.false_eq_true, if_false]; done) | rfl
theorem tab9_ok : TabOk Try.prog tab9 := tab_cons mixed tab8_ok (by decide) fun args v h => by
  unfold ans14 at h
  split at h
  · rename_i c0 c1 h0
    split at h
    · rename_i x0 x1 x2 x3 x4 x5 x6 x7 x8 h1 h2
      injection h with h; subst h
      obtain rfl : c0 = #[.int .i64 x0, .int .i64 x1, .int .i64 x2, .int .i64 x3, .int .i64 x4, .int .i64 x5] := by rw [← Array.toArray_toList (xs := c0), h1]
      obtain rfl : c1 = #[.int .i64 x6, .int .i64 x7, .int .i64 x8] := by rw [← Array.toArray_toList (xs := c1), h2]
      obtain rfl : args = #[.agg #[.int .i64 x0, .int .i64 x1, .int .i64 x2, .int .i64 x3, .int .i64 x4, .int .i64 x5], .agg #[.int .i64 x6, .int .i64 x7, .int .i64 x8]] := by rw [← Array.toArray_toList (xs := args), h0]
      exact ⟨rfl, rfl, [(12, 0), (27, 0)], 300, by rw [tree14_eq]; exact tree14_res _ _ _ _ _ _ _ _ _⟩
    · cases h
  · cases h

/- gangsaw/box.least -/
def ans56 : Ans := fun args => match args.toList with
  | [.agg c0, .agg c1] => match c0.toList, c1.toList with
    | [.int .i64 x0, .int .i64 x1, .int .i64 x2], [.int .i64 x3, .int .i64 x4, .int .i64 x5] => some (.agg #[.int .i64 (imin x0 x3), .int .i64 (imin x1 x4), .int .i64 (imin x2 x5)])
    | _, _ => none
  | _ => none
def tab10 : Tab := (56, .ans ans56) :: tab9
def tree56 (x0 x1 x2 x3 x4 x5 : Int) : Tr Value :=
  .leaf (some (.agg #[.int .i64 (imin x0 x3), .int .i64 (imin x1 x4), .int .i64 (imin x2 x5)]))
theorem tree56_eq (x0 x1 x2 x3 x4 x5 : Int) : vals (evFnT Try.prog (tb Try.prog tab9) (tbT Try.prog tab9) [] 300 56 #[.agg #[.int .i64 x0, .int .i64 x1, .int .i64 x2], .agg #[.int .i64 x3, .int .i64 x4, .int .i64 x5]] []) = tree56 x0 x1 x2 x3 x4 x5 := by kernel_rfl
theorem tree56_res (x0 x1 x2 x3 x4 x5 : Int) : (tree56 x0 x1 x2 x3 x4 x5).res = some (.agg #[.int .i64 (imin x0 x3), .int .i64 (imin x1 x4), .int .i64 (imin x2 x5)]) := by
  rfl
theorem tab10_ok : TabOk Try.prog tab10 := tab_cons mixed tab9_ok (by decide) fun args v h => by
  unfold ans56 at h
  split at h
  · rename_i c0 c1 h0
    split at h
    · rename_i x0 x1 x2 x3 x4 x5 h1 h2
      injection h with h; subst h
      obtain rfl : c0 = #[.int .i64 x0, .int .i64 x1, .int .i64 x2] := by rw [← Array.toArray_toList (xs := c0), h1]
      obtain rfl : c1 = #[.int .i64 x3, .int .i64 x4, .int .i64 x5] := by rw [← Array.toArray_toList (xs := c1), h2]
      obtain rfl : args = #[.agg #[.int .i64 x0, .int .i64 x1, .int .i64 x2], .agg #[.int .i64 x3, .int .i64 x4, .int .i64 x5]] := by rw [← Array.toArray_toList (xs := args), h0]
      exact ⟨rfl, rfl, [], 300, by rw [tree56_eq]; exact tree56_res _ _ _ _ _ _⟩
    · cases h
  · cases h

/- gangsaw/box.greatest -/
def ans57 : Ans := fun args => match args.toList with
  | [.agg c0, .agg c1] => match c0.toList, c1.toList with
    | [.int .i64 x0, .int .i64 x1, .int .i64 x2], [.int .i64 x3, .int .i64 x4, .int .i64 x5] => some (.agg #[.int .i64 (imax x0 x3), .int .i64 (imax x1 x4), .int .i64 (imax x2 x5)])
    | _, _ => none
  | _ => none
def tab11 : Tab := (57, .ans ans57) :: tab10
def tree57 (x0 x1 x2 x3 x4 x5 : Int) : Tr Value :=
  .leaf (some (.agg #[.int .i64 (imax x0 x3), .int .i64 (imax x1 x4), .int .i64 (imax x2 x5)]))
theorem tree57_eq (x0 x1 x2 x3 x4 x5 : Int) : vals (evFnT Try.prog (tb Try.prog tab10) (tbT Try.prog tab10) [] 300 57 #[.agg #[.int .i64 x0, .int .i64 x1, .int .i64 x2], .agg #[.int .i64 x3, .int .i64 x4, .int .i64 x5]] []) = tree57 x0 x1 x2 x3 x4 x5 := by kernel_rfl
theorem tree57_res (x0 x1 x2 x3 x4 x5 : Int) : (tree57 x0 x1 x2 x3 x4 x5).res = some (.agg #[.int .i64 (imax x0 x3), .int .i64 (imax x1 x4), .int .i64 (imax x2 x5)]) := by
  rfl
theorem tab11_ok : TabOk Try.prog tab11 := tab_cons mixed tab10_ok (by decide) fun args v h => by
  unfold ans57 at h
  split at h
  · rename_i c0 c1 h0
    split at h
    · rename_i x0 x1 x2 x3 x4 x5 h1 h2
      injection h with h; subst h
      obtain rfl : c0 = #[.int .i64 x0, .int .i64 x1, .int .i64 x2] := by rw [← Array.toArray_toList (xs := c0), h1]
      obtain rfl : c1 = #[.int .i64 x3, .int .i64 x4, .int .i64 x5] := by rw [← Array.toArray_toList (xs := c1), h2]
      obtain rfl : args = #[.agg #[.int .i64 x0, .int .i64 x1, .int .i64 x2], .agg #[.int .i64 x3, .int .i64 x4, .int .i64 x5]] := by rw [← Array.toArray_toList (xs := args), h0]
      exact ⟨rfl, rfl, [], 300, by rw [tree57_eq]; exact tree57_res _ _ _ _ _ _⟩
    · cases h
  · cases h

/- gangsaw/box.common -/
def ans55 : Ans := fun args => match args.toList with
  | [.agg c0, .agg c1] => match c0.toList, c1.toList with
    | [.int .i64 x0, .int .i64 x1, .int .i64 x2, .int .i64 x3, .int .i64 x4, .int .i64 x5], [.int .i64 x6, .int .i64 x7, .int .i64 x8, .int .i64 x9, .int .i64 x10, .int .i64 x11] => some (.agg #[.int .i64 (imax x0 x6), .int .i64 (imax x1 x7), .int .i64 (imax x2 x8), .int .i64 (imin x3 x9), .int .i64 (imin x4 x10), .int .i64 (imin x5 x11)])
    | _, _ => none
  | _ => none
def tab12 : Tab := (55, .ans ans55) :: tab11
def tree55 (x0 x1 x2 x3 x4 x5 x6 x7 x8 x9 x10 x11 : Int) : Tr Value :=
  .leaf (some (.agg #[.int .i64 (imax x0 x6), .int .i64 (imax x1 x7), .int .i64 (imax x2 x8), .int .i64 (imin x3 x9), .int .i64 (imin x4 x10), .int .i64 (imin x5 x11)]))
theorem tree55_eq (x0 x1 x2 x3 x4 x5 x6 x7 x8 x9 x10 x11 : Int) : vals (evFnT Try.prog (tb Try.prog tab11) (tbT Try.prog tab11) [] 300 55 #[.agg #[.int .i64 x0, .int .i64 x1, .int .i64 x2, .int .i64 x3, .int .i64 x4, .int .i64 x5], .agg #[.int .i64 x6, .int .i64 x7, .int .i64 x8, .int .i64 x9, .int .i64 x10, .int .i64 x11]] []) = tree55 x0 x1 x2 x3 x4 x5 x6 x7 x8 x9 x10 x11 := by kernel_rfl
theorem tree55_res (x0 x1 x2 x3 x4 x5 x6 x7 x8 x9 x10 x11 : Int) : (tree55 x0 x1 x2 x3 x4 x5 x6 x7 x8 x9 x10 x11).res = some (.agg #[.int .i64 (imax x0 x6), .int .i64 (imax x1 x7), .int .i64 (imax x2 x8), .int .i64 (imin x3 x9), .int .i64 (imin x4 x10), .int .i64 (imin x5 x11)]) := by
  rfl
theorem tab12_ok : TabOk Try.prog tab12 := tab_cons mixed tab11_ok (by decide) fun args v h => by
  unfold ans55 at h
  split at h
  · rename_i c0 c1 h0
    split at h
    · rename_i x0 x1 x2 x3 x4 x5 x6 x7 x8 x9 x10 x11 h1 h2
      injection h with h; subst h
      obtain rfl : c0 = #[.int .i64 x0, .int .i64 x1, .int .i64 x2, .int .i64 x3, .int .i64 x4, .int .i64 x5] := by rw [← Array.toArray_toList (xs := c0), h1]
      obtain rfl : c1 = #[.int .i64 x6, .int .i64 x7, .int .i64 x8, .int .i64 x9, .int .i64 x10, .int .i64 x11] := by rw [← Array.toArray_toList (xs := c1), h2]
      obtain rfl : args = #[.agg #[.int .i64 x0, .int .i64 x1, .int .i64 x2, .int .i64 x3, .int .i64 x4, .int .i64 x5], .agg #[.int .i64 x6, .int .i64 x7, .int .i64 x8, .int .i64 x9, .int .i64 x10, .int .i64 x11]] := by rw [← Array.toArray_toList (xs := args), h0]
      exact ⟨rfl, rfl, [], 300, by rw [tree55_eq]; exact tree55_res _ _ _ _ _ _ _ _ _ _ _ _⟩
    · cases h
  · cases h

/- gangsaw/box.Overlap -/
def box_Overlap_0 (x0 x1 x2 x3 x4 x5 x6 x7 x8 x9 x10 x11 : Int) : Bool :=
  if box_empty_0 (imax x0 x6) (imax x1 x7) (imax x2 x8) (imin x3 x9) (imin x4 x10) (imin x5 x11) then (!Bool.true) else (!Bool.false)
def ans29 : Ans := fun args => match args.toList with
  | [.agg c0, .agg c1] => match c0.toList, c1.toList with
    | [.int .i64 x0, .int .i64 x1, .int .i64 x2, .int .i64 x3, .int .i64 x4, .int .i64 x5], [.int .i64 x6, .int .i64 x7, .int .i64 x8, .int .i64 x9, .int .i64 x10, .int .i64 x11] => some (.bool (box_Overlap_0 x0 x1 x2 x3 x4 x5 x6 x7 x8 x9 x10 x11))
    | _, _ => none
  | _ => none
def tab13 : Tab := (29, .ans ans29) :: tab12
def tree29 (x0 x1 x2 x3 x4 x5 x6 x7 x8 x9 x10 x11 : Int) : Tr Value :=
  .node 8 (box_empty_0 (imax x0 x6) (imax x1 x7) (imax x2 x8) (imin x3 x9) (imin x4 x10) (imin x5 x11))
  (.leaf (some (.bool (!Bool.true))))
  (.leaf (some (.bool (!Bool.false))))
theorem tree29_eq (x0 x1 x2 x3 x4 x5 x6 x7 x8 x9 x10 x11 : Int) : vals (evFnT Try.prog (tb Try.prog tab12) (tbT Try.prog tab12) [(8, 0)] 300 29 #[.agg #[.int .i64 x0, .int .i64 x1, .int .i64 x2, .int .i64 x3, .int .i64 x4, .int .i64 x5], .agg #[.int .i64 x6, .int .i64 x7, .int .i64 x8, .int .i64 x9, .int .i64 x10, .int .i64 x11]] []) = tree29 x0 x1 x2 x3 x4 x5 x6 x7 x8 x9 x10 x11 := by kernel_rfl
theorem tree29_res (x0 x1 x2 x3 x4 x5 x6 x7 x8 x9 x10 x11 : Int) : (tree29 x0 x1 x2 x3 x4 x5 x6 x7 x8 x9 x10 x11).res = some (.bool (box_Overlap_0 x0 x1 x2 x3 x4 x5 x6 x7 x8 x9 x10 x11)) := by
  unfold tree29 box_Overlap_0
  simp only [Tr.res]
  generalize (box_empty_0 (imax x0 x6) (imax x1 x7) (imax x2 x8) (imin x3 x9) (imin x4 x10) (imin x5 x11)) = b0
  cases b0 with
  | true =>
   first | (simp only [if_true, Bool.false_eq_true, if_false]; done) | rfl
  | false =>
   first | (simp only [if_true, Bool.false_eq_true, if_false]; done) | rfl
theorem tab13_ok : TabOk Try.prog tab13 := tab_cons mixed tab12_ok (by decide) fun args v h => by
  unfold ans29 at h
  split at h
  · rename_i c0 c1 h0
    split at h
    · rename_i x0 x1 x2 x3 x4 x5 x6 x7 x8 x9 x10 x11 h1 h2
      injection h with h; subst h
      obtain rfl : c0 = #[.int .i64 x0, .int .i64 x1, .int .i64 x2, .int .i64 x3, .int .i64 x4, .int .i64 x5] := by rw [← Array.toArray_toList (xs := c0), h1]
      obtain rfl : c1 = #[.int .i64 x6, .int .i64 x7, .int .i64 x8, .int .i64 x9, .int .i64 x10, .int .i64 x11] := by rw [← Array.toArray_toList (xs := c1), h2]
      obtain rfl : args = #[.agg #[.int .i64 x0, .int .i64 x1, .int .i64 x2, .int .i64 x3, .int .i64 x4, .int .i64 x5], .agg #[.int .i64 x6, .int .i64 x7, .int .i64 x8, .int .i64 x9, .int .i64 x10, .int .i64 x11]] := by rw [← Array.toArray_toList (xs := args), h0]
      exact ⟨rfl, rfl, [(8, 0)], 300, by rw [tree29_eq]; exact tree29_res _ _ _ _ _ _ _ _ _ _ _ _⟩
    · cases h
  · cases h

/- gangsaw/box.checkAll -/
def tab14 : Tab := (54, .inl [(15, 0)] 300) :: tab13
theorem tab14_ok : TabOk Try.prog tab14 := tab_inl mixed tab13_ok _ _ _

/- gangsaw/box.vectorOf -/
def ans68 : Ans := fun args => match args.toList with
  | [.agg c0] => match c0.toList with
    | [.int .i64 x0, .int .i64 x1, .int .i64 x2] => some (.agg #[.int .i64 (x0), .int .i64 (x1), .int .i64 (x2)])
    | _ => none
  | _ => none
def tab15 : Tab := (68, .ans ans68) :: tab14
def tree68 (x0 x1 x2 : Int) : Tr Value :=
  .leaf (some (.agg #[.int .i64 (x0), .int .i64 (x1), .int .i64 (x2)]))
theorem tree68_eq (x0 x1 x2 : Int) : vals (evFnT Try.prog (tb Try.prog tab14) (tbT Try.prog tab14) [] 300 68 #[.agg #[.int .i64 x0, .int .i64 x1, .int .i64 x2]] []) = tree68 x0 x1 x2 := by kernel_rfl
theorem tree68_res (x0 x1 x2 : Int) : (tree68 x0 x1 x2).res = some (.agg #[.int .i64 (x0), .int .i64 (x1), .int .i64 (x2)]) := by
  rfl
theorem tab15_ok : TabOk Try.prog tab15 := tab_cons mixed tab14_ok (by decide) fun args v h => by
  unfold ans68 at h
  split at h
  · rename_i c0 h0
    split at h
    · rename_i x0 x1 x2 h1
      injection h with h; subst h
      obtain rfl : c0 = #[.int .i64 x0, .int .i64 x1, .int .i64 x2] := by rw [← Array.toArray_toList (xs := c0), h1]
      obtain rfl : args = #[.agg #[.int .i64 x0, .int .i64 x1, .int .i64 x2]] := by rw [← Array.toArray_toList (xs := args), h0]
      exact ⟨rfl, rfl, [], 300, by rw [tree68_eq]; exact tree68_res _ _ _⟩
    · cases h
  · cases h

/- gangsaw/box.beside -/
def box_beside_at2_0 (x0 x1 _x2 x3 x4 _x5 x6 x7 _x8 x9 x10 _x11 : Int) : Bool :=
  if box_empty_0 (imax x0 x6) (imax x1 x7) 0 (imin x3 x9) (imin x4 x10) 1 then (Bool.false) else (Bool.true)
def box_beside_at1_0 (x0 _x1 x2 x3 _x4 x5 x6 _x7 x8 x9 _x10 x11 : Int) : Bool :=
  if box_empty_0 (imax x0 x6) 0 (imax x2 x8) (imin x3 x9) 1 (imin x5 x11) then (Bool.false) else (Bool.true)
def box_beside_at0_0 (_x0 x1 x2 _x3 x4 x5 _x6 x7 x8 _x9 x10 x11 : Int) : Bool :=
  if box_empty_0 0 (imax x1 x7) (imax x2 x8) 1 (imin x4 x10) (imin x5 x11) then (Bool.false) else (Bool.true)
def ans60 : Ans := fun args => match args.toList with
  | [.agg c0, .agg c1, .int .i64 x12] => if x12 = 0 then (match c0.toList, c1.toList with
    | [.int .i64 x0, .int .i64 x1, .int .i64 x2, .int .i64 x3, .int .i64 x4, .int .i64 x5], [.int .i64 x6, .int .i64 x7, .int .i64 x8, .int .i64 x9, .int .i64 x10, .int .i64 x11] => some (.bool (box_beside_at0_0 x0 x1 x2 x3 x4 x5 x6 x7 x8 x9 x10 x11))
    | _, _ => none)
    else if x12 = 1 then (match c0.toList, c1.toList with
    | [.int .i64 x0, .int .i64 x1, .int .i64 x2, .int .i64 x3, .int .i64 x4, .int .i64 x5], [.int .i64 x6, .int .i64 x7, .int .i64 x8, .int .i64 x9, .int .i64 x10, .int .i64 x11] => some (.bool (box_beside_at1_0 x0 x1 x2 x3 x4 x5 x6 x7 x8 x9 x10 x11))
    | _, _ => none)
    else if x12 = 2 then (match c0.toList, c1.toList with
    | [.int .i64 x0, .int .i64 x1, .int .i64 x2, .int .i64 x3, .int .i64 x4, .int .i64 x5], [.int .i64 x6, .int .i64 x7, .int .i64 x8, .int .i64 x9, .int .i64 x10, .int .i64 x11] => some (.bool (box_beside_at2_0 x0 x1 x2 x3 x4 x5 x6 x7 x8 x9 x10 x11))
    | _, _ => none)
    else none
  | _ => none
def tab16 : Tab := (60, .ans ans60) :: tab15
def tree60_2 (x0 x1 x2 x3 x4 x5 x6 x7 x8 x9 x10 x11 : Int) : Tr Value :=
  .node 28 (box_empty_0 (imax x0 x6) (imax x1 x7) 0 (imin x3 x9) (imin x4 x10) 1)
  (.leaf (some (.bool (Bool.false))))
  (.leaf (some (.bool (Bool.true))))
theorem tree60_2_eq (x0 x1 x2 x3 x4 x5 x6 x7 x8 x9 x10 x11 : Int) : vals (evFnT Try.prog (tb Try.prog tab15) (tbT Try.prog tab15) [(28, 0)] 300 60 #[.agg #[.int .i64 x0, .int .i64 x1, .int .i64 x2, .int .i64 x3, .int .i64 x4, .int .i64 x5], .agg #[.int .i64 x6, .int .i64 x7, .int .i64 x8, .int .i64 x9, .int .i64 x10, .int .i64 x11], .int .i64 (2)] []) = tree60_2 x0 x1 x2 x3 x4 x5 x6 x7 x8 x9 x10 x11 := by kernel_rfl
theorem tree60_2_res (x0 x1 x2 x3 x4 x5 x6 x7 x8 x9 x10 x11 : Int) : (tree60_2 x0 x1 x2 x3 x4 x5 x6 x7 x8 x9 x10 x11).res = some (.bool (box_beside_at2_0 x0 x1 x2 x3 x4 x5 x6 x7 x8 x9 x10 x11)) := by
  unfold tree60_2 box_beside_at2_0
  simp only [Tr.res]
  generalize (box_empty_0 (imax x0 x6) (imax x1 x7) 0 (imin x3 x9) (imin x4 x10) 1) = b0
  cases b0 with
  | true =>
   first | (simp only [if_true, Bool.false_eq_true, if_false]; done) | rfl
  | false =>
   first | (simp only [if_true, Bool.false_eq_true, if_false]; done) | rfl
def tree60_1 (x0 x1 x2 x3 x4 x5 x6 x7 x8 x9 x10 x11 : Int) : Tr Value :=
  .node 28 (box_empty_0 (imax x0 x6) 0 (imax x2 x8) (imin x3 x9) 1 (imin x5 x11))
  (.leaf (some (.bool (Bool.false))))
  (.leaf (some (.bool (Bool.true))))
theorem tree60_1_eq (x0 x1 x2 x3 x4 x5 x6 x7 x8 x9 x10 x11 : Int) : vals (evFnT Try.prog (tb Try.prog tab15) (tbT Try.prog tab15) [(28, 0)] 300 60 #[.agg #[.int .i64 x0, .int .i64 x1, .int .i64 x2, .int .i64 x3, .int .i64 x4, .int .i64 x5], .agg #[.int .i64 x6, .int .i64 x7, .int .i64 x8, .int .i64 x9, .int .i64 x10, .int .i64 x11], .int .i64 (1)] []) = tree60_1 x0 x1 x2 x3 x4 x5 x6 x7 x8 x9 x10 x11 := by kernel_rfl
theorem tree60_1_res (x0 x1 x2 x3 x4 x5 x6 x7 x8 x9 x10 x11 : Int) : (tree60_1 x0 x1 x2 x3 x4 x5 x6 x7 x8 x9 x10 x11).res = some (.bool (box_beside_at1_0 x0 x1 x2 x3 x4 x5 x6 x7 x8 x9 x10 x11)) := by
  unfold tree60_1 box_beside_at1_0
  simp only [Tr.res]
  generalize (box_empty_0 (imax x0 x6) 0 (imax x2 x8) (imin x3 x9) 1 (imin x5 x11)) = b0
  cases b0 with
  | true =>
   first | (simp only [if_true, Bool.false_eq_true, if_false]; done) | rfl
  | false =>
   first | (simp only [if_true, Bool.false_eq_true, if_false]; done) | rfl
def tree60_0 (x0 x1 x2 x3 x4 x5 x6 x7 x8 x9 x10 x11 : Int) : Tr Value :=
  .node 28 (box_empty_0 0 (imax x1 x7) (imax x2 x8) 1 (imin x4 x10) (imin x5 x11))
  (.leaf (some (.bool (Bool.false))))
  (.leaf (some (.bool (Bool.true))))
theorem tree60_0_eq (x0 x1 x2 x3 x4 x5 x6 x7 x8 x9 x10 x11 : Int) : vals (evFnT Try.prog (tb Try.prog tab15) (tbT Try.prog tab15) [(28, 0)] 300 60 #[.agg #[.int .i64 x0, .int .i64 x1, .int .i64 x2, .int .i64 x3, .int .i64 x4, .int .i64 x5], .agg #[.int .i64 x6, .int .i64 x7, .int .i64 x8, .int .i64 x9, .int .i64 x10, .int .i64 x11], .int .i64 (0)] []) = tree60_0 x0 x1 x2 x3 x4 x5 x6 x7 x8 x9 x10 x11 := by kernel_rfl
theorem tree60_0_res (x0 x1 x2 x3 x4 x5 x6 x7 x8 x9 x10 x11 : Int) : (tree60_0 x0 x1 x2 x3 x4 x5 x6 x7 x8 x9 x10 x11).res = some (.bool (box_beside_at0_0 x0 x1 x2 x3 x4 x5 x6 x7 x8 x9 x10 x11)) := by
  unfold tree60_0 box_beside_at0_0
  simp only [Tr.res]
  generalize (box_empty_0 0 (imax x1 x7) (imax x2 x8) 1 (imin x4 x10) (imin x5 x11)) = b0
  cases b0 with
  | true =>
   first | (simp only [if_true, Bool.false_eq_true, if_false]; done) | rfl
  | false =>
   first | (simp only [if_true, Bool.false_eq_true, if_false]; done) | rfl
theorem tab16_ok : TabOk Try.prog tab16 := tab_cons mixed tab15_ok (by decide) fun args v h => by
  unfold ans60 at h
  split at h
  · rename_i c0 c1 x12 h0
    split at h
    · rename_i hn
      subst hn
      split at h
      · rename_i x0 x1 x2 x3 x4 x5 x6 x7 x8 x9 x10 x11 h1 h2
        injection h with h; subst h
        obtain rfl : c0 = #[.int .i64 x0, .int .i64 x1, .int .i64 x2, .int .i64 x3, .int .i64 x4, .int .i64 x5] := by rw [← Array.toArray_toList (xs := c0), h1]
        obtain rfl : c1 = #[.int .i64 x6, .int .i64 x7, .int .i64 x8, .int .i64 x9, .int .i64 x10, .int .i64 x11] := by rw [← Array.toArray_toList (xs := c1), h2]
        obtain rfl : args = #[.agg #[.int .i64 x0, .int .i64 x1, .int .i64 x2, .int .i64 x3, .int .i64 x4, .int .i64 x5], .agg #[.int .i64 x6, .int .i64 x7, .int .i64 x8, .int .i64 x9, .int .i64 x10, .int .i64 x11], .int .i64 (0)] := by rw [← Array.toArray_toList (xs := args), h0]
        exact ⟨rfl, rfl, [(28, 0)], 300, by rw [tree60_0_eq]; exact tree60_0_res _ _ _ _ _ _ _ _ _ _ _ _⟩
      · cases h
    split at h
    · rename_i hn
      subst hn
      split at h
      · rename_i x0 x1 x2 x3 x4 x5 x6 x7 x8 x9 x10 x11 h1 h2
        injection h with h; subst h
        obtain rfl : c0 = #[.int .i64 x0, .int .i64 x1, .int .i64 x2, .int .i64 x3, .int .i64 x4, .int .i64 x5] := by rw [← Array.toArray_toList (xs := c0), h1]
        obtain rfl : c1 = #[.int .i64 x6, .int .i64 x7, .int .i64 x8, .int .i64 x9, .int .i64 x10, .int .i64 x11] := by rw [← Array.toArray_toList (xs := c1), h2]
        obtain rfl : args = #[.agg #[.int .i64 x0, .int .i64 x1, .int .i64 x2, .int .i64 x3, .int .i64 x4, .int .i64 x5], .agg #[.int .i64 x6, .int .i64 x7, .int .i64 x8, .int .i64 x9, .int .i64 x10, .int .i64 x11], .int .i64 (1)] := by rw [← Array.toArray_toList (xs := args), h0]
        exact ⟨rfl, rfl, [(28, 0)], 300, by rw [tree60_1_eq]; exact tree60_1_res _ _ _ _ _ _ _ _ _ _ _ _⟩
      · cases h
    split at h
    · rename_i hn
      subst hn
      split at h
      · rename_i x0 x1 x2 x3 x4 x5 x6 x7 x8 x9 x10 x11 h1 h2
        injection h with h; subst h
        obtain rfl : c0 = #[.int .i64 x0, .int .i64 x1, .int .i64 x2, .int .i64 x3, .int .i64 x4, .int .i64 x5] := by rw [← Array.toArray_toList (xs := c0), h1]
        obtain rfl : c1 = #[.int .i64 x6, .int .i64 x7, .int .i64 x8, .int .i64 x9, .int .i64 x10, .int .i64 x11] := by rw [← Array.toArray_toList (xs := c1), h2]
        obtain rfl : args = #[.agg #[.int .i64 x0, .int .i64 x1, .int .i64 x2, .int .i64 x3, .int .i64 x4, .int .i64 x5], .agg #[.int .i64 x6, .int .i64 x7, .int .i64 x8, .int .i64 x9, .int .i64 x10, .int .i64 x11], .int .i64 (2)] := by rw [← Array.toArray_toList (xs := args), h0]
        exact ⟨rfl, rfl, [(28, 0)], 300, by rw [tree60_2_eq]; exact tree60_2_res _ _ _ _ _ _ _ _ _ _ _ _⟩
      · cases h
    cases h
  · cases h

/- gangsaw/box.Touch -/
def box_Touch_0 (x0 x1 x2 x3 x4 x5 x6 x7 x8 x9 x10 x11 : Int) : Int :=
  if box_Check_0 x0 x1 x2 x3 x4 x5 != 0 then (if box_Check_0 x0 x1 x2 x3 x4 x5 != 0 then (0) else if box_beside_at0_0 x0 x1 x2 x3 x4 x5 x6 x7 x8 x9 x10 x11 then (if x6 == x3 then (IntKind.i64.wrap (0 + IntKind.i64.wrap (2 * 0))) else if x9 == x0 then (IntKind.i64.wrap (1 + IntKind.i64.wrap (2 * 0))) else if box_beside_at1_0 x0 x1 x2 x3 x4 x5 x6 x7 x8 x9 x10 x11 then (if x7 == x4 then (IntKind.i64.wrap (0 + IntKind.i64.wrap (2 * IntKind.i64.wrap (0 + 1)))) else if x10 == x1 then (IntKind.i64.wrap (1 + IntKind.i64.wrap (2 * IntKind.i64.wrap (0 + 1)))) else if box_beside_at2_0 x0 x1 x2 x3 x4 x5 x6 x7 x8 x9 x10 x11 then (if x8 == x5 then (IntKind.i64.wrap (0 + IntKind.i64.wrap (2 * IntKind.i64.wrap (IntKind.i64.wrap (0 + 1) + 1)))) else if x11 == x2 then (IntKind.i64.wrap (1 + IntKind.i64.wrap (2 * IntKind.i64.wrap (IntKind.i64.wrap (0 + 1) + 1)))) else (0)) else (0)) else if box_beside_at2_0 x0 x1 x2 x3 x4 x5 x6 x7 x8 x9 x10 x11 then (if x8 == x5 then (IntKind.i64.wrap (0 + IntKind.i64.wrap (2 * IntKind.i64.wrap (IntKind.i64.wrap (0 + 1) + 1)))) else if x11 == x2 then (IntKind.i64.wrap (1 + IntKind.i64.wrap (2 * IntKind.i64.wrap (IntKind.i64.wrap (0 + 1) + 1)))) else (0)) else (0)) else if box_beside_at1_0 x0 x1 x2 x3 x4 x5 x6 x7 x8 x9 x10 x11 then (if x7 == x4 then (IntKind.i64.wrap (0 + IntKind.i64.wrap (2 * IntKind.i64.wrap (0 + 1)))) else if x10 == x1 then (IntKind.i64.wrap (1 + IntKind.i64.wrap (2 * IntKind.i64.wrap (0 + 1)))) else if box_beside_at2_0 x0 x1 x2 x3 x4 x5 x6 x7 x8 x9 x10 x11 then (if x8 == x5 then (IntKind.i64.wrap (0 + IntKind.i64.wrap (2 * IntKind.i64.wrap (IntKind.i64.wrap (0 + 1) + 1)))) else if x11 == x2 then (IntKind.i64.wrap (1 + IntKind.i64.wrap (2 * IntKind.i64.wrap (IntKind.i64.wrap (0 + 1) + 1)))) else (0)) else (0)) else if box_beside_at2_0 x0 x1 x2 x3 x4 x5 x6 x7 x8 x9 x10 x11 then (if x8 == x5 then (IntKind.i64.wrap (0 + IntKind.i64.wrap (2 * IntKind.i64.wrap (IntKind.i64.wrap (0 + 1) + 1)))) else if x11 == x2 then (IntKind.i64.wrap (1 + IntKind.i64.wrap (2 * IntKind.i64.wrap (IntKind.i64.wrap (0 + 1) + 1)))) else (0)) else (0)) else if box_Check_0 x6 x7 x8 x9 x10 x11 != 0 then (if box_Check_0 x6 x7 x8 x9 x10 x11 != 0 then (0) else if box_beside_at0_0 x0 x1 x2 x3 x4 x5 x6 x7 x8 x9 x10 x11 then (if x6 == x3 then (IntKind.i64.wrap (0 + IntKind.i64.wrap (2 * 0))) else if x9 == x0 then (IntKind.i64.wrap (1 + IntKind.i64.wrap (2 * 0))) else if box_beside_at1_0 x0 x1 x2 x3 x4 x5 x6 x7 x8 x9 x10 x11 then (if x7 == x4 then (IntKind.i64.wrap (0 + IntKind.i64.wrap (2 * IntKind.i64.wrap (0 + 1)))) else if x10 == x1 then (IntKind.i64.wrap (1 + IntKind.i64.wrap (2 * IntKind.i64.wrap (0 + 1)))) else if box_beside_at2_0 x0 x1 x2 x3 x4 x5 x6 x7 x8 x9 x10 x11 then (if x8 == x5 then (IntKind.i64.wrap (0 + IntKind.i64.wrap (2 * IntKind.i64.wrap (IntKind.i64.wrap (0 + 1) + 1)))) else if x11 == x2 then (IntKind.i64.wrap (1 + IntKind.i64.wrap (2 * IntKind.i64.wrap (IntKind.i64.wrap (0 + 1) + 1)))) else (0)) else (0)) else if box_beside_at2_0 x0 x1 x2 x3 x4 x5 x6 x7 x8 x9 x10 x11 then (if x8 == x5 then (IntKind.i64.wrap (0 + IntKind.i64.wrap (2 * IntKind.i64.wrap (IntKind.i64.wrap (0 + 1) + 1)))) else if x11 == x2 then (IntKind.i64.wrap (1 + IntKind.i64.wrap (2 * IntKind.i64.wrap (IntKind.i64.wrap (0 + 1) + 1)))) else (0)) else (0)) else if box_beside_at1_0 x0 x1 x2 x3 x4 x5 x6 x7 x8 x9 x10 x11 then (if x7 == x4 then (IntKind.i64.wrap (0 + IntKind.i64.wrap (2 * IntKind.i64.wrap (0 + 1)))) else if x10 == x1 then (IntKind.i64.wrap (1 + IntKind.i64.wrap (2 * IntKind.i64.wrap (0 + 1)))) else if box_beside_at2_0 x0 x1 x2 x3 x4 x5 x6 x7 x8 x9 x10 x11 then (if x8 == x5 then (IntKind.i64.wrap (0 + IntKind.i64.wrap (2 * IntKind.i64.wrap (IntKind.i64.wrap (0 + 1) + 1)))) else if x11 == x2 then (IntKind.i64.wrap (1 + IntKind.i64.wrap (2 * IntKind.i64.wrap (IntKind.i64.wrap (0 + 1) + 1)))) else (0)) else (0)) else if box_beside_at2_0 x0 x1 x2 x3 x4 x5 x6 x7 x8 x9 x10 x11 then (if x8 == x5 then (IntKind.i64.wrap (0 + IntKind.i64.wrap (2 * IntKind.i64.wrap (IntKind.i64.wrap (0 + 1) + 1)))) else if x11 == x2 then (IntKind.i64.wrap (1 + IntKind.i64.wrap (2 * IntKind.i64.wrap (IntKind.i64.wrap (0 + 1) + 1)))) else (0)) else (0)) else if box_beside_at0_0 x0 x1 x2 x3 x4 x5 x6 x7 x8 x9 x10 x11 then (if x6 == x3 then (IntKind.i64.wrap (0 + IntKind.i64.wrap (2 * 0))) else if x9 == x0 then (IntKind.i64.wrap (1 + IntKind.i64.wrap (2 * 0))) else if box_beside_at1_0 x0 x1 x2 x3 x4 x5 x6 x7 x8 x9 x10 x11 then (if x7 == x4 then (IntKind.i64.wrap (0 + IntKind.i64.wrap (2 * IntKind.i64.wrap (0 + 1)))) else if x10 == x1 then (IntKind.i64.wrap (1 + IntKind.i64.wrap (2 * IntKind.i64.wrap (0 + 1)))) else if box_beside_at2_0 x0 x1 x2 x3 x4 x5 x6 x7 x8 x9 x10 x11 then (if x8 == x5 then (IntKind.i64.wrap (0 + IntKind.i64.wrap (2 * IntKind.i64.wrap (IntKind.i64.wrap (0 + 1) + 1)))) else if x11 == x2 then (IntKind.i64.wrap (1 + IntKind.i64.wrap (2 * IntKind.i64.wrap (IntKind.i64.wrap (0 + 1) + 1)))) else (0)) else (0)) else if box_beside_at2_0 x0 x1 x2 x3 x4 x5 x6 x7 x8 x9 x10 x11 then (if x8 == x5 then (IntKind.i64.wrap (0 + IntKind.i64.wrap (2 * IntKind.i64.wrap (IntKind.i64.wrap (0 + 1) + 1)))) else if x11 == x2 then (IntKind.i64.wrap (1 + IntKind.i64.wrap (2 * IntKind.i64.wrap (IntKind.i64.wrap (0 + 1) + 1)))) else (0)) else (0)) else if box_beside_at1_0 x0 x1 x2 x3 x4 x5 x6 x7 x8 x9 x10 x11 then (if x7 == x4 then (IntKind.i64.wrap (0 + IntKind.i64.wrap (2 * IntKind.i64.wrap (0 + 1)))) else if x10 == x1 then (IntKind.i64.wrap (1 + IntKind.i64.wrap (2 * IntKind.i64.wrap (0 + 1)))) else if box_beside_at2_0 x0 x1 x2 x3 x4 x5 x6 x7 x8 x9 x10 x11 then (if x8 == x5 then (IntKind.i64.wrap (0 + IntKind.i64.wrap (2 * IntKind.i64.wrap (IntKind.i64.wrap (0 + 1) + 1)))) else if x11 == x2 then (IntKind.i64.wrap (1 + IntKind.i64.wrap (2 * IntKind.i64.wrap (IntKind.i64.wrap (0 + 1) + 1)))) else (0)) else (0)) else if box_beside_at2_0 x0 x1 x2 x3 x4 x5 x6 x7 x8 x9 x10 x11 then (if x8 == x5 then (IntKind.i64.wrap (0 + IntKind.i64.wrap (2 * IntKind.i64.wrap (IntKind.i64.wrap (0 + 1) + 1)))) else if x11 == x2 then (IntKind.i64.wrap (1 + IntKind.i64.wrap (2 * IntKind.i64.wrap (IntKind.i64.wrap (0 + 1) + 1)))) else (0)) else (0)
def box_Touch_1 (x0 x1 x2 x3 x4 x5 x6 x7 x8 x9 x10 x11 : Int) : Int :=
  if box_Check_0 x0 x1 x2 x3 x4 x5 != 0 then (if box_Check_0 x0 x1 x2 x3 x4 x5 != 0 then (box_Check_0 x0 x1 x2 x3 x4 x5) else if box_beside_at0_0 x0 x1 x2 x3 x4 x5 x6 x7 x8 x9 x10 x11 then (if x6 == x3 then (0) else if x9 == x0 then (0) else if box_beside_at1_0 x0 x1 x2 x3 x4 x5 x6 x7 x8 x9 x10 x11 then (if x7 == x4 then (0) else if x10 == x1 then (0) else if box_beside_at2_0 x0 x1 x2 x3 x4 x5 x6 x7 x8 x9 x10 x11 then (if x8 == x5 then (0) else if x11 == x2 then (0) else (9)) else (9)) else if box_beside_at2_0 x0 x1 x2 x3 x4 x5 x6 x7 x8 x9 x10 x11 then (if x8 == x5 then (0) else if x11 == x2 then (0) else (9)) else (9)) else if box_beside_at1_0 x0 x1 x2 x3 x4 x5 x6 x7 x8 x9 x10 x11 then (if x7 == x4 then (0) else if x10 == x1 then (0) else if box_beside_at2_0 x0 x1 x2 x3 x4 x5 x6 x7 x8 x9 x10 x11 then (if x8 == x5 then (0) else if x11 == x2 then (0) else (9)) else (9)) else if box_beside_at2_0 x0 x1 x2 x3 x4 x5 x6 x7 x8 x9 x10 x11 then (if x8 == x5 then (0) else if x11 == x2 then (0) else (9)) else (9)) else if box_Check_0 x6 x7 x8 x9 x10 x11 != 0 then (if box_Check_0 x6 x7 x8 x9 x10 x11 != 0 then (box_Check_0 x6 x7 x8 x9 x10 x11) else if box_beside_at0_0 x0 x1 x2 x3 x4 x5 x6 x7 x8 x9 x10 x11 then (if x6 == x3 then (0) else if x9 == x0 then (0) else if box_beside_at1_0 x0 x1 x2 x3 x4 x5 x6 x7 x8 x9 x10 x11 then (if x7 == x4 then (0) else if x10 == x1 then (0) else if box_beside_at2_0 x0 x1 x2 x3 x4 x5 x6 x7 x8 x9 x10 x11 then (if x8 == x5 then (0) else if x11 == x2 then (0) else (9)) else (9)) else if box_beside_at2_0 x0 x1 x2 x3 x4 x5 x6 x7 x8 x9 x10 x11 then (if x8 == x5 then (0) else if x11 == x2 then (0) else (9)) else (9)) else if box_beside_at1_0 x0 x1 x2 x3 x4 x5 x6 x7 x8 x9 x10 x11 then (if x7 == x4 then (0) else if x10 == x1 then (0) else if box_beside_at2_0 x0 x1 x2 x3 x4 x5 x6 x7 x8 x9 x10 x11 then (if x8 == x5 then (0) else if x11 == x2 then (0) else (9)) else (9)) else if box_beside_at2_0 x0 x1 x2 x3 x4 x5 x6 x7 x8 x9 x10 x11 then (if x8 == x5 then (0) else if x11 == x2 then (0) else (9)) else (9)) else if box_beside_at0_0 x0 x1 x2 x3 x4 x5 x6 x7 x8 x9 x10 x11 then (if x6 == x3 then (0) else if x9 == x0 then (0) else if box_beside_at1_0 x0 x1 x2 x3 x4 x5 x6 x7 x8 x9 x10 x11 then (if x7 == x4 then (0) else if x10 == x1 then (0) else if box_beside_at2_0 x0 x1 x2 x3 x4 x5 x6 x7 x8 x9 x10 x11 then (if x8 == x5 then (0) else if x11 == x2 then (0) else (9)) else (9)) else if box_beside_at2_0 x0 x1 x2 x3 x4 x5 x6 x7 x8 x9 x10 x11 then (if x8 == x5 then (0) else if x11 == x2 then (0) else (9)) else (9)) else if box_beside_at1_0 x0 x1 x2 x3 x4 x5 x6 x7 x8 x9 x10 x11 then (if x7 == x4 then (0) else if x10 == x1 then (0) else if box_beside_at2_0 x0 x1 x2 x3 x4 x5 x6 x7 x8 x9 x10 x11 then (if x8 == x5 then (0) else if x11 == x2 then (0) else (9)) else (9)) else if box_beside_at2_0 x0 x1 x2 x3 x4 x5 x6 x7 x8 x9 x10 x11 then (if x8 == x5 then (0) else if x11 == x2 then (0) else (9)) else (9)
def ans31 : Ans := fun args => match args.toList with
  | [.agg c0, .agg c1] => match c0.toList, c1.toList with
    | [.int .i64 x0, .int .i64 x1, .int .i64 x2, .int .i64 x3, .int .i64 x4, .int .i64 x5], [.int .i64 x6, .int .i64 x7, .int .i64 x8, .int .i64 x9, .int .i64 x10, .int .i64 x11] => some (.tuple #[.int .i64 (box_Touch_0 x0 x1 x2 x3 x4 x5 x6 x7 x8 x9 x10 x11), .int .i64 (box_Touch_1 x0 x1 x2 x3 x4 x5 x6 x7 x8 x9 x10 x11)])
    | _, _ => none
  | _ => none
def tab17 : Tab := (31, .ans ans31) :: tab16
def tree31 (x0 x1 x2 x3 x4 x5 x6 x7 x8 x9 x10 x11 : Int) : Tr Value :=
  .node 15 (box_Check_0 x0 x1 x2 x3 x4 x5 != 0)
  (.node 17 (box_Check_0 x0 x1 x2 x3 x4 x5 != 0)
   (.leaf (some (.tuple #[.int .i64 (0), .int .i64 (box_Check_0 x0 x1 x2 x3 x4 x5)])))
   (.node 37 (box_beside_at0_0 x0 x1 x2 x3 x4 x5 x6 x7 x8 x9 x10 x11)
    (.node 45 (x6 == x3)
     (.leaf (some (.tuple #[.int .i64 (IntKind.i64.wrap (0 + IntKind.i64.wrap (2 * 0))), .int .i64 (0)])))
     (.node 55 (x9 == x0)
      (.leaf (some (.tuple #[.int .i64 (IntKind.i64.wrap (1 + IntKind.i64.wrap (2 * 0))), .int .i64 (0)])))
      (.node 37 (box_beside_at1_0 x0 x1 x2 x3 x4 x5 x6 x7 x8 x9 x10 x11)
       (.node 45 (x7 == x4)
        (.leaf (some (.tuple #[.int .i64 (IntKind.i64.wrap (0 + IntKind.i64.wrap (2 * IntKind.i64.wrap (0 + 1)))), .int .i64 (0)])))
        (.node 55 (x10 == x1)
         (.leaf (some (.tuple #[.int .i64 (IntKind.i64.wrap (1 + IntKind.i64.wrap (2 * IntKind.i64.wrap (0 + 1)))), .int .i64 (0)])))
         (.node 37 (box_beside_at2_0 x0 x1 x2 x3 x4 x5 x6 x7 x8 x9 x10 x11)
          (.node 45 (x8 == x5)
           (.leaf (some (.tuple #[.int .i64 (IntKind.i64.wrap (0 + IntKind.i64.wrap (2 * IntKind.i64.wrap (IntKind.i64.wrap (0 + 1) + 1)))), .int .i64 (0)])))
           (.node 55 (x11 == x2)
            (.leaf (some (.tuple #[.int .i64 (IntKind.i64.wrap (1 + IntKind.i64.wrap (2 * IntKind.i64.wrap (IntKind.i64.wrap (0 + 1) + 1)))), .int .i64 (0)])))
            (.leaf (some (.tuple #[.int .i64 (0), .int .i64 (9)])))))
          (.leaf (some (.tuple #[.int .i64 (0), .int .i64 (9)]))))))
       (.node 37 (box_beside_at2_0 x0 x1 x2 x3 x4 x5 x6 x7 x8 x9 x10 x11)
        (.node 45 (x8 == x5)
         (.leaf (some (.tuple #[.int .i64 (IntKind.i64.wrap (0 + IntKind.i64.wrap (2 * IntKind.i64.wrap (IntKind.i64.wrap (0 + 1) + 1)))), .int .i64 (0)])))
         (.node 55 (x11 == x2)
          (.leaf (some (.tuple #[.int .i64 (IntKind.i64.wrap (1 + IntKind.i64.wrap (2 * IntKind.i64.wrap (IntKind.i64.wrap (0 + 1) + 1)))), .int .i64 (0)])))
          (.leaf (some (.tuple #[.int .i64 (0), .int .i64 (9)])))))
        (.leaf (some (.tuple #[.int .i64 (0), .int .i64 (9)])))))))
    (.node 37 (box_beside_at1_0 x0 x1 x2 x3 x4 x5 x6 x7 x8 x9 x10 x11)
     (.node 45 (x7 == x4)
      (.leaf (some (.tuple #[.int .i64 (IntKind.i64.wrap (0 + IntKind.i64.wrap (2 * IntKind.i64.wrap (0 + 1)))), .int .i64 (0)])))
      (.node 55 (x10 == x1)
       (.leaf (some (.tuple #[.int .i64 (IntKind.i64.wrap (1 + IntKind.i64.wrap (2 * IntKind.i64.wrap (0 + 1)))), .int .i64 (0)])))
       (.node 37 (box_beside_at2_0 x0 x1 x2 x3 x4 x5 x6 x7 x8 x9 x10 x11)
        (.node 45 (x8 == x5)
         (.leaf (some (.tuple #[.int .i64 (IntKind.i64.wrap (0 + IntKind.i64.wrap (2 * IntKind.i64.wrap (IntKind.i64.wrap (0 + 1) + 1)))), .int .i64 (0)])))
         (.node 55 (x11 == x2)
          (.leaf (some (.tuple #[.int .i64 (IntKind.i64.wrap (1 + IntKind.i64.wrap (2 * IntKind.i64.wrap (IntKind.i64.wrap (0 + 1) + 1)))), .int .i64 (0)])))
          (.leaf (some (.tuple #[.int .i64 (0), .int .i64 (9)])))))
        (.leaf (some (.tuple #[.int .i64 (0), .int .i64 (9)]))))))
     (.node 37 (box_beside_at2_0 x0 x1 x2 x3 x4 x5 x6 x7 x8 x9 x10 x11)
      (.node 45 (x8 == x5)
       (.leaf (some (.tuple #[.int .i64 (IntKind.i64.wrap (0 + IntKind.i64.wrap (2 * IntKind.i64.wrap (IntKind.i64.wrap (0 + 1) + 1)))), .int .i64 (0)])))
       (.node 55 (x11 == x2)
        (.leaf (some (.tuple #[.int .i64 (IntKind.i64.wrap (1 + IntKind.i64.wrap (2 * IntKind.i64.wrap (IntKind.i64.wrap (0 + 1) + 1)))), .int .i64 (0)])))
        (.leaf (some (.tuple #[.int .i64 (0), .int .i64 (9)])))))
      (.leaf (some (.tuple #[.int .i64 (0), .int .i64 (9)])))))))
  (.node 15 (box_Check_0 x6 x7 x8 x9 x10 x11 != 0)
   (.node 17 (box_Check_0 x6 x7 x8 x9 x10 x11 != 0)
    (.leaf (some (.tuple #[.int .i64 (0), .int .i64 (box_Check_0 x6 x7 x8 x9 x10 x11)])))
    (.node 37 (box_beside_at0_0 x0 x1 x2 x3 x4 x5 x6 x7 x8 x9 x10 x11)
     (.node 45 (x6 == x3)
      (.leaf (some (.tuple #[.int .i64 (IntKind.i64.wrap (0 + IntKind.i64.wrap (2 * 0))), .int .i64 (0)])))
      (.node 55 (x9 == x0)
       (.leaf (some (.tuple #[.int .i64 (IntKind.i64.wrap (1 + IntKind.i64.wrap (2 * 0))), .int .i64 (0)])))
       (.node 37 (box_beside_at1_0 x0 x1 x2 x3 x4 x5 x6 x7 x8 x9 x10 x11)
        (.node 45 (x7 == x4)
         (.leaf (some (.tuple #[.int .i64 (IntKind.i64.wrap (0 + IntKind.i64.wrap (2 * IntKind.i64.wrap (0 + 1)))), .int .i64 (0)])))
         (.node 55 (x10 == x1)
          (.leaf (some (.tuple #[.int .i64 (IntKind.i64.wrap (1 + IntKind.i64.wrap (2 * IntKind.i64.wrap (0 + 1)))), .int .i64 (0)])))
          (.node 37 (box_beside_at2_0 x0 x1 x2 x3 x4 x5 x6 x7 x8 x9 x10 x11)
           (.node 45 (x8 == x5)
            (.leaf (some (.tuple #[.int .i64 (IntKind.i64.wrap (0 + IntKind.i64.wrap (2 * IntKind.i64.wrap (IntKind.i64.wrap (0 + 1) + 1)))), .int .i64 (0)])))
            (.node 55 (x11 == x2)
             (.leaf (some (.tuple #[.int .i64 (IntKind.i64.wrap (1 + IntKind.i64.wrap (2 * IntKind.i64.wrap (IntKind.i64.wrap (0 + 1) + 1)))), .int .i64 (0)])))
             (.leaf (some (.tuple #[.int .i64 (0), .int .i64 (9)])))))
           (.leaf (some (.tuple #[.int .i64 (0), .int .i64 (9)]))))))
        (.node 37 (box_beside_at2_0 x0 x1 x2 x3 x4 x5 x6 x7 x8 x9 x10 x11)
         (.node 45 (x8 == x5)
          (.leaf (some (.tuple #[.int .i64 (IntKind.i64.wrap (0 + IntKind.i64.wrap (2 * IntKind.i64.wrap (IntKind.i64.wrap (0 + 1) + 1)))), .int .i64 (0)])))
          (.node 55 (x11 == x2)
           (.leaf (some (.tuple #[.int .i64 (IntKind.i64.wrap (1 + IntKind.i64.wrap (2 * IntKind.i64.wrap (IntKind.i64.wrap (0 + 1) + 1)))), .int .i64 (0)])))
           (.leaf (some (.tuple #[.int .i64 (0), .int .i64 (9)])))))
         (.leaf (some (.tuple #[.int .i64 (0), .int .i64 (9)])))))))
     (.node 37 (box_beside_at1_0 x0 x1 x2 x3 x4 x5 x6 x7 x8 x9 x10 x11)
      (.node 45 (x7 == x4)
       (.leaf (some (.tuple #[.int .i64 (IntKind.i64.wrap (0 + IntKind.i64.wrap (2 * IntKind.i64.wrap (0 + 1)))), .int .i64 (0)])))
       (.node 55 (x10 == x1)
        (.leaf (some (.tuple #[.int .i64 (IntKind.i64.wrap (1 + IntKind.i64.wrap (2 * IntKind.i64.wrap (0 + 1)))), .int .i64 (0)])))
        (.node 37 (box_beside_at2_0 x0 x1 x2 x3 x4 x5 x6 x7 x8 x9 x10 x11)
         (.node 45 (x8 == x5)
          (.leaf (some (.tuple #[.int .i64 (IntKind.i64.wrap (0 + IntKind.i64.wrap (2 * IntKind.i64.wrap (IntKind.i64.wrap (0 + 1) + 1)))), .int .i64 (0)])))
          (.node 55 (x11 == x2)
           (.leaf (some (.tuple #[.int .i64 (IntKind.i64.wrap (1 + IntKind.i64.wrap (2 * IntKind.i64.wrap (IntKind.i64.wrap (0 + 1) + 1)))), .int .i64 (0)])))
           (.leaf (some (.tuple #[.int .i64 (0), .int .i64 (9)])))))
         (.leaf (some (.tuple #[.int .i64 (0), .int .i64 (9)]))))))
      (.node 37 (box_beside_at2_0 x0 x1 x2 x3 x4 x5 x6 x7 x8 x9 x10 x11)
       (.node 45 (x8 == x5)
        (.leaf (some (.tuple #[.int .i64 (IntKind.i64.wrap (0 + IntKind.i64.wrap (2 * IntKind.i64.wrap (IntKind.i64.wrap (0 + 1) + 1)))), .int .i64 (0)])))
        (.node 55 (x11 == x2)
         (.leaf (some (.tuple #[.int .i64 (IntKind.i64.wrap (1 + IntKind.i64.wrap (2 * IntKind.i64.wrap (IntKind.i64.wrap (0 + 1) + 1)))), .int .i64 (0)])))
         (.leaf (some (.tuple #[.int .i64 (0), .int .i64 (9)])))))
       (.leaf (some (.tuple #[.int .i64 (0), .int .i64 (9)])))))))
   (.node 17 (false)
    (.leaf (some (.tuple #[.int .i64 (0), .int .i64 (0)])))
    (.node 37 (box_beside_at0_0 x0 x1 x2 x3 x4 x5 x6 x7 x8 x9 x10 x11)
     (.node 45 (x6 == x3)
      (.leaf (some (.tuple #[.int .i64 (IntKind.i64.wrap (0 + IntKind.i64.wrap (2 * 0))), .int .i64 (0)])))
      (.node 55 (x9 == x0)
       (.leaf (some (.tuple #[.int .i64 (IntKind.i64.wrap (1 + IntKind.i64.wrap (2 * 0))), .int .i64 (0)])))
       (.node 37 (box_beside_at1_0 x0 x1 x2 x3 x4 x5 x6 x7 x8 x9 x10 x11)
        (.node 45 (x7 == x4)
         (.leaf (some (.tuple #[.int .i64 (IntKind.i64.wrap (0 + IntKind.i64.wrap (2 * IntKind.i64.wrap (0 + 1)))), .int .i64 (0)])))
         (.node 55 (x10 == x1)
          (.leaf (some (.tuple #[.int .i64 (IntKind.i64.wrap (1 + IntKind.i64.wrap (2 * IntKind.i64.wrap (0 + 1)))), .int .i64 (0)])))
          (.node 37 (box_beside_at2_0 x0 x1 x2 x3 x4 x5 x6 x7 x8 x9 x10 x11)
           (.node 45 (x8 == x5)
            (.leaf (some (.tuple #[.int .i64 (IntKind.i64.wrap (0 + IntKind.i64.wrap (2 * IntKind.i64.wrap (IntKind.i64.wrap (0 + 1) + 1)))), .int .i64 (0)])))
            (.node 55 (x11 == x2)
             (.leaf (some (.tuple #[.int .i64 (IntKind.i64.wrap (1 + IntKind.i64.wrap (2 * IntKind.i64.wrap (IntKind.i64.wrap (0 + 1) + 1)))), .int .i64 (0)])))
             (.leaf (some (.tuple #[.int .i64 (0), .int .i64 (9)])))))
           (.leaf (some (.tuple #[.int .i64 (0), .int .i64 (9)]))))))
        (.node 37 (box_beside_at2_0 x0 x1 x2 x3 x4 x5 x6 x7 x8 x9 x10 x11)
         (.node 45 (x8 == x5)
          (.leaf (some (.tuple #[.int .i64 (IntKind.i64.wrap (0 + IntKind.i64.wrap (2 * IntKind.i64.wrap (IntKind.i64.wrap (0 + 1) + 1)))), .int .i64 (0)])))
          (.node 55 (x11 == x2)
           (.leaf (some (.tuple #[.int .i64 (IntKind.i64.wrap (1 + IntKind.i64.wrap (2 * IntKind.i64.wrap (IntKind.i64.wrap (0 + 1) + 1)))), .int .i64 (0)])))
           (.leaf (some (.tuple #[.int .i64 (0), .int .i64 (9)])))))
         (.leaf (some (.tuple #[.int .i64 (0), .int .i64 (9)])))))))
     (.node 37 (box_beside_at1_0 x0 x1 x2 x3 x4 x5 x6 x7 x8 x9 x10 x11)
      (.node 45 (x7 == x4)
       (.leaf (some (.tuple #[.int .i64 (IntKind.i64.wrap (0 + IntKind.i64.wrap (2 * IntKind.i64.wrap (0 + 1)))), .int .i64 (0)])))
       (.node 55 (x10 == x1)
        (.leaf (some (.tuple #[.int .i64 (IntKind.i64.wrap (1 + IntKind.i64.wrap (2 * IntKind.i64.wrap (0 + 1)))), .int .i64 (0)])))
        (.node 37 (box_beside_at2_0 x0 x1 x2 x3 x4 x5 x6 x7 x8 x9 x10 x11)
         (.node 45 (x8 == x5)
          (.leaf (some (.tuple #[.int .i64 (IntKind.i64.wrap (0 + IntKind.i64.wrap (2 * IntKind.i64.wrap (IntKind.i64.wrap (0 + 1) + 1)))), .int .i64 (0)])))
          (.node 55 (x11 == x2)
           (.leaf (some (.tuple #[.int .i64 (IntKind.i64.wrap (1 + IntKind.i64.wrap (2 * IntKind.i64.wrap (IntKind.i64.wrap (0 + 1) + 1)))), .int .i64 (0)])))
           (.leaf (some (.tuple #[.int .i64 (0), .int .i64 (9)])))))
         (.leaf (some (.tuple #[.int .i64 (0), .int .i64 (9)]))))))
      (.node 37 (box_beside_at2_0 x0 x1 x2 x3 x4 x5 x6 x7 x8 x9 x10 x11)
       (.node 45 (x8 == x5)
        (.leaf (some (.tuple #[.int .i64 (IntKind.i64.wrap (0 + IntKind.i64.wrap (2 * IntKind.i64.wrap (IntKind.i64.wrap (0 + 1) + 1)))), .int .i64 (0)])))
        (.node 55 (x11 == x2)
         (.leaf (some (.tuple #[.int .i64 (IntKind.i64.wrap (1 + IntKind.i64.wrap (2 * IntKind.i64.wrap (IntKind.i64.wrap (0 + 1) + 1)))), .int .i64 (0)])))
         (.leaf (some (.tuple #[.int .i64 (0), .int .i64 (9)])))))
       (.leaf (some (.tuple #[.int .i64 (0), .int .i64 (9)]))))))))
theorem tree31_eq (x0 x1 x2 x3 x4 x5 x6 x7 x8 x9 x10 x11 : Int) : vals (evFnT Try.prog (tb Try.prog tab16) (tbT Try.prog tab16) [(17, 0), (37, 0), (45, 0), (55, 0)] 300 31 #[.agg #[.int .i64 x0, .int .i64 x1, .int .i64 x2, .int .i64 x3, .int .i64 x4, .int .i64 x5], .agg #[.int .i64 x6, .int .i64 x7, .int .i64 x8, .int .i64 x9, .int .i64 x10, .int .i64 x11]] []) = tree31 x0 x1 x2 x3 x4 x5 x6 x7 x8 x9 x10 x11 := by kernel_rfl
theorem tree31_res (x0 x1 x2 x3 x4 x5 x6 x7 x8 x9 x10 x11 : Int) : (tree31 x0 x1 x2 x3 x4 x5 x6 x7 x8 x9 x10 x11).res = some (.tuple #[.int .i64 (box_Touch_0 x0 x1 x2 x3 x4 x5 x6 x7 x8 x9 x10 x11), .int .i64 (box_Touch_1 x0 x1 x2 x3 x4 x5 x6 x7 x8 x9 x10 x11)]) := by
  unfold tree31 box_Touch_0 box_Touch_1
  simp only [Tr.res]
  generalize (box_Check_0 x0 x1 x2 x3 x4 x5 != 0) = b0
  generalize (box_beside_at0_0 x0 x1 x2 x3 x4 x5 x6 x7 x8 x9 x10 x11) = b1
  generalize (x6 == x3) = b2
  generalize (x9 == x0) = b3
  generalize (box_beside_at1_0 x0 x1 x2 x3 x4 x5 x6 x7 x8 x9 x10 x11) = b4
  generalize (x7 == x4) = b5
  generalize (x10 == x1) = b6
  generalize (box_beside_at2_0 x0 x1 x2 x3 x4 x5 x6 x7 x8 x9 x10 x11) = b7
  generalize (x8 == x5) = b8
  generalize (x11 == x2) = b9
  generalize (box_Check_0 x6 x7 x8 x9 x10 x11 != 0) = b10
  cases b0 with
  | true =>
   first | (simp only [if_true, Bool.false_eq_true, if_false]; done) | rfl
  | false =>
   cases b10 with
   | true =>
    first | (simp only [if_true, Bool.false_eq_true, if_false]; done) | rfl
   | false =>
    cases b1 with
    | true =>
     cases b2 with
     | true =>
      first | (simp only [if_true, Bool.false_eq_true, if_false]; done) | rfl
     | false =>
      cases b3 with
      | true =>
       first | (simp only [if_true, Bool.false_eq_true, if_false]; done) | rfl
      | false =>
       cases b4 with
       | true =>
        cases b5 with
        | true =>
         first | (simp only [if_true, Bool.false_eq_true, if_false]; done) | rfl
        | false =>
         cases b6 with
         | true =>
          first | (simp only [if_true, Bool.false_eq_true, if_false]; done) | rfl
         | false =>
          cases b7 with
          | true =>
           cases b8 with
           | true =>
            first | (simp only [if_true, Bool.false_eq_true, if_false]; done) | rfl
           | false =>
            cases b9 with
            | true =>
             first | (simp only [if_true, Bool.false_eq_true, if_false]; done) | rfl
            | false =>
             first | (simp only [if_true, Bool.false_eq_true, if_false]; done) | rfl
          | false =>
           first | (simp only [if_true, Bool.false_eq_true, if_false]; done) | rfl
       | false =>
        cases b7 with
        | true =>
         cases b8 with
         | true =>
          first | (simp only [if_true, Bool.false_eq_true, if_false]; done) | rfl
         | false =>
          cases b9 with
          | true =>
           first | (simp only [if_true, Bool.false_eq_true, if_false]; done) | rfl
          | false =>
           first | (simp only [if_true, Bool.false_eq_true, if_false]; done) | rfl
        | false =>
         first | (simp only [if_true, Bool.false_eq_true, if_false]; done) | rfl
    | false =>
     cases b4 with
     | true =>
      cases b5 with
      | true =>
       first | (simp only [if_true, Bool.false_eq_true, if_false]; done) | rfl
      | false =>
       cases b6 with
       | true =>
        first | (simp only [if_true, Bool.false_eq_true, if_false]; done) | rfl
       | false =>
        cases b7 with
        | true =>
         cases b8 with
         | true =>
          first | (simp only [if_true, Bool.false_eq_true, if_false]; done) | rfl
         | false =>
          cases b9 with
          | true =>
           first | (simp only [if_true, Bool.false_eq_true, if_false]; done) | rfl
          | false =>
           first | (simp only [if_true, Bool.false_eq_true, if_false]; done) | rfl
        | false =>
         first | (simp only [if_true, Bool.false_eq_true, if_false]; done) | rfl
     | false =>
      cases b7 with
      | true =>
       cases b8 with
       | true =>
        first | (simp only [if_true, Bool.false_eq_true, if_false]; done) | rfl
       | false =>
        cases b9 with
        | true =>
         first | (simp only [if_true, Bool.false_eq_true, if_false]; done) | rfl
        | false =>
         first | (simp only [if_true, Bool.false_eq_true, if_false]; done) | rfl
      | false =>
       first | (simp only [if_true, Bool.false_eq_true, if_false]; done) | rfl
theorem tab17_ok : TabOk Try.prog tab17 := tab_cons mixed tab16_ok (by decide) fun args v h => by
  unfold ans31 at h
  split at h
  · rename_i c0 c1 h0
    split at h
    · rename_i x0 x1 x2 x3 x4 x5 x6 x7 x8 x9 x10 x11 h1 h2
      injection h with h; subst h
      obtain rfl : c0 = #[.int .i64 x0, .int .i64 x1, .int .i64 x2, .int .i64 x3, .int .i64 x4, .int .i64 x5] := by rw [← Array.toArray_toList (xs := c0), h1]
      obtain rfl : c1 = #[.int .i64 x6, .int .i64 x7, .int .i64 x8, .int .i64 x9, .int .i64 x10, .int .i64 x11] := by rw [← Array.toArray_toList (xs := c1), h2]
      obtain rfl : args = #[.agg #[.int .i64 x0, .int .i64 x1, .int .i64 x2, .int .i64 x3, .int .i64 x4, .int .i64 x5], .agg #[.int .i64 x6, .int .i64 x7, .int .i64 x8, .int .i64 x9, .int .i64 x10, .int .i64 x11]] := by rw [← Array.toArray_toList (xs := args), h0]
      exact ⟨rfl, rfl, [(17, 0), (37, 0), (45, 0), (55, 0)], 300, by rw [tree31_eq]; exact tree31_res _ _ _ _ _ _ _ _ _ _ _ _⟩
    · cases h
  · cases h

/- gangsaw/gangsawlaw06.BoxMoves -/
def law06_BoxMoves_0 (x0 x1 x2 x3 x4 x5 x6 x7 x8 x9 x10 x11 x12 x13 x14 : Int) : Bool :=
  if box_Move_6 x0 x1 x2 x3 x4 x5 x12 x13 x14 != 0 then (Bool.true) else if box_Move_6 x6 x7 x8 x9 x10 x11 x12 x13 x14 != 0 then (Bool.true) else if box_Move_6 (box_Move_0 x0 x1 x2 x3 x4 x5 x12 x13 x14) (box_Move_1 x0 x1 x2 x3 x4 x5 x12 x13 x14) (box_Move_2 x0 x1 x2 x3 x4 x5 x12 x13 x14) (box_Move_3 x0 x1 x2 x3 x4 x5 x12 x13 x14) (box_Move_4 x0 x1 x2 x3 x4 x5 x12 x13 x14) (box_Move_5 x0 x1 x2 x3 x4 x5 x12 x13 x14) (IntKind.i64.wrap (0 - x12)) (IntKind.i64.wrap (0 - x13)) (IntKind.i64.wrap (0 - x14)) != 0 then (Bool.false) else if !(box_Move_0 (box_Move_0 x0 x1 x2 x3 x4 x5 x12 x13 x14) (box_Move_1 x0 x1 x2 x3 x4 x5 x12 x13 x14) (box_Move_2 x0 x1 x2 x3 x4 x5 x12 x13 x14) (box_Move_3 x0 x1 x2 x3 x4 x5 x12 x13 x14) (box_Move_4 x0 x1 x2 x3 x4 x5 x12 x13 x14) (box_Move_5 x0 x1 x2 x3 x4 x5 x12 x13 x14) (IntKind.i64.wrap (0 - x12)) (IntKind.i64.wrap (0 - x13)) (IntKind.i64.wrap (0 - x14)) == x0 && (box_Move_1 (box_Move_0 x0 x1 x2 x3 x4 x5 x12 x13 x14) (box_Move_1 x0 x1 x2 x3 x4 x5 x12 x13 x14) (box_Move_2 x0 x1 x2 x3 x4 x5 x12 x13 x14) (box_Move_3 x0 x1 x2 x3 x4 x5 x12 x13 x14) (box_Move_4 x0 x1 x2 x3 x4 x5 x12 x13 x14) (box_Move_5 x0 x1 x2 x3 x4 x5 x12 x13 x14) (IntKind.i64.wrap (0 - x12)) (IntKind.i64.wrap (0 - x13)) (IntKind.i64.wrap (0 - x14)) == x1 && (box_Move_2 (box_Move_0 x0 x1 x2 x3 x4 x5 x12 x13 x14) (box_Move_1 x0 x1 x2 x3 x4 x5 x12 x13 x14) (box_Move_2 x0 x1 x2 x3 x4 x5 x12 x13 x14) (box_Move_3 x0 x1 x2 x3 x4 x5 x12 x13 x14) (box_Move_4 x0 x1 x2 x3 x4 x5 x12 x13 x14) (box_Move_5 x0 x1 x2 x3 x4 x5 x12 x13 x14) (IntKind.i64.wrap (0 - x12)) (IntKind.i64.wrap (0 - x13)) (IntKind.i64.wrap (0 - x14)) == x2 && Bool.true)) && (box_Move_3 (box_Move_0 x0 x1 x2 x3 x4 x5 x12 x13 x14) (box_Move_1 x0 x1 x2 x3 x4 x5 x12 x13 x14) (box_Move_2 x0 x1 x2 x3 x4 x5 x12 x13 x14) (box_Move_3 x0 x1 x2 x3 x4 x5 x12 x13 x14) (box_Move_4 x0 x1 x2 x3 x4 x5 x12 x13 x14) (box_Move_5 x0 x1 x2 x3 x4 x5 x12 x13 x14) (IntKind.i64.wrap (0 - x12)) (IntKind.i64.wrap (0 - x13)) (IntKind.i64.wrap (0 - x14)) == x3 && (box_Move_4 (box_Move_0 x0 x1 x2 x3 x4 x5 x12 x13 x14) (box_Move_1 x0 x1 x2 x3 x4 x5 x12 x13 x14) (box_Move_2 x0 x1 x2 x3 x4 x5 x12 x13 x14) (box_Move_3 x0 x1 x2 x3 x4 x5 x12 x13 x14) (box_Move_4 x0 x1 x2 x3 x4 x5 x12 x13 x14) (box_Move_5 x0 x1 x2 x3 x4 x5 x12 x13 x14) (IntKind.i64.wrap (0 - x12)) (IntKind.i64.wrap (0 - x13)) (IntKind.i64.wrap (0 - x14)) == x4 && (box_Move_5 (box_Move_0 x0 x1 x2 x3 x4 x5 x12 x13 x14) (box_Move_1 x0 x1 x2 x3 x4 x5 x12 x13 x14) (box_Move_2 x0 x1 x2 x3 x4 x5 x12 x13 x14) (box_Move_3 x0 x1 x2 x3 x4 x5 x12 x13 x14) (box_Move_4 x0 x1 x2 x3 x4 x5 x12 x13 x14) (box_Move_5 x0 x1 x2 x3 x4 x5 x12 x13 x14) (IntKind.i64.wrap (0 - x12)) (IntKind.i64.wrap (0 - x13)) (IntKind.i64.wrap (0 - x14)) == x5 && Bool.true)) && Bool.true)) then (Bool.false) else if box_Volume_1 x0 x1 x2 x3 x4 x5 != 0 then (Bool.false) else if box_Volume_1 (box_Move_0 x0 x1 x2 x3 x4 x5 x12 x13 x14) (box_Move_1 x0 x1 x2 x3 x4 x5 x12 x13 x14) (box_Move_2 x0 x1 x2 x3 x4 x5 x12 x13 x14) (box_Move_3 x0 x1 x2 x3 x4 x5 x12 x13 x14) (box_Move_4 x0 x1 x2 x3 x4 x5 x12 x13 x14) (box_Move_5 x0 x1 x2 x3 x4 x5 x12 x13 x14) != 0 then (Bool.false) else if box_Volume_0 x0 x1 x2 x3 x4 x5 != box_Volume_0 (box_Move_0 x0 x1 x2 x3 x4 x5 x12 x13 x14) (box_Move_1 x0 x1 x2 x3 x4 x5 x12 x13 x14) (box_Move_2 x0 x1 x2 x3 x4 x5 x12 x13 x14) (box_Move_3 x0 x1 x2 x3 x4 x5 x12 x13 x14) (box_Move_4 x0 x1 x2 x3 x4 x5 x12 x13 x14) (box_Move_5 x0 x1 x2 x3 x4 x5 x12 x13 x14) then (Bool.false) else if box_Overlap_0 x0 x1 x2 x3 x4 x5 x6 x7 x8 x9 x10 x11 then (if box_Overlap_0 (box_Move_0 x0 x1 x2 x3 x4 x5 x12 x13 x14) (box_Move_1 x0 x1 x2 x3 x4 x5 x12 x13 x14) (box_Move_2 x0 x1 x2 x3 x4 x5 x12 x13 x14) (box_Move_3 x0 x1 x2 x3 x4 x5 x12 x13 x14) (box_Move_4 x0 x1 x2 x3 x4 x5 x12 x13 x14) (box_Move_5 x0 x1 x2 x3 x4 x5 x12 x13 x14) (box_Move_0 x6 x7 x8 x9 x10 x11 x12 x13 x14) (box_Move_1 x6 x7 x8 x9 x10 x11 x12 x13 x14) (box_Move_2 x6 x7 x8 x9 x10 x11 x12 x13 x14) (box_Move_3 x6 x7 x8 x9 x10 x11 x12 x13 x14) (box_Move_4 x6 x7 x8 x9 x10 x11 x12 x13 x14) (box_Move_5 x6 x7 x8 x9 x10 x11 x12 x13 x14) then (if box_Touch_1 x0 x1 x2 x3 x4 x5 x6 x7 x8 x9 x10 x11 == box_Touch_1 (box_Move_0 x0 x1 x2 x3 x4 x5 x12 x13 x14) (box_Move_1 x0 x1 x2 x3 x4 x5 x12 x13 x14) (box_Move_2 x0 x1 x2 x3 x4 x5 x12 x13 x14) (box_Move_3 x0 x1 x2 x3 x4 x5 x12 x13 x14) (box_Move_4 x0 x1 x2 x3 x4 x5 x12 x13 x14) (box_Move_5 x0 x1 x2 x3 x4 x5 x12 x13 x14) (box_Move_0 x6 x7 x8 x9 x10 x11 x12 x13 x14) (box_Move_1 x6 x7 x8 x9 x10 x11 x12 x13 x14) (box_Move_2 x6 x7 x8 x9 x10 x11 x12 x13 x14) (box_Move_3 x6 x7 x8 x9 x10 x11 x12 x13 x14) (box_Move_4 x6 x7 x8 x9 x10 x11 x12 x13 x14) (box_Move_5 x6 x7 x8 x9 x10 x11 x12 x13 x14) then (if box_Touch_0 x0 x1 x2 x3 x4 x5 x6 x7 x8 x9 x10 x11 == box_Touch_0 (box_Move_0 x0 x1 x2 x3 x4 x5 x12 x13 x14) (box_Move_1 x0 x1 x2 x3 x4 x5 x12 x13 x14) (box_Move_2 x0 x1 x2 x3 x4 x5 x12 x13 x14) (box_Move_3 x0 x1 x2 x3 x4 x5 x12 x13 x14) (box_Move_4 x0 x1 x2 x3 x4 x5 x12 x13 x14) (box_Move_5 x0 x1 x2 x3 x4 x5 x12 x13 x14) (box_Move_0 x6 x7 x8 x9 x10 x11 x12 x13 x14) (box_Move_1 x6 x7 x8 x9 x10 x11 x12 x13 x14) (box_Move_2 x6 x7 x8 x9 x10 x11 x12 x13 x14) (box_Move_3 x6 x7 x8 x9 x10 x11 x12 x13 x14) (box_Move_4 x6 x7 x8 x9 x10 x11 x12 x13 x14) (box_Move_5 x6 x7 x8 x9 x10 x11 x12 x13 x14) then (if box_Touch_1 x0 x1 x2 x3 x4 x5 x6 x7 x8 x9 x10 x11 == box_Touch_1 x6 x7 x8 x9 x10 x11 x0 x1 x2 x3 x4 x5 then (if box_Touch_1 x0 x1 x2 x3 x4 x5 x6 x7 x8 x9 x10 x11 != 0 then (Bool.true) else if IntKind.i64.wrap ((box_Touch_0 x0 x1 x2 x3 x4 x5 x6 x7 x8 x9 x10 x11).tdiv 2) == IntKind.i64.wrap ((box_Touch_0 x6 x7 x8 x9 x10 x11 x0 x1 x2 x3 x4 x5).tdiv 2) then (if box_Touch_0 x0 x1 x2 x3 x4 x5 x6 x7 x8 x9 x10 x11 != box_Touch_0 x6 x7 x8 x9 x10 x11 x0 x1 x2 x3 x4 x5 then (if box_Overlap_0 x0 x1 x2 x3 x4 x5 x6 x7 x8 x9 x10 x11 then (!Bool.true) else (!Bool.false)) else (Bool.false)) else (Bool.false)) else (Bool.false)) else (Bool.false)) else (Bool.false)) else (Bool.false)) else if box_Overlap_0 (box_Move_0 x0 x1 x2 x3 x4 x5 x12 x13 x14) (box_Move_1 x0 x1 x2 x3 x4 x5 x12 x13 x14) (box_Move_2 x0 x1 x2 x3 x4 x5 x12 x13 x14) (box_Move_3 x0 x1 x2 x3 x4 x5 x12 x13 x14) (box_Move_4 x0 x1 x2 x3 x4 x5 x12 x13 x14) (box_Move_5 x0 x1 x2 x3 x4 x5 x12 x13 x14) (box_Move_0 x6 x7 x8 x9 x10 x11 x12 x13 x14) (box_Move_1 x6 x7 x8 x9 x10 x11 x12 x13 x14) (box_Move_2 x6 x7 x8 x9 x10 x11 x12 x13 x14) (box_Move_3 x6 x7 x8 x9 x10 x11 x12 x13 x14) (box_Move_4 x6 x7 x8 x9 x10 x11 x12 x13 x14) (box_Move_5 x6 x7 x8 x9 x10 x11 x12 x13 x14) then (Bool.false) else if box_Touch_1 x0 x1 x2 x3 x4 x5 x6 x7 x8 x9 x10 x11 == box_Touch_1 (box_Move_0 x0 x1 x2 x3 x4 x5 x12 x13 x14) (box_Move_1 x0 x1 x2 x3 x4 x5 x12 x13 x14) (box_Move_2 x0 x1 x2 x3 x4 x5 x12 x13 x14) (box_Move_3 x0 x1 x2 x3 x4 x5 x12 x13 x14) (box_Move_4 x0 x1 x2 x3 x4 x5 x12 x13 x14) (box_Move_5 x0 x1 x2 x3 x4 x5 x12 x13 x14) (box_Move_0 x6 x7 x8 x9 x10 x11 x12 x13 x14) (box_Move_1 x6 x7 x8 x9 x10 x11 x12 x13 x14) (box_Move_2 x6 x7 x8 x9 x10 x11 x12 x13 x14) (box_Move_3 x6 x7 x8 x9 x10 x11 x12 x13 x14) (box_Move_4 x6 x7 x8 x9 x10 x11 x12 x13 x14) (box_Move_5 x6 x7 x8 x9 x10 x11 x12 x13 x14) then (if box_Touch_0 x0 x1 x2 x3 x4 x5 x6 x7 x8 x9 x10 x11 == box_Touch_0 (box_Move_0 x0 x1 x2 x3 x4 x5 x12 x13 x14) (box_Move_1 x0 x1 x2 x3 x4 x5 x12 x13 x14) (box_Move_2 x0 x1 x2 x3 x4 x5 x12 x13 x14) (box_Move_3 x0 x1 x2 x3 x4 x5 x12 x13 x14) (box_Move_4 x0 x1 x2 x3 x4 x5 x12 x13 x14) (box_Move_5 x0 x1 x2 x3 x4 x5 x12 x13 x14) (box_Move_0 x6 x7 x8 x9 x10 x11 x12 x13 x14) (box_Move_1 x6 x7 x8 x9 x10 x11 x12 x13 x14) (box_Move_2 x6 x7 x8 x9 x10 x11 x12 x13 x14) (box_Move_3 x6 x7 x8 x9 x10 x11 x12 x13 x14) (box_Move_4 x6 x7 x8 x9 x10 x11 x12 x13 x14) (box_Move_5 x6 x7 x8 x9 x10 x11 x12 x13 x14) then (if box_Touch_1 x0 x1 x2 x3 x4 x5 x6 x7 x8 x9 x10 x11 == box_Touch_1 x6 x7 x8 x9 x10 x11 x0 x1 x2 x3 x4 x5 then (if box_Touch_1 x0 x1 x2 x3 x4 x5 x6 x7 x8 x9 x10 x11 != 0 then (Bool.true) else if IntKind.i64.wrap ((box_Touch_0 x0 x1 x2 x3 x4 x5 x6 x7 x8 x9 x10 x11).tdiv 2) == IntKind.i64.wrap ((box_Touch_0 x6 x7 x8 x9 x10 x11 x0 x1 x2 x3 x4 x5).tdiv 2) then (if box_Touch_0 x0 x1 x2 x3 x4 x5 x6 x7 x8 x9 x10 x11 != box_Touch_0 x6 x7 x8 x9 x10 x11 x0 x1 x2 x3 x4 x5 then (if box_Overlap_0 x0 x1 x2 x3 x4 x5 x6 x7 x8 x9 x10 x11 then (!Bool.true) else (!Bool.false)) else (Bool.false)) else (Bool.false)) else (Bool.false)) else (Bool.false)) else (Bool.false)
def ans10 : Ans := fun args => match args.toList with
  | [.agg c0, .agg c1, .agg c2] => match c0.toList, c1.toList, c2.toList with
    | [.int .i64 x0, .int .i64 x1, .int .i64 x2, .int .i64 x3, .int .i64 x4, .int .i64 x5], [.int .i64 x6, .int .i64 x7, .int .i64 x8, .int .i64 x9, .int .i64 x10, .int .i64 x11], [.int .i64 x12, .int .i64 x13, .int .i64 x14] => some (.bool (law06_BoxMoves_0 x0 x1 x2 x3 x4 x5 x6 x7 x8 x9 x10 x11 x12 x13 x14))
    | _, _, _ => none
  | _ => none
def tab18 : Tab := (10, .ans ans10) :: tab17
def tree10 (x0 x1 x2 x3 x4 x5 x6 x7 x8 x9 x10 x11 x12 x13 x14 : Int) : Tr Value :=
  .node 38 (box_Move_6 x0 x1 x2 x3 x4 x5 x12 x13 x14 != 0)
  (.leaf (some (.bool (Bool.true))))
  (.node 41 (box_Move_6 x6 x7 x8 x9 x10 x11 x12 x13 x14 != 0)
   (.leaf (some (.bool (Bool.true))))
   (.node 69 (box_Move_6 (box_Move_0 x0 x1 x2 x3 x4 x5 x12 x13 x14) (box_Move_1 x0 x1 x2 x3 x4 x5 x12 x13 x14) (box_Move_2 x0 x1 x2 x3 x4 x5 x12 x13 x14) (box_Move_3 x0 x1 x2 x3 x4 x5 x12 x13 x14) (box_Move_4 x0 x1 x2 x3 x4 x5 x12 x13 x14) (box_Move_5 x0 x1 x2 x3 x4 x5 x12 x13 x14) (IntKind.i64.wrap (0 - x12)) (IntKind.i64.wrap (0 - x13)) (IntKind.i64.wrap (0 - x14)) != 0)
    (.leaf (some (.bool (Bool.false))))
    (.node 73 (!(box_Move_0 (box_Move_0 x0 x1 x2 x3 x4 x5 x12 x13 x14) (box_Move_1 x0 x1 x2 x3 x4 x5 x12 x13 x14) (box_Move_2 x0 x1 x2 x3 x4 x5 x12 x13 x14) (box_Move_3 x0 x1 x2 x3 x4 x5 x12 x13 x14) (box_Move_4 x0 x1 x2 x3 x4 x5 x12 x13 x14) (box_Move_5 x0 x1 x2 x3 x4 x5 x12 x13 x14) (IntKind.i64.wrap (0 - x12)) (IntKind.i64.wrap (0 - x13)) (IntKind.i64.wrap (0 - x14)) == x0 && (box_Move_1 (box_Move_0 x0 x1 x2 x3 x4 x5 x12 x13 x14) (box_Move_1 x0 x1 x2 x3 x4 x5 x12 x13 x14) (box_Move_2 x0 x1 x2 x3 x4 x5 x12 x13 x14) (box_Move_3 x0 x1 x2 x3 x4 x5 x12 x13 x14) (box_Move_4 x0 x1 x2 x3 x4 x5 x12 x13 x14) (box_Move_5 x0 x1 x2 x3 x4 x5 x12 x13 x14) (IntKind.i64.wrap (0 - x12)) (IntKind.i64.wrap (0 - x13)) (IntKind.i64.wrap (0 - x14)) == x1 && (box_Move_2 (box_Move_0 x0 x1 x2 x3 x4 x5 x12 x13 x14) (box_Move_1 x0 x1 x2 x3 x4 x5 x12 x13 x14) (box_Move_2 x0 x1 x2 x3 x4 x5 x12 x13 x14) (box_Move_3 x0 x1 x2 x3 x4 x5 x12 x13 x14) (box_Move_4 x0 x1 x2 x3 x4 x5 x12 x13 x14) (box_Move_5 x0 x1 x2 x3 x4 x5 x12 x13 x14) (IntKind.i64.wrap (0 - x12)) (IntKind.i64.wrap (0 - x13)) (IntKind.i64.wrap (0 - x14)) == x2 && Bool.true)) && (box_Move_3 (box_Move_0 x0 x1 x2 x3 x4 x5 x12 x13 x14) (box_Move_1 x0 x1 x2 x3 x4 x5 x12 x13 x14) (box_Move_2 x0 x1 x2 x3 x4 x5 x12 x13 x14) (box_Move_3 x0 x1 x2 x3 x4 x5 x12 x13 x14) (box_Move_4 x0 x1 x2 x3 x4 x5 x12 x13 x14) (box_Move_5 x0 x1 x2 x3 x4 x5 x12 x13 x14) (IntKind.i64.wrap (0 - x12)) (IntKind.i64.wrap (0 - x13)) (IntKind.i64.wrap (0 - x14)) == x3 && (box_Move_4 (box_Move_0 x0 x1 x2 x3 x4 x5 x12 x13 x14) (box_Move_1 x0 x1 x2 x3 x4 x5 x12 x13 x14) (box_Move_2 x0 x1 x2 x3 x4 x5 x12 x13 x14) (box_Move_3 x0 x1 x2 x3 x4 x5 x12 x13 x14) (box_Move_4 x0 x1 x2 x3 x4 x5 x12 x13 x14) (box_Move_5 x0 x1 x2 x3 x4 x5 x12 x13 x14) (IntKind.i64.wrap (0 - x12)) (IntKind.i64.wrap (0 - x13)) (IntKind.i64.wrap (0 - x14)) == x4 && (box_Move_5 (box_Move_0 x0 x1 x2 x3 x4 x5 x12 x13 x14) (box_Move_1 x0 x1 x2 x3 x4 x5 x12 x13 x14) (box_Move_2 x0 x1 x2 x3 x4 x5 x12 x13 x14) (box_Move_3 x0 x1 x2 x3 x4 x5 x12 x13 x14) (box_Move_4 x0 x1 x2 x3 x4 x5 x12 x13 x14) (box_Move_5 x0 x1 x2 x3 x4 x5 x12 x13 x14) (IntKind.i64.wrap (0 - x12)) (IntKind.i64.wrap (0 - x13)) (IntKind.i64.wrap (0 - x14)) == x5 && Bool.true)) && Bool.true)))
     (.leaf (some (.bool (Bool.false))))
     (.node 77 (box_Volume_1 x0 x1 x2 x3 x4 x5 != 0)
      (.leaf (some (.bool (Bool.false))))
      (.node 81 (box_Volume_1 (box_Move_0 x0 x1 x2 x3 x4 x5 x12 x13 x14) (box_Move_1 x0 x1 x2 x3 x4 x5 x12 x13 x14) (box_Move_2 x0 x1 x2 x3 x4 x5 x12 x13 x14) (box_Move_3 x0 x1 x2 x3 x4 x5 x12 x13 x14) (box_Move_4 x0 x1 x2 x3 x4 x5 x12 x13 x14) (box_Move_5 x0 x1 x2 x3 x4 x5 x12 x13 x14) != 0)
       (.leaf (some (.bool (Bool.false))))
       (.node 86 (box_Volume_0 x0 x1 x2 x3 x4 x5 != box_Volume_0 (box_Move_0 x0 x1 x2 x3 x4 x5 x12 x13 x14) (box_Move_1 x0 x1 x2 x3 x4 x5 x12 x13 x14) (box_Move_2 x0 x1 x2 x3 x4 x5 x12 x13 x14) (box_Move_3 x0 x1 x2 x3 x4 x5 x12 x13 x14) (box_Move_4 x0 x1 x2 x3 x4 x5 x12 x13 x14) (box_Move_5 x0 x1 x2 x3 x4 x5 x12 x13 x14))
        (.leaf (some (.bool (Bool.false))))
        (.node 91 (box_Overlap_0 x0 x1 x2 x3 x4 x5 x6 x7 x8 x9 x10 x11)
         (.node 94 (box_Overlap_0 (box_Move_0 x0 x1 x2 x3 x4 x5 x12 x13 x14) (box_Move_1 x0 x1 x2 x3 x4 x5 x12 x13 x14) (box_Move_2 x0 x1 x2 x3 x4 x5 x12 x13 x14) (box_Move_3 x0 x1 x2 x3 x4 x5 x12 x13 x14) (box_Move_4 x0 x1 x2 x3 x4 x5 x12 x13 x14) (box_Move_5 x0 x1 x2 x3 x4 x5 x12 x13 x14) (box_Move_0 x6 x7 x8 x9 x10 x11 x12 x13 x14) (box_Move_1 x6 x7 x8 x9 x10 x11 x12 x13 x14) (box_Move_2 x6 x7 x8 x9 x10 x11 x12 x13 x14) (box_Move_3 x6 x7 x8 x9 x10 x11 x12 x13 x14) (box_Move_4 x6 x7 x8 x9 x10 x11 x12 x13 x14) (box_Move_5 x6 x7 x8 x9 x10 x11 x12 x13 x14))
          (.node 117 (box_Touch_1 x0 x1 x2 x3 x4 x5 x6 x7 x8 x9 x10 x11 == box_Touch_1 (box_Move_0 x0 x1 x2 x3 x4 x5 x12 x13 x14) (box_Move_1 x0 x1 x2 x3 x4 x5 x12 x13 x14) (box_Move_2 x0 x1 x2 x3 x4 x5 x12 x13 x14) (box_Move_3 x0 x1 x2 x3 x4 x5 x12 x13 x14) (box_Move_4 x0 x1 x2 x3 x4 x5 x12 x13 x14) (box_Move_5 x0 x1 x2 x3 x4 x5 x12 x13 x14) (box_Move_0 x6 x7 x8 x9 x10 x11 x12 x13 x14) (box_Move_1 x6 x7 x8 x9 x10 x11 x12 x13 x14) (box_Move_2 x6 x7 x8 x9 x10 x11 x12 x13 x14) (box_Move_3 x6 x7 x8 x9 x10 x11 x12 x13 x14) (box_Move_4 x6 x7 x8 x9 x10 x11 x12 x13 x14) (box_Move_5 x6 x7 x8 x9 x10 x11 x12 x13 x14))
           (.node 121 (box_Touch_0 x0 x1 x2 x3 x4 x5 x6 x7 x8 x9 x10 x11 == box_Touch_0 (box_Move_0 x0 x1 x2 x3 x4 x5 x12 x13 x14) (box_Move_1 x0 x1 x2 x3 x4 x5 x12 x13 x14) (box_Move_2 x0 x1 x2 x3 x4 x5 x12 x13 x14) (box_Move_3 x0 x1 x2 x3 x4 x5 x12 x13 x14) (box_Move_4 x0 x1 x2 x3 x4 x5 x12 x13 x14) (box_Move_5 x0 x1 x2 x3 x4 x5 x12 x13 x14) (box_Move_0 x6 x7 x8 x9 x10 x11 x12 x13 x14) (box_Move_1 x6 x7 x8 x9 x10 x11 x12 x13 x14) (box_Move_2 x6 x7 x8 x9 x10 x11 x12 x13 x14) (box_Move_3 x6 x7 x8 x9 x10 x11 x12 x13 x14) (box_Move_4 x6 x7 x8 x9 x10 x11 x12 x13 x14) (box_Move_5 x6 x7 x8 x9 x10 x11 x12 x13 x14))
            (.node 126 (box_Touch_1 x0 x1 x2 x3 x4 x5 x6 x7 x8 x9 x10 x11 == box_Touch_1 x6 x7 x8 x9 x10 x11 x0 x1 x2 x3 x4 x5)
             (.node 130 (box_Touch_1 x0 x1 x2 x3 x4 x5 x6 x7 x8 x9 x10 x11 != 0)
              (.leaf (some (.bool (Bool.true))))
              (.node 136 (IntKind.i64.wrap ((box_Touch_0 x0 x1 x2 x3 x4 x5 x6 x7 x8 x9 x10 x11).tdiv 2) == IntKind.i64.wrap ((box_Touch_0 x6 x7 x8 x9 x10 x11 x0 x1 x2 x3 x4 x5).tdiv 2))
               (.node 140 (box_Touch_0 x0 x1 x2 x3 x4 x5 x6 x7 x8 x9 x10 x11 != box_Touch_0 x6 x7 x8 x9 x10 x11 x0 x1 x2 x3 x4 x5)
                (.node 145 (box_Overlap_0 x0 x1 x2 x3 x4 x5 x6 x7 x8 x9 x10 x11)
                 (.leaf (some (.bool (!Bool.true))))
                 (.leaf (some (.bool (!Bool.false)))))
                (.leaf (some (.bool (Bool.false)))))
               (.leaf (some (.bool (Bool.false))))))
             (.leaf (some (.bool (Bool.false)))))
            (.leaf (some (.bool (Bool.false)))))
           (.leaf (some (.bool (Bool.false)))))
          (.leaf (some (.bool (Bool.false)))))
         (.node 94 (box_Overlap_0 (box_Move_0 x0 x1 x2 x3 x4 x5 x12 x13 x14) (box_Move_1 x0 x1 x2 x3 x4 x5 x12 x13 x14) (box_Move_2 x0 x1 x2 x3 x4 x5 x12 x13 x14) (box_Move_3 x0 x1 x2 x3 x4 x5 x12 x13 x14) (box_Move_4 x0 x1 x2 x3 x4 x5 x12 x13 x14) (box_Move_5 x0 x1 x2 x3 x4 x5 x12 x13 x14) (box_Move_0 x6 x7 x8 x9 x10 x11 x12 x13 x14) (box_Move_1 x6 x7 x8 x9 x10 x11 x12 x13 x14) (box_Move_2 x6 x7 x8 x9 x10 x11 x12 x13 x14) (box_Move_3 x6 x7 x8 x9 x10 x11 x12 x13 x14) (box_Move_4 x6 x7 x8 x9 x10 x11 x12 x13 x14) (box_Move_5 x6 x7 x8 x9 x10 x11 x12 x13 x14))
          (.leaf (some (.bool (Bool.false))))
          (.node 117 (box_Touch_1 x0 x1 x2 x3 x4 x5 x6 x7 x8 x9 x10 x11 == box_Touch_1 (box_Move_0 x0 x1 x2 x3 x4 x5 x12 x13 x14) (box_Move_1 x0 x1 x2 x3 x4 x5 x12 x13 x14) (box_Move_2 x0 x1 x2 x3 x4 x5 x12 x13 x14) (box_Move_3 x0 x1 x2 x3 x4 x5 x12 x13 x14) (box_Move_4 x0 x1 x2 x3 x4 x5 x12 x13 x14) (box_Move_5 x0 x1 x2 x3 x4 x5 x12 x13 x14) (box_Move_0 x6 x7 x8 x9 x10 x11 x12 x13 x14) (box_Move_1 x6 x7 x8 x9 x10 x11 x12 x13 x14) (box_Move_2 x6 x7 x8 x9 x10 x11 x12 x13 x14) (box_Move_3 x6 x7 x8 x9 x10 x11 x12 x13 x14) (box_Move_4 x6 x7 x8 x9 x10 x11 x12 x13 x14) (box_Move_5 x6 x7 x8 x9 x10 x11 x12 x13 x14))
           (.node 121 (box_Touch_0 x0 x1 x2 x3 x4 x5 x6 x7 x8 x9 x10 x11 == box_Touch_0 (box_Move_0 x0 x1 x2 x3 x4 x5 x12 x13 x14) (box_Move_1 x0 x1 x2 x3 x4 x5 x12 x13 x14) (box_Move_2 x0 x1 x2 x3 x4 x5 x12 x13 x14) (box_Move_3 x0 x1 x2 x3 x4 x5 x12 x13 x14) (box_Move_4 x0 x1 x2 x3 x4 x5 x12 x13 x14) (box_Move_5 x0 x1 x2 x3 x4 x5 x12 x13 x14) (box_Move_0 x6 x7 x8 x9 x10 x11 x12 x13 x14) (box_Move_1 x6 x7 x8 x9 x10 x11 x12 x13 x14) (box_Move_2 x6 x7 x8 x9 x10 x11 x12 x13 x14) (box_Move_3 x6 x7 x8 x9 x10 x11 x12 x13 x14) (box_Move_4 x6 x7 x8 x9 x10 x11 x12 x13 x14) (box_Move_5 x6 x7 x8 x9 x10 x11 x12 x13 x14))
            (.node 126 (box_Touch_1 x0 x1 x2 x3 x4 x5 x6 x7 x8 x9 x10 x11 == box_Touch_1 x6 x7 x8 x9 x10 x11 x0 x1 x2 x3 x4 x5)
             (.node 130 (box_Touch_1 x0 x1 x2 x3 x4 x5 x6 x7 x8 x9 x10 x11 != 0)
              (.leaf (some (.bool (Bool.true))))
              (.node 136 (IntKind.i64.wrap ((box_Touch_0 x0 x1 x2 x3 x4 x5 x6 x7 x8 x9 x10 x11).tdiv 2) == IntKind.i64.wrap ((box_Touch_0 x6 x7 x8 x9 x10 x11 x0 x1 x2 x3 x4 x5).tdiv 2))
               (.node 140 (box_Touch_0 x0 x1 x2 x3 x4 x5 x6 x7 x8 x9 x10 x11 != box_Touch_0 x6 x7 x8 x9 x10 x11 x0 x1 x2 x3 x4 x5)
                (.node 145 (box_Overlap_0 x0 x1 x2 x3 x4 x5 x6 x7 x8 x9 x10 x11)
                 (.leaf (some (.bool (!Bool.true))))
                 (.leaf (some (.bool (!Bool.false)))))
                (.leaf (some (.bool (Bool.false)))))
               (.leaf (some (.bool (Bool.false))))))
             (.leaf (some (.bool (Bool.false)))))
            (.leaf (some (.bool (Bool.false)))))
           (.leaf (some (.bool (Bool.false)))))))))))))
theorem tree10_eq (x0 x1 x2 x3 x4 x5 x6 x7 x8 x9 x10 x11 x12 x13 x14 : Int) : vals (evFnT Try.prog (tb Try.prog tab17) (tbT Try.prog tab17) [(38, 0), (41, 0), (69, 0), (73, 0), (77, 0), (81, 0), (86, 0), (91, 0), (94, 0), (117, 0), (121, 0), (126, 0), (130, 0), (136, 0), (140, 0), (145, 0)] 300 10 #[.agg #[.int .i64 x0, .int .i64 x1, .int .i64 x2, .int .i64 x3, .int .i64 x4, .int .i64 x5], .agg #[.int .i64 x6, .int .i64 x7, .int .i64 x8, .int .i64 x9, .int .i64 x10, .int .i64 x11], .agg #[.int .i64 x12, .int .i64 x13, .int .i64 x14]] []) = tree10 x0 x1 x2 x3 x4 x5 x6 x7 x8 x9 x10 x11 x12 x13 x14 := by kernel_rfl
theorem tree10_res (x0 x1 x2 x3 x4 x5 x6 x7 x8 x9 x10 x11 x12 x13 x14 : Int) : (tree10 x0 x1 x2 x3 x4 x5 x6 x7 x8 x9 x10 x11 x12 x13 x14).res = some (.bool (law06_BoxMoves_0 x0 x1 x2 x3 x4 x5 x6 x7 x8 x9 x10 x11 x12 x13 x14)) := by
  unfold tree10 law06_BoxMoves_0
  simp only [Tr.res]
  generalize (box_Move_6 x0 x1 x2 x3 x4 x5 x12 x13 x14 != 0) = b0
  generalize (box_Move_6 x6 x7 x8 x9 x10 x11 x12 x13 x14 != 0) = b1
  generalize (box_Move_6 (box_Move_0 x0 x1 x2 x3 x4 x5 x12 x13 x14) (box_Move_1 x0 x1 x2 x3 x4 x5 x12 x13 x14) (box_Move_2 x0 x1 x2 x3 x4 x5 x12 x13 x14) (box_Move_3 x0 x1 x2 x3 x4 x5 x12 x13 x14) (box_Move_4 x0 x1 x2 x3 x4 x5 x12 x13 x14) (box_Move_5 x0 x1 x2 x3 x4 x5 x12 x13 x14) (IntKind.i64.wrap (0 - x12)) (IntKind.i64.wrap (0 - x13)) (IntKind.i64.wrap (0 - x14)) != 0) = b2
  generalize (!(box_Move_0 (box_Move_0 x0 x1 x2 x3 x4 x5 x12 x13 x14) (box_Move_1 x0 x1 x2 x3 x4 x5 x12 x13 x14) (box_Move_2 x0 x1 x2 x3 x4 x5 x12 x13 x14) (box_Move_3 x0 x1 x2 x3 x4 x5 x12 x13 x14) (box_Move_4 x0 x1 x2 x3 x4 x5 x12 x13 x14) (box_Move_5 x0 x1 x2 x3 x4 x5 x12 x13 x14) (IntKind.i64.wrap (0 - x12)) (IntKind.i64.wrap (0 - x13)) (IntKind.i64.wrap (0 - x14)) == x0 && (box_Move_1 (box_Move_0 x0 x1 x2 x3 x4 x5 x12 x13 x14) (box_Move_1 x0 x1 x2 x3 x4 x5 x12 x13 x14) (box_Move_2 x0 x1 x2 x3 x4 x5 x12 x13 x14) (box_Move_3 x0 x1 x2 x3 x4 x5 x12 x13 x14) (box_Move_4 x0 x1 x2 x3 x4 x5 x12 x13 x14) (box_Move_5 x0 x1 x2 x3 x4 x5 x12 x13 x14) (IntKind.i64.wrap (0 - x12)) (IntKind.i64.wrap (0 - x13)) (IntKind.i64.wrap (0 - x14)) == x1 && (box_Move_2 (box_Move_0 x0 x1 x2 x3 x4 x5 x12 x13 x14) (box_Move_1 x0 x1 x2 x3 x4 x5 x12 x13 x14) (box_Move_2 x0 x1 x2 x3 x4 x5 x12 x13 x14) (box_Move_3 x0 x1 x2 x3 x4 x5 x12 x13 x14) (box_Move_4 x0 x1 x2 x3 x4 x5 x12 x13 x14) (box_Move_5 x0 x1 x2 x3 x4 x5 x12 x13 x14) (IntKind.i64.wrap (0 - x12)) (IntKind.i64.wrap (0 - x13)) (IntKind.i64.wrap (0 - x14)) == x2 && Bool.true)) && (box_Move_3 (box_Move_0 x0 x1 x2 x3 x4 x5 x12 x13 x14) (box_Move_1 x0 x1 x2 x3 x4 x5 x12 x13 x14) (box_Move_2 x0 x1 x2 x3 x4 x5 x12 x13 x14) (box_Move_3 x0 x1 x2 x3 x4 x5 x12 x13 x14) (box_Move_4 x0 x1 x2 x3 x4 x5 x12 x13 x14) (box_Move_5 x0 x1 x2 x3 x4 x5 x12 x13 x14) (IntKind.i64.wrap (0 - x12)) (IntKind.i64.wrap (0 - x13)) (IntKind.i64.wrap (0 - x14)) == x3 && (box_Move_4 (box_Move_0 x0 x1 x2 x3 x4 x5 x12 x13 x14) (box_Move_1 x0 x1 x2 x3 x4 x5 x12 x13 x14) (box_Move_2 x0 x1 x2 x3 x4 x5 x12 x13 x14) (box_Move_3 x0 x1 x2 x3 x4 x5 x12 x13 x14) (box_Move_4 x0 x1 x2 x3 x4 x5 x12 x13 x14) (box_Move_5 x0 x1 x2 x3 x4 x5 x12 x13 x14) (IntKind.i64.wrap (0 - x12)) (IntKind.i64.wrap (0 - x13)) (IntKind.i64.wrap (0 - x14)) == x4 && (box_Move_5 (box_Move_0 x0 x1 x2 x3 x4 x5 x12 x13 x14) (box_Move_1 x0 x1 x2 x3 x4 x5 x12 x13 x14) (box_Move_2 x0 x1 x2 x3 x4 x5 x12 x13 x14) (box_Move_3 x0 x1 x2 x3 x4 x5 x12 x13 x14) (box_Move_4 x0 x1 x2 x3 x4 x5 x12 x13 x14) (box_Move_5 x0 x1 x2 x3 x4 x5 x12 x13 x14) (IntKind.i64.wrap (0 - x12)) (IntKind.i64.wrap (0 - x13)) (IntKind.i64.wrap (0 - x14)) == x5 && Bool.true)) && Bool.true))) = b3
  generalize (box_Volume_1 x0 x1 x2 x3 x4 x5 != 0) = b4
  generalize (box_Volume_1 (box_Move_0 x0 x1 x2 x3 x4 x5 x12 x13 x14) (box_Move_1 x0 x1 x2 x3 x4 x5 x12 x13 x14) (box_Move_2 x0 x1 x2 x3 x4 x5 x12 x13 x14) (box_Move_3 x0 x1 x2 x3 x4 x5 x12 x13 x14) (box_Move_4 x0 x1 x2 x3 x4 x5 x12 x13 x14) (box_Move_5 x0 x1 x2 x3 x4 x5 x12 x13 x14) != 0) = b5
  generalize (box_Volume_0 x0 x1 x2 x3 x4 x5 != box_Volume_0 (box_Move_0 x0 x1 x2 x3 x4 x5 x12 x13 x14) (box_Move_1 x0 x1 x2 x3 x4 x5 x12 x13 x14) (box_Move_2 x0 x1 x2 x3 x4 x5 x12 x13 x14) (box_Move_3 x0 x1 x2 x3 x4 x5 x12 x13 x14) (box_Move_4 x0 x1 x2 x3 x4 x5 x12 x13 x14) (box_Move_5 x0 x1 x2 x3 x4 x5 x12 x13 x14)) = b6
  generalize (box_Overlap_0 x0 x1 x2 x3 x4 x5 x6 x7 x8 x9 x10 x11) = b7
  generalize (box_Overlap_0 (box_Move_0 x0 x1 x2 x3 x4 x5 x12 x13 x14) (box_Move_1 x0 x1 x2 x3 x4 x5 x12 x13 x14) (box_Move_2 x0 x1 x2 x3 x4 x5 x12 x13 x14) (box_Move_3 x0 x1 x2 x3 x4 x5 x12 x13 x14) (box_Move_4 x0 x1 x2 x3 x4 x5 x12 x13 x14) (box_Move_5 x0 x1 x2 x3 x4 x5 x12 x13 x14) (box_Move_0 x6 x7 x8 x9 x10 x11 x12 x13 x14) (box_Move_1 x6 x7 x8 x9 x10 x11 x12 x13 x14) (box_Move_2 x6 x7 x8 x9 x10 x11 x12 x13 x14) (box_Move_3 x6 x7 x8 x9 x10 x11 x12 x13 x14) (box_Move_4 x6 x7 x8 x9 x10 x11 x12 x13 x14) (box_Move_5 x6 x7 x8 x9 x10 x11 x12 x13 x14)) = b8
  generalize (box_Touch_1 x0 x1 x2 x3 x4 x5 x6 x7 x8 x9 x10 x11 == box_Touch_1 (box_Move_0 x0 x1 x2 x3 x4 x5 x12 x13 x14) (box_Move_1 x0 x1 x2 x3 x4 x5 x12 x13 x14) (box_Move_2 x0 x1 x2 x3 x4 x5 x12 x13 x14) (box_Move_3 x0 x1 x2 x3 x4 x5 x12 x13 x14) (box_Move_4 x0 x1 x2 x3 x4 x5 x12 x13 x14) (box_Move_5 x0 x1 x2 x3 x4 x5 x12 x13 x14) (box_Move_0 x6 x7 x8 x9 x10 x11 x12 x13 x14) (box_Move_1 x6 x7 x8 x9 x10 x11 x12 x13 x14) (box_Move_2 x6 x7 x8 x9 x10 x11 x12 x13 x14) (box_Move_3 x6 x7 x8 x9 x10 x11 x12 x13 x14) (box_Move_4 x6 x7 x8 x9 x10 x11 x12 x13 x14) (box_Move_5 x6 x7 x8 x9 x10 x11 x12 x13 x14)) = b9
  generalize (box_Touch_0 x0 x1 x2 x3 x4 x5 x6 x7 x8 x9 x10 x11 == box_Touch_0 (box_Move_0 x0 x1 x2 x3 x4 x5 x12 x13 x14) (box_Move_1 x0 x1 x2 x3 x4 x5 x12 x13 x14) (box_Move_2 x0 x1 x2 x3 x4 x5 x12 x13 x14) (box_Move_3 x0 x1 x2 x3 x4 x5 x12 x13 x14) (box_Move_4 x0 x1 x2 x3 x4 x5 x12 x13 x14) (box_Move_5 x0 x1 x2 x3 x4 x5 x12 x13 x14) (box_Move_0 x6 x7 x8 x9 x10 x11 x12 x13 x14) (box_Move_1 x6 x7 x8 x9 x10 x11 x12 x13 x14) (box_Move_2 x6 x7 x8 x9 x10 x11 x12 x13 x14) (box_Move_3 x6 x7 x8 x9 x10 x11 x12 x13 x14) (box_Move_4 x6 x7 x8 x9 x10 x11 x12 x13 x14) (box_Move_5 x6 x7 x8 x9 x10 x11 x12 x13 x14)) = b10
  generalize (box_Touch_1 x0 x1 x2 x3 x4 x5 x6 x7 x8 x9 x10 x11 == box_Touch_1 x6 x7 x8 x9 x10 x11 x0 x1 x2 x3 x4 x5) = b11
  generalize (box_Touch_1 x0 x1 x2 x3 x4 x5 x6 x7 x8 x9 x10 x11 != 0) = b12
  generalize (IntKind.i64.wrap ((box_Touch_0 x0 x1 x2 x3 x4 x5 x6 x7 x8 x9 x10 x11).tdiv 2) == IntKind.i64.wrap ((box_Touch_0 x6 x7 x8 x9 x10 x11 x0 x1 x2 x3 x4 x5).tdiv 2)) = b13
  generalize (box_Touch_0 x0 x1 x2 x3 x4 x5 x6 x7 x8 x9 x10 x11 != box_Touch_0 x6 x7 x8 x9 x10 x11 x0 x1 x2 x3 x4 x5) = b14
  cases b0 with
  | true =>
   first | (simp only [if_true, Bool.false_eq_true, if_false]; done) | rfl
  | false =>
   cases b1 with
   | true =>
    first | (simp only [if_true, Bool.false_eq_true, if_false]; done) | rfl
   | false =>
    cases b2 with
    | true =>
     first | (simp only [if_true, Bool.false_eq_true, if_false]; done) | rfl
    | false =>
     cases b3 with
     | true =>
      first | (simp only [if_true, Bool.false_eq_true, if_false]; done) | rfl
     | false =>
      cases b4 with
      | true =>
       first | (simp only [if_true, Bool.false_eq_true, if_false]; done) | rfl
      | false =>
       cases b5 with
       | true =>
        first | (simp only [if_true, Bool.false_eq_true, if_false]; done) | rfl
       | false =>
        cases b6 with
        | true =>
         first | (simp only [if_true, Bool.false_eq_true, if_false]; done) | rfl
        | false =>
         cases b7 with
         | true =>
          cases b8 with
          | true =>
           cases b9 with
           | true =>
            cases b10 with
            | true =>
             cases b11 with
             | true =>
              cases b12 with
              | true =>
               first | (simp only [if_true, Bool.false_eq_true, if_false]; done) | rfl
              | false =>
               cases b13 with
               | true =>
                cases b14 with
                | true =>
                 first | (simp only [if_true, Bool.false_eq_true, if_false]; done) | rfl
                | false =>
                 first | (simp only [if_true, Bool.false_eq_true, if_false]; done) | rfl
               | false =>
                first | (simp only [if_true, Bool.false_eq_true, if_false]; done) | rfl
             | false =>
              first | (simp only [if_true, Bool.false_eq_true, if_false]; done) | rfl
            | false =>
             first | (simp only [if_true, Bool.false_eq_true, if_false]; done) | rfl
           | false =>
            first | (simp only [if_true, Bool.false_eq_true, if_false]; done) | rfl
          | false =>
           first | (simp only [if_true, Bool.false_eq_true, if_false]; done) | rfl
         | false =>
          cases b8 with
          | true =>
           first | (simp only [if_true, Bool.false_eq_true, if_false]; done) | rfl
          | false =>
           cases b9 with
           | true =>
            cases b10 with
            | true =>
             cases b11 with
             | true =>
              cases b12 with
              | true =>
               first | (simp only [if_true, Bool.false_eq_true, if_false]; done) | rfl
              | false =>
               cases b13 with
               | true =>
                cases b14 with
                | true =>
                 first | (simp only [if_true, Bool.false_eq_true, if_false]; done) | rfl
                | false =>
                 first | (simp only [if_true, Bool.false_eq_true, if_false]; done) | rfl
               | false =>
                first | (simp only [if_true, Bool.false_eq_true, if_false]; done) | rfl
             | false =>
              first | (simp only [if_true, Bool.false_eq_true, if_false]; done) | rfl
            | false =>
             first | (simp only [if_true, Bool.false_eq_true, if_false]; done) | rfl
           | false =>
            first | (simp only [if_true, Bool.false_eq_true, if_false]; done) | rfl
theorem tab18_ok : TabOk Try.prog tab18 := tab_cons mixed tab17_ok (by decide) fun args v h => by
  unfold ans10 at h
  split at h
  · rename_i c0 c1 c2 h0
    split at h
    · rename_i x0 x1 x2 x3 x4 x5 x6 x7 x8 x9 x10 x11 x12 x13 x14 h1 h2 h3
      injection h with h; subst h
      obtain rfl : c0 = #[.int .i64 x0, .int .i64 x1, .int .i64 x2, .int .i64 x3, .int .i64 x4, .int .i64 x5] := by rw [← Array.toArray_toList (xs := c0), h1]
      obtain rfl : c1 = #[.int .i64 x6, .int .i64 x7, .int .i64 x8, .int .i64 x9, .int .i64 x10, .int .i64 x11] := by rw [← Array.toArray_toList (xs := c1), h2]
      obtain rfl : c2 = #[.int .i64 x12, .int .i64 x13, .int .i64 x14] := by rw [← Array.toArray_toList (xs := c2), h3]
      obtain rfl : args = #[.agg #[.int .i64 x0, .int .i64 x1, .int .i64 x2, .int .i64 x3, .int .i64 x4, .int .i64 x5], .agg #[.int .i64 x6, .int .i64 x7, .int .i64 x8, .int .i64 x9, .int .i64 x10, .int .i64 x11], .agg #[.int .i64 x12, .int .i64 x13, .int .i64 x14]] := by rw [← Array.toArray_toList (xs := args), h0]
      exact ⟨rfl, rfl, [(38, 0), (41, 0), (69, 0), (73, 0), (77, 0), (81, 0), (86, 0), (91, 0), (94, 0), (117, 0), (121, 0), (126, 0), (130, 0), (136, 0), (140, 0), (145, 0)], 300, by rw [tree10_eq]; exact tree10_res _ _ _ _ _ _ _ _ _ _ _ _ _ _ _⟩
    · cases h
  · cases h
end Go.Proofs.Ytgpcgcflmimnbaa.Vx
