/- The answers of the functions of the package and of its reference, read off their texts. -/
import Derived.Test.YtgpcgcflmimnbaaXA
namespace Go.Proofs.Ytgpcgcflmimnbaa.Vx
open Go Go.RowKit Go.Proofs
set_option maxRecDepth 100000
set_option linter.unusedVariables false
set_option linter.unusedSimpArgs false
def tab0 : Tab := []
theorem tab0_ok : TabOk Try.prog tab0 := tab_nil

/- gangsaw/gangsawlaw06.awake -/
def ans11 : Ans := fun args => match args.toList with
  | [] => some (.bool true)
  | _ => none
def tab1 : Tab := (11, .ans ans11) :: tab0
theorem tab1_ok : TabOk Try.prog tab1 := tab_put tab0_ok (by decide) fun args v h => by
  unfold ans11 at h
  split at h
  · rename_i h0
    injection h with h; subst h
    obtain rfl : args = #[] := by rw [← Array.toArray_toList (xs := args), h0]
    exact ⟨rfl, rfl, fun w => awake_any w⟩
  · cases h

/- gangsaw/gangsawref06.At -/
def ref06_At_0 (x0 x1 x2 x3 : Int) : Int :=
  if x3 == 0 then (x0) else if x3 == 1 then (x1) else (x2)
def ans48 : Ans := fun args => match args.toList with
  | [.agg c0, .int .i64 x3] => match c0.toList with
    | [.int .i64 x0, .int .i64 x1, .int .i64 x2] => some (.int .i64 (ref06_At_0 x0 x1 x2 x3))
    | _ => none
  | _ => none
def tab2 : Tab := (48, .ans ans48) :: tab1
def tree48 (x0 x1 x2 x3 : Int) : Tr Value :=
  .node 7 (x3 == 0)
  (.leaf (some (.int .i64 (x0))))
  (.node 11 (x3 == 1)
   (.leaf (some (.int .i64 (x1))))
   (.leaf (some (.int .i64 (x2)))))
theorem tree48_eq (x0 x1 x2 x3 : Int) : vals (evFnT Try.prog (tb Try.prog tab1) (tbT Try.prog tab1) ⟨[(7, 0), (11, 0)], [], []⟩ noLoops 300 48 #[.agg #[.int .i64 x0, .int .i64 x1, .int .i64 x2], .int .i64 x3] []) = tree48 x0 x1 x2 x3 := by kernel_rfl
theorem tree48_res (x0 x1 x2 x3 : Int) : (tree48 x0 x1 x2 x3).res = some (.int .i64 (ref06_At_0 x0 x1 x2 x3)) := by
  unfold tree48 ref06_At_0
  simp only [Tr.res]
  generalize (x3 == 0) = b0
  generalize (x3 == 1) = b1
  cases b0 with
  | true =>
   first | (simp only [if_true, Bool.false_eq_true, if_false]; done) | rfl
  | false =>
   cases b1 with
   | true =>
    first | (simp only [if_true, Bool.false_eq_true, if_false]; done) | rfl
   | false =>
    first | (simp only [if_true, Bool.false_eq_true, if_false]; done) | rfl
theorem tab2_ok : TabOk Try.prog tab2 := tab_cons mixed tab1_ok (by decide) fun args v h => by
  unfold ans48 at h
  split at h
  · rename_i c0 x3 h0
    split at h
    · rename_i x0 x1 x2 h1
      injection h with h; subst h
      obtain rfl : c0 = #[.int .i64 x0, .int .i64 x1, .int .i64 x2] := by rw [← Array.toArray_toList (xs := c0), h1]
      obtain rfl : args = #[.agg #[.int .i64 x0, .int .i64 x1, .int .i64 x2], .int .i64 x3] := by rw [← Array.toArray_toList (xs := args), h0]
      exact ⟨rfl, rfl, ⟨[(7, 0), (11, 0)], [], []⟩, 300, by rw [tree48_eq]; exact tree48_res _ _ _ _⟩
    · cases h
  · cases h

/- gangsaw/gangsawref06.Check -/
def ref06_Check_0 (x0 x1 x2 x3 x4 x5 : Int) : Int :=
  if Decidable.decide (ref06_At_0 x0 x1 x2 0 < -1000000) then (6) else if Decidable.decide (ref06_At_0 x0 x1 x2 0 > 1000000) then (6) else if Decidable.decide (ref06_At_0 x3 x4 x5 0 < -1000000) then (6) else if Decidable.decide (ref06_At_0 x3 x4 x5 0 > 1000000) then (6) else if Decidable.decide (ref06_At_0 x0 x1 x2 (IntKind.i64.wrap (0 + 1)) < -1000000) then (6) else if Decidable.decide (ref06_At_0 x0 x1 x2 (IntKind.i64.wrap (0 + 1)) > 1000000) then (6) else if Decidable.decide (ref06_At_0 x3 x4 x5 (IntKind.i64.wrap (0 + 1)) < -1000000) then (6) else if Decidable.decide (ref06_At_0 x3 x4 x5 (IntKind.i64.wrap (0 + 1)) > 1000000) then (6) else if Decidable.decide (ref06_At_0 x0 x1 x2 (IntKind.i64.wrap (IntKind.i64.wrap (0 + 1) + 1)) < -1000000) then (6) else if Decidable.decide (ref06_At_0 x0 x1 x2 (IntKind.i64.wrap (IntKind.i64.wrap (0 + 1) + 1)) > 1000000) then (6) else if Decidable.decide (ref06_At_0 x3 x4 x5 (IntKind.i64.wrap (IntKind.i64.wrap (0 + 1) + 1)) < -1000000) then (6) else if Decidable.decide (ref06_At_0 x3 x4 x5 (IntKind.i64.wrap (IntKind.i64.wrap (0 + 1) + 1)) > 1000000) then (6) else if Decidable.decide (ref06_At_0 x0 x1 x2 0 ≥ ref06_At_0 x3 x4 x5 0) then (1) else if Decidable.decide (ref06_At_0 x0 x1 x2 (IntKind.i64.wrap (0 + 1)) ≥ ref06_At_0 x3 x4 x5 (IntKind.i64.wrap (0 + 1))) then (1) else if Decidable.decide (ref06_At_0 x0 x1 x2 (IntKind.i64.wrap (IntKind.i64.wrap (0 + 1) + 1)) ≥ ref06_At_0 x3 x4 x5 (IntKind.i64.wrap (IntKind.i64.wrap (0 + 1) + 1))) then (1) else (0)
def ans12 : Ans := fun args => match args.toList with
  | [.agg c0] => match c0.toList with
    | [.int .i64 x0, .int .i64 x1, .int .i64 x2, .int .i64 x3, .int .i64 x4, .int .i64 x5] => some (.int .i64 (ref06_Check_0 x0 x1 x2 x3 x4 x5))
    | _ => none
  | _ => none
def tab3 : Tab := (12, .ans ans12) :: tab2
def tree12 (x0 x1 x2 x3 x4 x5 : Int) : Tr Value :=
  .node 20 (Decidable.decide (ref06_At_0 x0 x1 x2 0 < -1000000))
  (.leaf (some (.int .i64 (6))))
  (.node 23 (Decidable.decide (ref06_At_0 x0 x1 x2 0 > 1000000))
   (.leaf (some (.int .i64 (6))))
   (.node 27 (Decidable.decide (ref06_At_0 x3 x4 x5 0 < -1000000))
    (.leaf (some (.int .i64 (6))))
    (.node 31 (Decidable.decide (ref06_At_0 x3 x4 x5 0 > 1000000))
     (.leaf (some (.int .i64 (6))))
     (.node 20 (Decidable.decide (ref06_At_0 x0 x1 x2 (IntKind.i64.wrap (0 + 1)) < -1000000))
      (.leaf (some (.int .i64 (6))))
      (.node 23 (Decidable.decide (ref06_At_0 x0 x1 x2 (IntKind.i64.wrap (0 + 1)) > 1000000))
       (.leaf (some (.int .i64 (6))))
       (.node 27 (Decidable.decide (ref06_At_0 x3 x4 x5 (IntKind.i64.wrap (0 + 1)) < -1000000))
        (.leaf (some (.int .i64 (6))))
        (.node 31 (Decidable.decide (ref06_At_0 x3 x4 x5 (IntKind.i64.wrap (0 + 1)) > 1000000))
         (.leaf (some (.int .i64 (6))))
         (.node 20 (Decidable.decide (ref06_At_0 x0 x1 x2 (IntKind.i64.wrap (IntKind.i64.wrap (0 + 1) + 1)) < -1000000))
          (.leaf (some (.int .i64 (6))))
          (.node 23 (Decidable.decide (ref06_At_0 x0 x1 x2 (IntKind.i64.wrap (IntKind.i64.wrap (0 + 1) + 1)) > 1000000))
           (.leaf (some (.int .i64 (6))))
           (.node 27 (Decidable.decide (ref06_At_0 x3 x4 x5 (IntKind.i64.wrap (IntKind.i64.wrap (0 + 1) + 1)) < -1000000))
            (.leaf (some (.int .i64 (6))))
            (.node 31 (Decidable.decide (ref06_At_0 x3 x4 x5 (IntKind.i64.wrap (IntKind.i64.wrap (0 + 1) + 1)) > 1000000))
             (.leaf (some (.int .i64 (6))))
             (.node 45 (Decidable.decide (ref06_At_0 x0 x1 x2 0 ≥ ref06_At_0 x3 x4 x5 0))
              (.leaf (some (.int .i64 (1))))
              (.node 45 (Decidable.decide (ref06_At_0 x0 x1 x2 (IntKind.i64.wrap (0 + 1)) ≥ ref06_At_0 x3 x4 x5 (IntKind.i64.wrap (0 + 1))))
               (.leaf (some (.int .i64 (1))))
               (.node 45 (Decidable.decide (ref06_At_0 x0 x1 x2 (IntKind.i64.wrap (IntKind.i64.wrap (0 + 1) + 1)) ≥ ref06_At_0 x3 x4 x5 (IntKind.i64.wrap (IntKind.i64.wrap (0 + 1) + 1))))
                (.leaf (some (.int .i64 (1))))
                (.leaf (some (.int .i64 (0))))))))))))))))))
theorem tree12_eq (x0 x1 x2 x3 x4 x5 : Int) : vals (evFnT Try.prog (tb Try.prog tab2) (tbT Try.prog tab2) ⟨[(20, 0), (23, 0), (27, 0), (31, 0), (45, 0)], [], []⟩ noLoops 300 12 #[.agg #[.int .i64 x0, .int .i64 x1, .int .i64 x2, .int .i64 x3, .int .i64 x4, .int .i64 x5]] []) = tree12 x0 x1 x2 x3 x4 x5 := by kernel_rfl
theorem tree12_res (x0 x1 x2 x3 x4 x5 : Int) : (tree12 x0 x1 x2 x3 x4 x5).res = some (.int .i64 (ref06_Check_0 x0 x1 x2 x3 x4 x5)) := by
  unfold tree12 ref06_Check_0
  simp only [Tr.res]
  generalize (Decidable.decide (ref06_At_0 x0 x1 x2 0 < -1000000)) = b0
  generalize (Decidable.decide (ref06_At_0 x0 x1 x2 0 > 1000000)) = b1
  generalize (Decidable.decide (ref06_At_0 x3 x4 x5 0 < -1000000)) = b2
  generalize (Decidable.decide (ref06_At_0 x3 x4 x5 0 > 1000000)) = b3
  generalize (Decidable.decide (ref06_At_0 x0 x1 x2 (IntKind.i64.wrap (0 + 1)) < -1000000)) = b4
  generalize (Decidable.decide (ref06_At_0 x0 x1 x2 (IntKind.i64.wrap (0 + 1)) > 1000000)) = b5
  generalize (Decidable.decide (ref06_At_0 x3 x4 x5 (IntKind.i64.wrap (0 + 1)) < -1000000)) = b6
  generalize (Decidable.decide (ref06_At_0 x3 x4 x5 (IntKind.i64.wrap (0 + 1)) > 1000000)) = b7
  generalize (Decidable.decide (ref06_At_0 x0 x1 x2 (IntKind.i64.wrap (IntKind.i64.wrap (0 + 1) + 1)) < -1000000)) = b8
  generalize (Decidable.decide (ref06_At_0 x0 x1 x2 (IntKind.i64.wrap (IntKind.i64.wrap (0 + 1) + 1)) > 1000000)) = b9
  generalize (Decidable.decide (ref06_At_0 x3 x4 x5 (IntKind.i64.wrap (IntKind.i64.wrap (0 + 1) + 1)) < -1000000)) = b10
  generalize (Decidable.decide (ref06_At_0 x3 x4 x5 (IntKind.i64.wrap (IntKind.i64.wrap (0 + 1) + 1)) > 1000000)) = b11
  generalize (Decidable.decide (ref06_At_0 x0 x1 x2 0 ≥ ref06_At_0 x3 x4 x5 0)) = b12
  generalize (Decidable.decide (ref06_At_0 x0 x1 x2 (IntKind.i64.wrap (0 + 1)) ≥ ref06_At_0 x3 x4 x5 (IntKind.i64.wrap (0 + 1)))) = b13
  generalize (Decidable.decide (ref06_At_0 x0 x1 x2 (IntKind.i64.wrap (IntKind.i64.wrap (0 + 1) + 1)) ≥ ref06_At_0 x3 x4 x5 (IntKind.i64.wrap (IntKind.i64.wrap (0 + 1) + 1)))) = b14
  cases b0 with
  | true =>
   first | (simp only [if_true, Bool.false_eq_true, if_false]; done) | rfl
  | false =>
   cases b1 with
   | true =>
    first | (simp only [if_true, Bool.false_eq_true, if_false]; done) | rfl
   | false =>
    cases b2 with
    | true =>
     first | (simp only [if_true, Bool.false_eq_true, if_false]; done) | rfl
    | false =>
     cases b3 with
     | true =>
      first | (simp only [if_true, Bool.false_eq_true, if_false]; done) | rfl
     | false =>
      cases b4 with
      | true =>
       first | (simp only [if_true, Bool.false_eq_true, if_false]; done) | rfl
      | false =>
       cases b5 with
       | true =>
        first | (simp only [if_true, Bool.false_eq_true, if_false]; done) | rfl
       | false =>
        cases b6 with
        | true =>
         first | (simp only [if_true, Bool.false_eq_true, if_false]; done) | rfl
        | false =>
         cases b7 with
         | true =>
          first | (simp only [if_true, Bool.false_eq_true, if_false]; done) | rfl
         | false =>
          cases b8 with
          | true =>
           first | (simp only [if_true, Bool.false_eq_true, if_false]; done) | rfl
          | false =>
           cases b9 with
           | true =>
            first | (simp only [if_true, Bool.false_eq_true, if_false]; done) | rfl
           | false =>
            cases b10 with
            | true =>
             first | (simp only [if_true, Bool.false_eq_true, if_false]; done) | rfl
            | false =>
             cases b11 with
             | true =>
              first | (simp only [if_true, Bool.false_eq_true, if_false]; done) | rfl
             | false =>
              cases b12 with
              | true =>
               first | (simp only [if_true, Bool.false_eq_true, if_false]; done) | rfl
              | false =>
               cases b13 with
               | true =>
                first | (simp only [if_true, Bool.false_eq_true, if_false]; done) | rfl
               | false =>
                cases b14 with
                | true =>
                 first | (simp only [if_true, Bool.false_eq_true, if_false]; done) | rfl
                | false =>
                 first | (simp only [if_true, Bool.false_eq_true, if_false]; done) | rfl
theorem tab3_ok : TabOk Try.prog tab3 := tab_cons mixed tab2_ok (by decide) fun args v h => by
  unfold ans12 at h
  split at h
  · rename_i c0 h0
    split at h
    · rename_i x0 x1 x2 x3 x4 x5 h1
      injection h with h; subst h
      obtain rfl : c0 = #[.int .i64 x0, .int .i64 x1, .int .i64 x2, .int .i64 x3, .int .i64 x4, .int .i64 x5] := by rw [← Array.toArray_toList (xs := c0), h1]
      obtain rfl : args = #[.agg #[.int .i64 x0, .int .i64 x1, .int .i64 x2, .int .i64 x3, .int .i64 x4, .int .i64 x5]] := by rw [← Array.toArray_toList (xs := args), h0]
      exact ⟨rfl, rfl, ⟨[(20, 0), (23, 0), (27, 0), (31, 0), (45, 0)], [], []⟩, 300, by rw [tree12_eq]; exact tree12_res _ _ _ _ _ _⟩
    · cases h
  · cases h

/- gangsaw/gangsawlaw06.both -/
def law06_both_0 (x0 x1 x2 x3 x4 x5 x6 x7 x8 x9 x10 x11 : Int) : Int :=
  if ref06_Check_0 x0 x1 x2 x3 x4 x5 != 0 then (ref06_Check_0 x0 x1 x2 x3 x4 x5) else (ref06_Check_0 x6 x7 x8 x9 x10 x11)
def ans22 : Ans := fun args => match args.toList with
  | [.agg c0, .agg c1] => match c0.toList, c1.toList with
    | [.int .i64 x0, .int .i64 x1, .int .i64 x2, .int .i64 x3, .int .i64 x4, .int .i64 x5], [.int .i64 x6, .int .i64 x7, .int .i64 x8, .int .i64 x9, .int .i64 x10, .int .i64 x11] => some (.int .i64 (law06_both_0 x0 x1 x2 x3 x4 x5 x6 x7 x8 x9 x10 x11))
    | _, _ => none
  | _ => none
def tab4 : Tab := (22, .ans ans22) :: tab3
def tree22 (x0 x1 x2 x3 x4 x5 x6 x7 x8 x9 x10 x11 : Int) : Tr Value :=
  .node 9 (ref06_Check_0 x0 x1 x2 x3 x4 x5 != 0)
  (.leaf (some (.int .i64 (ref06_Check_0 x0 x1 x2 x3 x4 x5))))
  (.leaf (some (.int .i64 (ref06_Check_0 x6 x7 x8 x9 x10 x11))))
theorem tree22_eq (x0 x1 x2 x3 x4 x5 x6 x7 x8 x9 x10 x11 : Int) : vals (evFnT Try.prog (tb Try.prog tab3) (tbT Try.prog tab3) ⟨[(9, 0)], [], []⟩ noLoops 300 22 #[.agg #[.int .i64 x0, .int .i64 x1, .int .i64 x2, .int .i64 x3, .int .i64 x4, .int .i64 x5], .agg #[.int .i64 x6, .int .i64 x7, .int .i64 x8, .int .i64 x9, .int .i64 x10, .int .i64 x11]] []) = tree22 x0 x1 x2 x3 x4 x5 x6 x7 x8 x9 x10 x11 := by kernel_rfl
theorem tree22_res (x0 x1 x2 x3 x4 x5 x6 x7 x8 x9 x10 x11 : Int) : (tree22 x0 x1 x2 x3 x4 x5 x6 x7 x8 x9 x10 x11).res = some (.int .i64 (law06_both_0 x0 x1 x2 x3 x4 x5 x6 x7 x8 x9 x10 x11)) := by
  unfold tree22 law06_both_0
  simp only [Tr.res]
  generalize (ref06_Check_0 x0 x1 x2 x3 x4 x5 != 0) = b0
  cases b0 with
  | true =>
   first | (simp only [if_true, Bool.false_eq_true, if_false]; done) | rfl
  | false =>
   first | (simp only [if_true, Bool.false_eq_true, if_false]; done) | rfl
theorem tab4_ok : TabOk Try.prog tab4 := tab_cons mixed tab3_ok (by decide) fun args v h => by
  unfold ans22 at h
  split at h
  · rename_i c0 c1 h0
    split at h
    · rename_i x0 x1 x2 x3 x4 x5 x6 x7 x8 x9 x10 x11 h1 h2
      injection h with h; subst h
      obtain rfl : c0 = #[.int .i64 x0, .int .i64 x1, .int .i64 x2, .int .i64 x3, .int .i64 x4, .int .i64 x5] := by rw [← Array.toArray_toList (xs := c0), h1]
      obtain rfl : c1 = #[.int .i64 x6, .int .i64 x7, .int .i64 x8, .int .i64 x9, .int .i64 x10, .int .i64 x11] := by rw [← Array.toArray_toList (xs := c1), h2]
      obtain rfl : args = #[.agg #[.int .i64 x0, .int .i64 x1, .int .i64 x2, .int .i64 x3, .int .i64 x4, .int .i64 x5], .agg #[.int .i64 x6, .int .i64 x7, .int .i64 x8, .int .i64 x9, .int .i64 x10, .int .i64 x11]] := by rw [← Array.toArray_toList (xs := args), h0]
      exact ⟨rfl, rfl, ⟨[(9, 0)], [], []⟩, 300, by rw [tree22_eq]; exact tree22_res _ _ _ _ _ _ _ _ _ _ _ _⟩
    · cases h
  · cases h

/- gangsaw/box.coordinates -/
def ans51 : Ans := fun args => match args.toList with
  | [.agg c0] => match c0.toList with
    | [.int .i64 x0, .int .i64 x1, .int .i64 x2] => some (.agg #[.int .i64 (x0), .int .i64 (x1), .int .i64 (x2)])
    | _ => none
  | _ => none
def tab5 : Tab := (51, .ans ans51) :: tab4
def tree51 (x0 x1 x2 : Int) : Tr Value :=
  .leaf (some (.agg #[.int .i64 (x0), .int .i64 (x1), .int .i64 (x2)]))
theorem tree51_eq (x0 x1 x2 : Int) : vals (evFnT Try.prog (tb Try.prog tab4) (tbT Try.prog tab4) ⟨[], [], []⟩ noLoops 300 51 #[.agg #[.int .i64 x0, .int .i64 x1, .int .i64 x2]] []) = tree51 x0 x1 x2 := by kernel_rfl
theorem tree51_res (x0 x1 x2 : Int) : (tree51 x0 x1 x2).res = some (.agg #[.int .i64 (x0), .int .i64 (x1), .int .i64 (x2)]) := by
  rfl
theorem tab5_ok : TabOk Try.prog tab5 := tab_cons mixed tab4_ok (by decide) fun args v h => by
  unfold ans51 at h
  split at h
  · rename_i c0 h0
    split at h
    · rename_i x0 x1 x2 h1
      injection h with h; subst h
      obtain rfl : c0 = #[.int .i64 x0, .int .i64 x1, .int .i64 x2] := by rw [← Array.toArray_toList (xs := c0), h1]
      obtain rfl : args = #[.agg #[.int .i64 x0, .int .i64 x1, .int .i64 x2]] := by rw [← Array.toArray_toList (xs := args), h0]
      exact ⟨rfl, rfl, ⟨[], [], []⟩, 300, by rw [tree51_eq]; exact tree51_res _ _ _⟩
    · cases h
  · cases h

/- gangsaw/box.Has -/
def box_Has_0 (x0 x1 x2 x3 x4 x5 x6 x7 x8 : Int) : Bool :=
  if Decidable.decide (x6 < x0) then (Bool.false) else if Decidable.decide (x6 ≥ x3) then (Bool.false) else if Decidable.decide (x7 < x1) then (Bool.false) else if Decidable.decide (x7 ≥ x4) then (Bool.false) else if Decidable.decide (x8 < x2) then (Bool.false) else if Decidable.decide (x8 ≥ x5) then (Bool.false) else (Bool.true)
def ans25 : Ans := fun args => match args.toList with
  | [.agg c0, .agg c1] => match c0.toList, c1.toList with
    | [.int .i64 x0, .int .i64 x1, .int .i64 x2, .int .i64 x3, .int .i64 x4, .int .i64 x5], [.int .i64 x6, .int .i64 x7, .int .i64 x8] => some (.bool (box_Has_0 x0 x1 x2 x3 x4 x5 x6 x7 x8))
    | _, _ => none
  | _ => none
def tab6 : Tab := (25, .ans ans25) :: tab5
def tree25 (x0 x1 x2 x3 x4 x5 x6 x7 x8 : Int) : Tr Value :=
  .node 26 (Decidable.decide (x6 < x0))
  (.leaf (some (.bool (Bool.false))))
  (.node 34 (Decidable.decide (x6 ≥ x3))
   (.leaf (some (.bool (Bool.false))))
   (.node 26 (Decidable.decide (x7 < x1))
    (.leaf (some (.bool (Bool.false))))
    (.node 34 (Decidable.decide (x7 ≥ x4))
     (.leaf (some (.bool (Bool.false))))
     (.node 26 (Decidable.decide (x8 < x2))
      (.leaf (some (.bool (Bool.false))))
      (.node 34 (Decidable.decide (x8 ≥ x5))
       (.leaf (some (.bool (Bool.false))))
       (.leaf (some (.bool (Bool.true)))))))))
theorem tree25_eq (x0 x1 x2 x3 x4 x5 x6 x7 x8 : Int) : vals (evFnT Try.prog (tb Try.prog tab5) (tbT Try.prog tab5) ⟨[(26, 0), (34, 0)], [], []⟩ noLoops 300 25 #[.agg #[.int .i64 x0, .int .i64 x1, .int .i64 x2, .int .i64 x3, .int .i64 x4, .int .i64 x5], .agg #[.int .i64 x6, .int .i64 x7, .int .i64 x8]] []) = tree25 x0 x1 x2 x3 x4 x5 x6 x7 x8 := by kernel_rfl
theorem tree25_res (x0 x1 x2 x3 x4 x5 x6 x7 x8 : Int) : (tree25 x0 x1 x2 x3 x4 x5 x6 x7 x8).res = some (.bool (box_Has_0 x0 x1 x2 x3 x4 x5 x6 x7 x8)) := by
  unfold tree25 box_Has_0
  simp only [Tr.res]
  generalize (Decidable.decide (x6 < x0)) = b0
  generalize (Decidable.decide (x6 ≥ x3)) = b1
  generalize (Decidable.decide (x7 < x1)) = b2
  generalize (Decidable.decide (x7 ≥ x4)) = b3
  generalize (Decidable.decide (x8 < x2)) = b4
  generalize (Decidable.decide (x8 ≥ x5)) = b5
  cases b0 with
  | true =>
   first | (simp only [if_true, Bool.false_eq_true, if_false]; done) | rfl
  | false =>
   cases b1 with
   | true =>
    first | (simp only [if_true, Bool.false_eq_true, if_false]; done) | rfl
   | false =>
    cases b2 with
    | true =>
     first | (simp only [if_true, Bool.false_eq_true, if_false]; done) | rfl
    | false =>
     cases b3 with
     | true =>
      first | (simp only [if_true, Bool.false_eq_true, if_false]; done) | rfl
     | false =>
      cases b4 with
      | true =>
       first | (simp only [if_true, Bool.false_eq_true, if_false]; done) | rfl
      | false =>
       cases b5 with
       | true =>
        first | (simp only [if_true, Bool.false_eq_true, if_false]; done) | rfl
       | false =>
        first | (simp only [if_true, Bool.false_eq_true, if_false]; done) | rfl
theorem tab6_ok : TabOk Try.prog tab6 := tab_cons mixed tab5_ok (by decide) fun args v h => by
  unfold ans25 at h
  split at h
  · rename_i c0 c1 h0
    split at h
    · rename_i x0 x1 x2 x3 x4 x5 x6 x7 x8 h1 h2
      injection h with h; subst h
      obtain rfl : c0 = #[.int .i64 x0, .int .i64 x1, .int .i64 x2, .int .i64 x3, .int .i64 x4, .int .i64 x5] := by rw [← Array.toArray_toList (xs := c0), h1]
      obtain rfl : c1 = #[.int .i64 x6, .int .i64 x7, .int .i64 x8] := by rw [← Array.toArray_toList (xs := c1), h2]
      obtain rfl : args = #[.agg #[.int .i64 x0, .int .i64 x1, .int .i64 x2, .int .i64 x3, .int .i64 x4, .int .i64 x5], .agg #[.int .i64 x6, .int .i64 x7, .int .i64 x8]] := by rw [← Array.toArray_toList (xs := args), h0]
      exact ⟨rfl, rfl, ⟨[(26, 0), (34, 0)], [], []⟩, 300, by rw [tree25_eq]; exact tree25_res _ _ _ _ _ _ _ _ _⟩
    · cases h
  · cases h

/- gangsaw/gangsawref06.Has -/
def ref06_Has_0 (x0 x1 x2 x3 x4 x5 x6 x7 x8 : Int) : Bool :=
  if Decidable.decide (x0 ≤ x6) then (if Decidable.decide (x6 < x3) then (if Decidable.decide (x1 ≤ x7) then (if Decidable.decide (x7 < x4) then (if Decidable.decide (x2 ≤ x8) then (if Decidable.decide (x8 < x5) then (Bool.true) else (Bool.false)) else (Bool.false)) else (Bool.false)) else (Bool.false)) else (Bool.false)) else (Bool.false)
def ans26 : Ans := fun args => match args.toList with
  | [.agg c0, .agg c1] => match c0.toList, c1.toList with
    | [.int .i64 x0, .int .i64 x1, .int .i64 x2, .int .i64 x3, .int .i64 x4, .int .i64 x5], [.int .i64 x6, .int .i64 x7, .int .i64 x8] => some (.bool (ref06_Has_0 x0 x1 x2 x3 x4 x5 x6 x7 x8))
    | _, _ => none
  | _ => none
def tab7 : Tab := (26, .ans ans26) :: tab6
def tree26 (x0 x1 x2 x3 x4 x5 x6 x7 x8 : Int) : Tr Value :=
  .node 10 (Decidable.decide (x0 ≤ x6))
  (.node 17 (Decidable.decide (x6 < x3))
   (.node 25 (Decidable.decide (x1 ≤ x7))
    (.node 33 (Decidable.decide (x7 < x4))
     (.node 41 (Decidable.decide (x2 ≤ x8))
      (.node 49 (Decidable.decide (x8 < x5))
       (.leaf (some (.bool (Bool.true))))
       (.leaf (some (.bool (Bool.false)))))
      (.leaf (some (.bool (Bool.false)))))
     (.leaf (some (.bool (Bool.false)))))
    (.leaf (some (.bool (Bool.false)))))
   (.leaf (some (.bool (Bool.false)))))
  (.leaf (some (.bool (Bool.false))))
theorem tree26_eq (x0 x1 x2 x3 x4 x5 x6 x7 x8 : Int) : vals (evFnT Try.prog (tb Try.prog tab6) (tbT Try.prog tab6) ⟨[(10, 0), (17, 0), (25, 0), (33, 0), (41, 0), (49, 0)], [], []⟩ noLoops 300 26 #[.agg #[.int .i64 x0, .int .i64 x1, .int .i64 x2, .int .i64 x3, .int .i64 x4, .int .i64 x5], .agg #[.int .i64 x6, .int .i64 x7, .int .i64 x8]] []) = tree26 x0 x1 x2 x3 x4 x5 x6 x7 x8 := by kernel_rfl
theorem tree26_res (x0 x1 x2 x3 x4 x5 x6 x7 x8 : Int) : (tree26 x0 x1 x2 x3 x4 x5 x6 x7 x8).res = some (.bool (ref06_Has_0 x0 x1 x2 x3 x4 x5 x6 x7 x8)) := by
  unfold tree26 ref06_Has_0
  simp only [Tr.res]
  generalize (Decidable.decide (x0 ≤ x6)) = b0
  generalize (Decidable.decide (x6 < x3)) = b1
  generalize (Decidable.decide (x1 ≤ x7)) = b2
  generalize (Decidable.decide (x7 < x4)) = b3
  generalize (Decidable.decide (x2 ≤ x8)) = b4
  generalize (Decidable.decide (x8 < x5)) = b5
  cases b0 with
  | true =>
   cases b1 with
   | true =>
    cases b2 with
    | true =>
     cases b3 with
     | true =>
      cases b4 with
      | true =>
       cases b5 with
       | true =>
        first | (simp only [if_true, Bool.false_eq_true, if_false]; done) | rfl
       | false =>
        first | (simp only [if_true, Bool.false_eq_true, if_false]; done) | rfl
      | false =>
       first | (simp only [if_true, Bool.false_eq_true, if_false]; done) | rfl
     | false =>
      first | (simp only [if_true, Bool.false_eq_true, if_false]; done) | rfl
    | false =>
     first | (simp only [if_true, Bool.false_eq_true, if_false]; done) | rfl
   | false =>
    first | (simp only [if_true, Bool.false_eq_true, if_false]; done) | rfl
  | false =>
   first | (simp only [if_true, Bool.false_eq_true, if_false]; done) | rfl
theorem tab7_ok : TabOk Try.prog tab7 := tab_cons mixed tab6_ok (by decide) fun args v h => by
  unfold ans26 at h
  split at h
  · rename_i c0 c1 h0
    split at h
    · rename_i x0 x1 x2 x3 x4 x5 x6 x7 x8 h1 h2
      injection h with h; subst h
      obtain rfl : c0 = #[.int .i64 x0, .int .i64 x1, .int .i64 x2, .int .i64 x3, .int .i64 x4, .int .i64 x5] := by rw [← Array.toArray_toList (xs := c0), h1]
      obtain rfl : c1 = #[.int .i64 x6, .int .i64 x7, .int .i64 x8] := by rw [← Array.toArray_toList (xs := c1), h2]
      obtain rfl : args = #[.agg #[.int .i64 x0, .int .i64 x1, .int .i64 x2, .int .i64 x3, .int .i64 x4, .int .i64 x5], .agg #[.int .i64 x6, .int .i64 x7, .int .i64 x8]] := by rw [← Array.toArray_toList (xs := args), h0]
      exact ⟨rfl, rfl, ⟨[(10, 0), (17, 0), (25, 0), (33, 0), (41, 0), (49, 0)], [], []⟩, 300, by rw [tree26_eq]; exact tree26_res _ _ _ _ _ _ _ _ _⟩
    · cases h
  · cases h

/- gangsaw/box.least -/
def ans56 : Ans := fun args => match args.toList with
  | [.agg c0, .agg c1] => match c0.toList, c1.toList with
    | [.int .i64 x0, .int .i64 x1, .int .i64 x2], [.int .i64 x3, .int .i64 x4, .int .i64 x5] => some (.agg #[.int .i64 (imin x0 x3), .int .i64 (imin x1 x4), .int .i64 (imin x2 x5)])
    | _, _ => none
  | _ => none
def tab8 : Tab := (56, .ans ans56) :: tab7
def tree56 (x0 x1 x2 x3 x4 x5 : Int) : Tr Value :=
  .leaf (some (.agg #[.int .i64 (imin x0 x3), .int .i64 (imin x1 x4), .int .i64 (imin x2 x5)]))
theorem tree56_eq (x0 x1 x2 x3 x4 x5 : Int) : vals (evFnT Try.prog (tb Try.prog tab7) (tbT Try.prog tab7) ⟨[], [], []⟩ noLoops 300 56 #[.agg #[.int .i64 x0, .int .i64 x1, .int .i64 x2], .agg #[.int .i64 x3, .int .i64 x4, .int .i64 x5]] []) = tree56 x0 x1 x2 x3 x4 x5 := by kernel_rfl
theorem tree56_res (x0 x1 x2 x3 x4 x5 : Int) : (tree56 x0 x1 x2 x3 x4 x5).res = some (.agg #[.int .i64 (imin x0 x3), .int .i64 (imin x1 x4), .int .i64 (imin x2 x5)]) := by
  rfl
theorem tab8_ok : TabOk Try.prog tab8 := tab_cons mixed tab7_ok (by decide) fun args v h => by
  unfold ans56 at h
  split at h
  · rename_i c0 c1 h0
    split at h
    · rename_i x0 x1 x2 x3 x4 x5 h1 h2
      injection h with h; subst h
      obtain rfl : c0 = #[.int .i64 x0, .int .i64 x1, .int .i64 x2] := by rw [← Array.toArray_toList (xs := c0), h1]
      obtain rfl : c1 = #[.int .i64 x3, .int .i64 x4, .int .i64 x5] := by rw [← Array.toArray_toList (xs := c1), h2]
      obtain rfl : args = #[.agg #[.int .i64 x0, .int .i64 x1, .int .i64 x2], .agg #[.int .i64 x3, .int .i64 x4, .int .i64 x5]] := by rw [← Array.toArray_toList (xs := args), h0]
      exact ⟨rfl, rfl, ⟨[], [], []⟩, 300, by rw [tree56_eq]; exact tree56_res _ _ _ _ _ _⟩
    · cases h
  · cases h

/- gangsaw/box.greatest -/
def ans57 : Ans := fun args => match args.toList with
  | [.agg c0, .agg c1] => match c0.toList, c1.toList with
    | [.int .i64 x0, .int .i64 x1, .int .i64 x2], [.int .i64 x3, .int .i64 x4, .int .i64 x5] => some (.agg #[.int .i64 (imax x0 x3), .int .i64 (imax x1 x4), .int .i64 (imax x2 x5)])
    | _, _ => none
  | _ => none
def tab9 : Tab := (57, .ans ans57) :: tab8
def tree57 (x0 x1 x2 x3 x4 x5 : Int) : Tr Value :=
  .leaf (some (.agg #[.int .i64 (imax x0 x3), .int .i64 (imax x1 x4), .int .i64 (imax x2 x5)]))
theorem tree57_eq (x0 x1 x2 x3 x4 x5 : Int) : vals (evFnT Try.prog (tb Try.prog tab8) (tbT Try.prog tab8) ⟨[], [], []⟩ noLoops 300 57 #[.agg #[.int .i64 x0, .int .i64 x1, .int .i64 x2], .agg #[.int .i64 x3, .int .i64 x4, .int .i64 x5]] []) = tree57 x0 x1 x2 x3 x4 x5 := by kernel_rfl
theorem tree57_res (x0 x1 x2 x3 x4 x5 : Int) : (tree57 x0 x1 x2 x3 x4 x5).res = some (.agg #[.int .i64 (imax x0 x3), .int .i64 (imax x1 x4), .int .i64 (imax x2 x5)]) := by
  rfl
theorem tab9_ok : TabOk Try.prog tab9 := tab_cons mixed tab8_ok (by decide) fun args v h => by
  unfold ans57 at h
  split at h
  · rename_i c0 c1 h0
    split at h
    · rename_i x0 x1 x2 x3 x4 x5 h1 h2
      injection h with h; subst h
      obtain rfl : c0 = #[.int .i64 x0, .int .i64 x1, .int .i64 x2] := by rw [← Array.toArray_toList (xs := c0), h1]
      obtain rfl : c1 = #[.int .i64 x3, .int .i64 x4, .int .i64 x5] := by rw [← Array.toArray_toList (xs := c1), h2]
      obtain rfl : args = #[.agg #[.int .i64 x0, .int .i64 x1, .int .i64 x2], .agg #[.int .i64 x3, .int .i64 x4, .int .i64 x5]] := by rw [← Array.toArray_toList (xs := args), h0]
      exact ⟨rfl, rfl, ⟨[], [], []⟩, 300, by rw [tree57_eq]; exact tree57_res _ _ _ _ _ _⟩
    · cases h
  · cases h

/- gangsaw/box.common -/
def ans55 : Ans := fun args => match args.toList with
  | [.agg c0, .agg c1] => match c0.toList, c1.toList with
    | [.int .i64 x0, .int .i64 x1, .int .i64 x2, .int .i64 x3, .int .i64 x4, .int .i64 x5], [.int .i64 x6, .int .i64 x7, .int .i64 x8, .int .i64 x9, .int .i64 x10, .int .i64 x11] => some (.agg #[.int .i64 (imax x0 x6), .int .i64 (imax x1 x7), .int .i64 (imax x2 x8), .int .i64 (imin x3 x9), .int .i64 (imin x4 x10), .int .i64 (imin x5 x11)])
    | _, _ => none
  | _ => none
def tab10 : Tab := (55, .ans ans55) :: tab9
def tree55 (x0 x1 x2 x3 x4 x5 x6 x7 x8 x9 x10 x11 : Int) : Tr Value :=
  .leaf (some (.agg #[.int .i64 (imax x0 x6), .int .i64 (imax x1 x7), .int .i64 (imax x2 x8), .int .i64 (imin x3 x9), .int .i64 (imin x4 x10), .int .i64 (imin x5 x11)]))
theorem tree55_eq (x0 x1 x2 x3 x4 x5 x6 x7 x8 x9 x10 x11 : Int) : vals (evFnT Try.prog (tb Try.prog tab9) (tbT Try.prog tab9) ⟨[], [], []⟩ noLoops 300 55 #[.agg #[.int .i64 x0, .int .i64 x1, .int .i64 x2, .int .i64 x3, .int .i64 x4, .int .i64 x5], .agg #[.int .i64 x6, .int .i64 x7, .int .i64 x8, .int .i64 x9, .int .i64 x10, .int .i64 x11]] []) = tree55 x0 x1 x2 x3 x4 x5 x6 x7 x8 x9 x10 x11 := by kernel_rfl
theorem tree55_res (x0 x1 x2 x3 x4 x5 x6 x7 x8 x9 x10 x11 : Int) : (tree55 x0 x1 x2 x3 x4 x5 x6 x7 x8 x9 x10 x11).res = some (.agg #[.int .i64 (imax x0 x6), .int .i64 (imax x1 x7), .int .i64 (imax x2 x8), .int .i64 (imin x3 x9), .int .i64 (imin x4 x10), .int .i64 (imin x5 x11)]) := by
  rfl
theorem tab10_ok : TabOk Try.prog tab10 := tab_cons mixed tab9_ok (by decide) fun args v h => by
  unfold ans55 at h
  split at h
  · rename_i c0 c1 h0
    split at h
    · rename_i x0 x1 x2 x3 x4 x5 x6 x7 x8 x9 x10 x11 h1 h2
      injection h with h; subst h
      obtain rfl : c0 = #[.int .i64 x0, .int .i64 x1, .int .i64 x2, .int .i64 x3, .int .i64 x4, .int .i64 x5] := by rw [← Array.toArray_toList (xs := c0), h1]
      obtain rfl : c1 = #[.int .i64 x6, .int .i64 x7, .int .i64 x8, .int .i64 x9, .int .i64 x10, .int .i64 x11] := by rw [← Array.toArray_toList (xs := c1), h2]
      obtain rfl : args = #[.agg #[.int .i64 x0, .int .i64 x1, .int .i64 x2, .int .i64 x3, .int .i64 x4, .int .i64 x5], .agg #[.int .i64 x6, .int .i64 x7, .int .i64 x8, .int .i64 x9, .int .i64 x10, .int .i64 x11]] := by rw [← Array.toArray_toList (xs := args), h0]
      exact ⟨rfl, rfl, ⟨[], [], []⟩, 300, by rw [tree55_eq]; exact tree55_res _ _ _ _ _ _ _ _ _ _ _ _⟩
    · cases h
  · cases h

/- gangsaw/box.Inside -/
def box_Inside_0 (x0 x1 x2 x3 x4 x5 x6 x7 x8 x9 x10 x11 : Int) : Bool :=
  if imax x0 x6 == x0 && (imax x1 x7 == x1 && (imax x2 x8 == x2 && Bool.true)) && (imin x3 x9 == x3 && (imin x4 x10 == x4 && (imin x5 x11 == x5 && Bool.true)) && Bool.true) then (Bool.true) else (Bool.false)
def ans27 : Ans := fun args => match args.toList with
  | [.agg c0, .agg c1] => match c0.toList, c1.toList with
    | [.int .i64 x0, .int .i64 x1, .int .i64 x2, .int .i64 x3, .int .i64 x4, .int .i64 x5], [.int .i64 x6, .int .i64 x7, .int .i64 x8, .int .i64 x9, .int .i64 x10, .int .i64 x11] => some (.bool (box_Inside_0 x0 x1 x2 x3 x4 x5 x6 x7 x8 x9 x10 x11))
    | _, _ => none
  | _ => none
def tab11 : Tab := (27, .ans ans27) :: tab10
def tree27 (x0 x1 x2 x3 x4 x5 x6 x7 x8 x9 x10 x11 : Int) : Tr Value :=
  .node 9 (imax x0 x6 == x0 && (imax x1 x7 == x1 && (imax x2 x8 == x2 && Bool.true)) && (imin x3 x9 == x3 && (imin x4 x10 == x4 && (imin x5 x11 == x5 && Bool.true)) && Bool.true))
  (.leaf (some (.bool (Bool.true))))
  (.leaf (some (.bool (Bool.false))))
theorem tree27_eq (x0 x1 x2 x3 x4 x5 x6 x7 x8 x9 x10 x11 : Int) : vals (evFnT Try.prog (tb Try.prog tab10) (tbT Try.prog tab10) ⟨[(9, 0)], [], []⟩ noLoops 300 27 #[.agg #[.int .i64 x0, .int .i64 x1, .int .i64 x2, .int .i64 x3, .int .i64 x4, .int .i64 x5], .agg #[.int .i64 x6, .int .i64 x7, .int .i64 x8, .int .i64 x9, .int .i64 x10, .int .i64 x11]] []) = tree27 x0 x1 x2 x3 x4 x5 x6 x7 x8 x9 x10 x11 := by kernel_rfl
theorem tree27_res (x0 x1 x2 x3 x4 x5 x6 x7 x8 x9 x10 x11 : Int) : (tree27 x0 x1 x2 x3 x4 x5 x6 x7 x8 x9 x10 x11).res = some (.bool (box_Inside_0 x0 x1 x2 x3 x4 x5 x6 x7 x8 x9 x10 x11)) := by
  unfold tree27 box_Inside_0
  simp only [Tr.res]
  generalize (imax x0 x6 == x0 && (imax x1 x7 == x1 && (imax x2 x8 == x2 && Bool.true)) && (imin x3 x9 == x3 && (imin x4 x10 == x4 && (imin x5 x11 == x5 && Bool.true)) && Bool.true)) = b0
  cases b0 with
  | true =>
   first | (simp only [if_true, Bool.false_eq_true, if_false]; done) | rfl
  | false =>
   first | (simp only [if_true, Bool.false_eq_true, if_false]; done) | rfl
theorem tab11_ok : TabOk Try.prog tab11 := tab_cons mixed tab10_ok (by decide) fun args v h => by
  unfold ans27 at h
  split at h
  · rename_i c0 c1 h0
    split at h
    · rename_i x0 x1 x2 x3 x4 x5 x6 x7 x8 x9 x10 x11 h1 h2
      injection h with h; subst h
      obtain rfl : c0 = #[.int .i64 x0, .int .i64 x1, .int .i64 x2, .int .i64 x3, .int .i64 x4, .int .i64 x5] := by rw [← Array.toArray_toList (xs := c0), h1]
      obtain rfl : c1 = #[.int .i64 x6, .int .i64 x7, .int .i64 x8, .int .i64 x9, .int .i64 x10, .int .i64 x11] := by rw [← Array.toArray_toList (xs := c1), h2]
      obtain rfl : args = #[.agg #[.int .i64 x0, .int .i64 x1, .int .i64 x2, .int .i64 x3, .int .i64 x4, .int .i64 x5], .agg #[.int .i64 x6, .int .i64 x7, .int .i64 x8, .int .i64 x9, .int .i64 x10, .int .i64 x11]] := by rw [← Array.toArray_toList (xs := args), h0]
      exact ⟨rfl, rfl, ⟨[(9, 0)], [], []⟩, 300, by rw [tree27_eq]; exact tree27_res _ _ _ _ _ _ _ _ _ _ _ _⟩
    · cases h
  · cases h

/- gangsaw/gangsawref06.Inside -/
def ref06_Inside_0 (x0 x1 x2 x3 x4 x5 x6 x7 x8 x9 x10 x11 : Int) : Bool :=
  if Decidable.decide (ref06_At_0 x0 x1 x2 0 < ref06_At_0 x6 x7 x8 0) then (Bool.false) else if Decidable.decide (ref06_At_0 x3 x4 x5 0 > ref06_At_0 x9 x10 x11 0) then (Bool.false) else if Decidable.decide (ref06_At_0 x0 x1 x2 (IntKind.i64.wrap (0 + 1)) < ref06_At_0 x6 x7 x8 (IntKind.i64.wrap (0 + 1))) then (Bool.false) else if Decidable.decide (ref06_At_0 x3 x4 x5 (IntKind.i64.wrap (0 + 1)) > ref06_At_0 x9 x10 x11 (IntKind.i64.wrap (0 + 1))) then (Bool.false) else if Decidable.decide (ref06_At_0 x0 x1 x2 (IntKind.i64.wrap (IntKind.i64.wrap (0 + 1) + 1)) < ref06_At_0 x6 x7 x8 (IntKind.i64.wrap (IntKind.i64.wrap (0 + 1) + 1))) then (Bool.false) else if Decidable.decide (ref06_At_0 x3 x4 x5 (IntKind.i64.wrap (IntKind.i64.wrap (0 + 1) + 1)) > ref06_At_0 x9 x10 x11 (IntKind.i64.wrap (IntKind.i64.wrap (0 + 1) + 1))) then (Bool.false) else (Bool.true)
def ans28 : Ans := fun args => match args.toList with
  | [.agg c0, .agg c1] => match c0.toList, c1.toList with
    | [.int .i64 x0, .int .i64 x1, .int .i64 x2, .int .i64 x3, .int .i64 x4, .int .i64 x5], [.int .i64 x6, .int .i64 x7, .int .i64 x8, .int .i64 x9, .int .i64 x10, .int .i64 x11] => some (.bool (ref06_Inside_0 x0 x1 x2 x3 x4 x5 x6 x7 x8 x9 x10 x11))
    | _, _ => none
  | _ => none
def tab12 : Tab := (28, .ans ans28) :: tab11
def tree28 (x0 x1 x2 x3 x4 x5 x6 x7 x8 x9 x10 x11 : Int) : Tr Value :=
  .node 18 (Decidable.decide (ref06_At_0 x0 x1 x2 0 < ref06_At_0 x6 x7 x8 0))
  (.leaf (some (.bool (Bool.false))))
  (.node 28 (Decidable.decide (ref06_At_0 x3 x4 x5 0 > ref06_At_0 x9 x10 x11 0))
   (.leaf (some (.bool (Bool.false))))
   (.node 18 (Decidable.decide (ref06_At_0 x0 x1 x2 (IntKind.i64.wrap (0 + 1)) < ref06_At_0 x6 x7 x8 (IntKind.i64.wrap (0 + 1))))
    (.leaf (some (.bool (Bool.false))))
    (.node 28 (Decidable.decide (ref06_At_0 x3 x4 x5 (IntKind.i64.wrap (0 + 1)) > ref06_At_0 x9 x10 x11 (IntKind.i64.wrap (0 + 1))))
     (.leaf (some (.bool (Bool.false))))
     (.node 18 (Decidable.decide (ref06_At_0 x0 x1 x2 (IntKind.i64.wrap (IntKind.i64.wrap (0 + 1) + 1)) < ref06_At_0 x6 x7 x8 (IntKind.i64.wrap (IntKind.i64.wrap (0 + 1) + 1))))
      (.leaf (some (.bool (Bool.false))))
      (.node 28 (Decidable.decide (ref06_At_0 x3 x4 x5 (IntKind.i64.wrap (IntKind.i64.wrap (0 + 1) + 1)) > ref06_At_0 x9 x10 x11 (IntKind.i64.wrap (IntKind.i64.wrap (0 + 1) + 1))))
       (.leaf (some (.bool (Bool.false))))
       (.leaf (some (.bool (Bool.true)))))))))
theorem tree28_eq (x0 x1 x2 x3 x4 x5 x6 x7 x8 x9 x10 x11 : Int) : vals (evFnT Try.prog (tb Try.prog tab11) (tbT Try.prog tab11) ⟨[(18, 0), (28, 0)], [], []⟩ noLoops 300 28 #[.agg #[.int .i64 x0, .int .i64 x1, .int .i64 x2, .int .i64 x3, .int .i64 x4, .int .i64 x5], .agg #[.int .i64 x6, .int .i64 x7, .int .i64 x8, .int .i64 x9, .int .i64 x10, .int .i64 x11]] []) = tree28 x0 x1 x2 x3 x4 x5 x6 x7 x8 x9 x10 x11 := by kernel_rfl
theorem tree28_res (x0 x1 x2 x3 x4 x5 x6 x7 x8 x9 x10 x11 : Int) : (tree28 x0 x1 x2 x3 x4 x5 x6 x7 x8 x9 x10 x11).res = some (.bool (ref06_Inside_0 x0 x1 x2 x3 x4 x5 x6 x7 x8 x9 x10 x11)) := by
  unfold tree28 ref06_Inside_0
  simp only [Tr.res]
  generalize (Decidable.decide (ref06_At_0 x0 x1 x2 0 < ref06_At_0 x6 x7 x8 0)) = b0
  generalize (Decidable.decide (ref06_At_0 x3 x4 x5 0 > ref06_At_0 x9 x10 x11 0)) = b1
  generalize (Decidable.decide (ref06_At_0 x0 x1 x2 (IntKind.i64.wrap (0 + 1)) < ref06_At_0 x6 x7 x8 (IntKind.i64.wrap (0 + 1)))) = b2
  generalize (Decidable.decide (ref06_At_0 x3 x4 x5 (IntKind.i64.wrap (0 + 1)) > ref06_At_0 x9 x10 x11 (IntKind.i64.wrap (0 + 1)))) = b3
  generalize (Decidable.decide (ref06_At_0 x0 x1 x2 (IntKind.i64.wrap (IntKind.i64.wrap (0 + 1) + 1)) < ref06_At_0 x6 x7 x8 (IntKind.i64.wrap (IntKind.i64.wrap (0 + 1) + 1)))) = b4
  generalize (Decidable.decide (ref06_At_0 x3 x4 x5 (IntKind.i64.wrap (IntKind.i64.wrap (0 + 1) + 1)) > ref06_At_0 x9 x10 x11 (IntKind.i64.wrap (IntKind.i64.wrap (0 + 1) + 1)))) = b5
  cases b0 with
  | true =>
   first | (simp only [if_true, Bool.false_eq_true, if_false]; done) | rfl
  | false =>
   cases b1 with
   | true =>
    first | (simp only [if_true, Bool.false_eq_true, if_false]; done) | rfl
   | false =>
    cases b2 with
    | true =>
     first | (simp only [if_true, Bool.false_eq_true, if_false]; done) | rfl
    | false =>
     cases b3 with
     | true =>
      first | (simp only [if_true, Bool.false_eq_true, if_false]; done) | rfl
     | false =>
      cases b4 with
      | true =>
       first | (simp only [if_true, Bool.false_eq_true, if_false]; done) | rfl
      | false =>
       cases b5 with
       | true =>
        first | (simp only [if_true, Bool.false_eq_true, if_false]; done) | rfl
       | false =>
        first | (simp only [if_true, Bool.false_eq_true, if_false]; done) | rfl
theorem tab12_ok : TabOk Try.prog tab12 := tab_cons mixed tab11_ok (by decide) fun args v h => by
  unfold ans28 at h
  split at h
  · rename_i c0 c1 h0
    split at h
    · rename_i x0 x1 x2 x3 x4 x5 x6 x7 x8 x9 x10 x11 h1 h2
      injection h with h; subst h
      obtain rfl : c0 = #[.int .i64 x0, .int .i64 x1, .int .i64 x2, .int .i64 x3, .int .i64 x4, .int .i64 x5] := by rw [← Array.toArray_toList (xs := c0), h1]
      obtain rfl : c1 = #[.int .i64 x6, .int .i64 x7, .int .i64 x8, .int .i64 x9, .int .i64 x10, .int .i64 x11] := by rw [← Array.toArray_toList (xs := c1), h2]
      obtain rfl : args = #[.agg #[.int .i64 x0, .int .i64 x1, .int .i64 x2, .int .i64 x3, .int .i64 x4, .int .i64 x5], .agg #[.int .i64 x6, .int .i64 x7, .int .i64 x8, .int .i64 x9, .int .i64 x10, .int .i64 x11]] := by rw [← Array.toArray_toList (xs := args), h0]
      exact ⟨rfl, rfl, ⟨[(18, 0), (28, 0)], [], []⟩, 300, by rw [tree28_eq]; exact tree28_res _ _ _ _ _ _ _ _ _ _ _ _⟩
    · cases h
  · cases h

/- gangsaw/box.empty -/
def box_empty_0 (x0 x1 x2 x3 x4 x5 : Int) : Bool :=
  if Decidable.decide (x0 ≥ x3) then (Bool.true) else if Decidable.decide (x1 ≥ x4) then (Bool.true) else if Decidable.decide (x2 ≥ x5) then (Bool.true) else (Bool.false)
def ans52 : Ans := fun args => match args.toList with
  | [.agg c0] => match c0.toList with
    | [.int .i64 x0, .int .i64 x1, .int .i64 x2, .int .i64 x3, .int .i64 x4, .int .i64 x5] => some (.bool (box_empty_0 x0 x1 x2 x3 x4 x5))
    | _ => none
  | _ => none
def tab13 : Tab := (52, .ans ans52) :: tab12
def tree52 (x0 x1 x2 x3 x4 x5 : Int) : Tr Value :=
  .node 9 (Decidable.decide (x0 ≥ x3))
  (.leaf (some (.bool (Bool.true))))
  (.node 17 (Decidable.decide (x1 ≥ x4))
   (.leaf (some (.bool (Bool.true))))
   (.node 26 (Decidable.decide (x2 ≥ x5))
    (.leaf (some (.bool (Bool.true))))
    (.leaf (some (.bool (Bool.false))))))
theorem tree52_eq (x0 x1 x2 x3 x4 x5 : Int) : vals (evFnT Try.prog (tb Try.prog tab12) (tbT Try.prog tab12) ⟨[(9, 0), (17, 0), (26, 0)], [], []⟩ noLoops 300 52 #[.agg #[.int .i64 x0, .int .i64 x1, .int .i64 x2, .int .i64 x3, .int .i64 x4, .int .i64 x5]] []) = tree52 x0 x1 x2 x3 x4 x5 := by kernel_rfl
theorem tree52_res (x0 x1 x2 x3 x4 x5 : Int) : (tree52 x0 x1 x2 x3 x4 x5).res = some (.bool (box_empty_0 x0 x1 x2 x3 x4 x5)) := by
  unfold tree52 box_empty_0
  simp only [Tr.res]
  generalize (Decidable.decide (x0 ≥ x3)) = b0
  generalize (Decidable.decide (x1 ≥ x4)) = b1
  generalize (Decidable.decide (x2 ≥ x5)) = b2
  cases b0 with
  | true =>
   first | (simp only [if_true, Bool.false_eq_true, if_false]; done) | rfl
  | false =>
   cases b1 with
   | true =>
    first | (simp only [if_true, Bool.false_eq_true, if_false]; done) | rfl
   | false =>
    cases b2 with
    | true =>
     first | (simp only [if_true, Bool.false_eq_true, if_false]; done) | rfl
    | false =>
     first | (simp only [if_true, Bool.false_eq_true, if_false]; done) | rfl
theorem tab13_ok : TabOk Try.prog tab13 := tab_cons mixed tab12_ok (by decide) fun args v h => by
  unfold ans52 at h
  split at h
  · rename_i c0 h0
    split at h
    · rename_i x0 x1 x2 x3 x4 x5 h1
      injection h with h; subst h
      obtain rfl : c0 = #[.int .i64 x0, .int .i64 x1, .int .i64 x2, .int .i64 x3, .int .i64 x4, .int .i64 x5] := by rw [← Array.toArray_toList (xs := c0), h1]
      obtain rfl : args = #[.agg #[.int .i64 x0, .int .i64 x1, .int .i64 x2, .int .i64 x3, .int .i64 x4, .int .i64 x5]] := by rw [← Array.toArray_toList (xs := args), h0]
      exact ⟨rfl, rfl, ⟨[(9, 0), (17, 0), (26, 0)], [], []⟩, 300, by rw [tree52_eq]; exact tree52_res _ _ _ _ _ _⟩
    · cases h
  · cases h

/- gangsaw/box.Overlap -/
def box_Overlap_0 (x0 x1 x2 x3 x4 x5 x6 x7 x8 x9 x10 x11 : Int) : Bool :=
  if box_empty_0 (imax x0 x6) (imax x1 x7) (imax x2 x8) (imin x3 x9) (imin x4 x10) (imin x5 x11) then (!Bool.true) else (!Bool.false)
def ans29 : Ans := fun args => match args.toList with
  | [.agg c0, .agg c1] => match c0.toList, c1.toList with
    | [.int .i64 x0, .int .i64 x1, .int .i64 x2, .int .i64 x3, .int .i64 x4, .int .i64 x5], [.int .i64 x6, .int .i64 x7, .int .i64 x8, .int .i64 x9, .int .i64 x10, .int .i64 x11] => some (.bool (box_Overlap_0 x0 x1 x2 x3 x4 x5 x6 x7 x8 x9 x10 x11))
    | _, _ => none
  | _ => none
def tab14 : Tab := (29, .ans ans29) :: tab13
def tree29 (x0 x1 x2 x3 x4 x5 x6 x7 x8 x9 x10 x11 : Int) : Tr Value :=
  .node 8 (box_empty_0 (imax x0 x6) (imax x1 x7) (imax x2 x8) (imin x3 x9) (imin x4 x10) (imin x5 x11))
  (.leaf (some (.bool (!Bool.true))))
  (.leaf (some (.bool (!Bool.false))))
theorem tree29_eq (x0 x1 x2 x3 x4 x5 x6 x7 x8 x9 x10 x11 : Int) : vals (evFnT Try.prog (tb Try.prog tab13) (tbT Try.prog tab13) ⟨[(8, 0)], [], []⟩ noLoops 300 29 #[.agg #[.int .i64 x0, .int .i64 x1, .int .i64 x2, .int .i64 x3, .int .i64 x4, .int .i64 x5], .agg #[.int .i64 x6, .int .i64 x7, .int .i64 x8, .int .i64 x9, .int .i64 x10, .int .i64 x11]] []) = tree29 x0 x1 x2 x3 x4 x5 x6 x7 x8 x9 x10 x11 := by kernel_rfl
theorem tree29_res (x0 x1 x2 x3 x4 x5 x6 x7 x8 x9 x10 x11 : Int) : (tree29 x0 x1 x2 x3 x4 x5 x6 x7 x8 x9 x10 x11).res = some (.bool (box_Overlap_0 x0 x1 x2 x3 x4 x5 x6 x7 x8 x9 x10 x11)) := by
  unfold tree29 box_Overlap_0
  simp only [Tr.res]
  generalize (box_empty_0 (imax x0 x6) (imax x1 x7) (imax x2 x8) (imin x3 x9) (imin x4 x10) (imin x5 x11)) = b0
  cases b0 with
  | true =>
   first | (simp only [if_true, Bool.false_eq_true, if_false]; done) | rfl
  | false =>
   first | (simp only [if_true, Bool.false_eq_true, if_false]; done) | rfl
theorem tab14_ok : TabOk Try.prog tab14 := tab_cons mixed tab13_ok (by decide) fun args v h => by
  unfold ans29 at h
  split at h
  · rename_i c0 c1 h0
    split at h
    · rename_i x0 x1 x2 x3 x4 x5 x6 x7 x8 x9 x10 x11 h1 h2
      injection h with h; subst h
      obtain rfl : c0 = #[.int .i64 x0, .int .i64 x1, .int .i64 x2, .int .i64 x3, .int .i64 x4, .int .i64 x5] := by rw [← Array.toArray_toList (xs := c0), h1]
      obtain rfl : c1 = #[.int .i64 x6, .int .i64 x7, .int .i64 x8, .int .i64 x9, .int .i64 x10, .int .i64 x11] := by rw [← Array.toArray_toList (xs := c1), h2]
      obtain rfl : args = #[.agg #[.int .i64 x0, .int .i64 x1, .int .i64 x2, .int .i64 x3, .int .i64 x4, .int .i64 x5], .agg #[.int .i64 x6, .int .i64 x7, .int .i64 x8, .int .i64 x9, .int .i64 x10, .int .i64 x11]] := by rw [← Array.toArray_toList (xs := args), h0]
      exact ⟨rfl, rfl, ⟨[(8, 0)], [], []⟩, 300, by rw [tree29_eq]; exact tree29_res _ _ _ _ _ _ _ _ _ _ _ _⟩
    · cases h
  · cases h

/- gangsaw/gangsawref06.common -/
def ans58 : Ans := fun args => match args.toList with
  | [.agg c0, .agg c1] => match c0.toList, c1.toList with
    | [.int .i64 x0, .int .i64 x1, .int .i64 x2, .int .i64 x3, .int .i64 x4, .int .i64 x5], [.int .i64 x6, .int .i64 x7, .int .i64 x8, .int .i64 x9, .int .i64 x10, .int .i64 x11] => some (.agg #[.int .i64 (imax x0 x6), .int .i64 (imax x1 x7), .int .i64 (imax x2 x8), .int .i64 (imin x3 x9), .int .i64 (imin x4 x10), .int .i64 (imin x5 x11)])
    | _, _ => none
  | _ => none
def tab15 : Tab := (58, .ans ans58) :: tab14
def tree58 (x0 x1 x2 x3 x4 x5 x6 x7 x8 x9 x10 x11 : Int) : Tr Value :=
  .leaf (some (.agg #[.int .i64 (imax x0 x6), .int .i64 (imax x1 x7), .int .i64 (imax x2 x8), .int .i64 (imin x3 x9), .int .i64 (imin x4 x10), .int .i64 (imin x5 x11)]))
theorem tree58_eq (x0 x1 x2 x3 x4 x5 x6 x7 x8 x9 x10 x11 : Int) : vals (evFnT Try.prog (tb Try.prog tab14) (tbT Try.prog tab14) ⟨[], [], []⟩ noLoops 300 58 #[.agg #[.int .i64 x0, .int .i64 x1, .int .i64 x2, .int .i64 x3, .int .i64 x4, .int .i64 x5], .agg #[.int .i64 x6, .int .i64 x7, .int .i64 x8, .int .i64 x9, .int .i64 x10, .int .i64 x11]] []) = tree58 x0 x1 x2 x3 x4 x5 x6 x7 x8 x9 x10 x11 := by kernel_rfl
theorem tree58_res (x0 x1 x2 x3 x4 x5 x6 x7 x8 x9 x10 x11 : Int) : (tree58 x0 x1 x2 x3 x4 x5 x6 x7 x8 x9 x10 x11).res = some (.agg #[.int .i64 (imax x0 x6), .int .i64 (imax x1 x7), .int .i64 (imax x2 x8), .int .i64 (imin x3 x9), .int .i64 (imin x4 x10), .int .i64 (imin x5 x11)]) := by
  rfl
theorem tab15_ok : TabOk Try.prog tab15 := tab_cons mixed tab14_ok (by decide) fun args v h => by
  unfold ans58 at h
  split at h
  · rename_i c0 c1 h0
    split at h
    · rename_i x0 x1 x2 x3 x4 x5 x6 x7 x8 x9 x10 x11 h1 h2
      injection h with h; subst h
      obtain rfl : c0 = #[.int .i64 x0, .int .i64 x1, .int .i64 x2, .int .i64 x3, .int .i64 x4, .int .i64 x5] := by rw [← Array.toArray_toList (xs := c0), h1]
      obtain rfl : c1 = #[.int .i64 x6, .int .i64 x7, .int .i64 x8, .int .i64 x9, .int .i64 x10, .int .i64 x11] := by rw [← Array.toArray_toList (xs := c1), h2]
      obtain rfl : args = #[.agg #[.int .i64 x0, .int .i64 x1, .int .i64 x2, .int .i64 x3, .int .i64 x4, .int .i64 x5], .agg #[.int .i64 x6, .int .i64 x7, .int .i64 x8, .int .i64 x9, .int .i64 x10, .int .i64 x11]] := by rw [← Array.toArray_toList (xs := args), h0]
      exact ⟨rfl, rfl, ⟨[], [], []⟩, 300, by rw [tree58_eq]; exact tree58_res _ _ _ _ _ _ _ _ _ _ _ _⟩
    · cases h
  · cases h

/- gangsaw/gangsawref06.full -/
def ref06_full_0 (x0 x1 x2 x3 x4 x5 : Int) : Bool :=
  if Decidable.decide (x0 < x3) then (if Decidable.decide (x1 < x4) then (if Decidable.decide (x2 < x5) then (Bool.true) else (Bool.false)) else (Bool.false)) else (Bool.false)
def ans59 : Ans := fun args => match args.toList with
  | [.agg c0] => match c0.toList with
    | [.int .i64 x0, .int .i64 x1, .int .i64 x2, .int .i64 x3, .int .i64 x4, .int .i64 x5] => some (.bool (ref06_full_0 x0 x1 x2 x3 x4 x5))
    | _ => none
  | _ => none
def tab16 : Tab := (59, .ans ans59) :: tab15
def tree59 (x0 x1 x2 x3 x4 x5 : Int) : Tr Value :=
  .node 9 (Decidable.decide (x0 < x3))
  (.node 17 (Decidable.decide (x1 < x4))
   (.node 26 (Decidable.decide (x2 < x5))
    (.leaf (some (.bool (Bool.true))))
    (.leaf (some (.bool (Bool.false)))))
   (.leaf (some (.bool (Bool.false)))))
  (.leaf (some (.bool (Bool.false))))
theorem tree59_eq (x0 x1 x2 x3 x4 x5 : Int) : vals (evFnT Try.prog (tb Try.prog tab15) (tbT Try.prog tab15) ⟨[(9, 0), (17, 0), (26, 0)], [], []⟩ noLoops 300 59 #[.agg #[.int .i64 x0, .int .i64 x1, .int .i64 x2, .int .i64 x3, .int .i64 x4, .int .i64 x5]] []) = tree59 x0 x1 x2 x3 x4 x5 := by kernel_rfl
theorem tree59_res (x0 x1 x2 x3 x4 x5 : Int) : (tree59 x0 x1 x2 x3 x4 x5).res = some (.bool (ref06_full_0 x0 x1 x2 x3 x4 x5)) := by
  unfold tree59 ref06_full_0
  simp only [Tr.res]
  generalize (Decidable.decide (x0 < x3)) = b0
  generalize (Decidable.decide (x1 < x4)) = b1
  generalize (Decidable.decide (x2 < x5)) = b2
  cases b0 with
  | true =>
   cases b1 with
   | true =>
    cases b2 with
    | true =>
     first | (simp only [if_true, Bool.false_eq_true, if_false]; done) | rfl
    | false =>
     first | (simp only [if_true, Bool.false_eq_true, if_false]; done) | rfl
   | false =>
    first | (simp only [if_true, Bool.false_eq_true, if_false]; done) | rfl
  | false =>
   first | (simp only [if_true, Bool.false_eq_true, if_false]; done) | rfl
theorem tab16_ok : TabOk Try.prog tab16 := tab_cons mixed tab15_ok (by decide) fun args v h => by
  unfold ans59 at h
  split at h
  · rename_i c0 h0
    split at h
    · rename_i x0 x1 x2 x3 x4 x5 h1
      injection h with h; subst h
      obtain rfl : c0 = #[.int .i64 x0, .int .i64 x1, .int .i64 x2, .int .i64 x3, .int .i64 x4, .int .i64 x5] := by rw [← Array.toArray_toList (xs := c0), h1]
      obtain rfl : args = #[.agg #[.int .i64 x0, .int .i64 x1, .int .i64 x2, .int .i64 x3, .int .i64 x4, .int .i64 x5]] := by rw [← Array.toArray_toList (xs := args), h0]
      exact ⟨rfl, rfl, ⟨[(9, 0), (17, 0), (26, 0)], [], []⟩, 300, by rw [tree59_eq]; exact tree59_res _ _ _ _ _ _⟩
    · cases h
  · cases h

/- gangsaw/gangsawref06.Overlap -/
def ref06_Overlap_0 (x0 x1 x2 x3 x4 x5 x6 x7 x8 x9 x10 x11 : Int) : Bool :=
  if ref06_full_0 (imax x0 x6) (imax x1 x7) (imax x2 x8) (imin x3 x9) (imin x4 x10) (imin x5 x11) then (Bool.true) else (Bool.false)
def ans30 : Ans := fun args => match args.toList with
  | [.agg c0, .agg c1] => match c0.toList, c1.toList with
    | [.int .i64 x0, .int .i64 x1, .int .i64 x2, .int .i64 x3, .int .i64 x4, .int .i64 x5], [.int .i64 x6, .int .i64 x7, .int .i64 x8, .int .i64 x9, .int .i64 x10, .int .i64 x11] => some (.bool (ref06_Overlap_0 x0 x1 x2 x3 x4 x5 x6 x7 x8 x9 x10 x11))
    | _, _ => none
  | _ => none
def tab17 : Tab := (30, .ans ans30) :: tab16
def tree30 (x0 x1 x2 x3 x4 x5 x6 x7 x8 x9 x10 x11 : Int) : Tr Value :=
  .node 8 (ref06_full_0 (imax x0 x6) (imax x1 x7) (imax x2 x8) (imin x3 x9) (imin x4 x10) (imin x5 x11))
  (.leaf (some (.bool (Bool.true))))
  (.leaf (some (.bool (Bool.false))))
theorem tree30_eq (x0 x1 x2 x3 x4 x5 x6 x7 x8 x9 x10 x11 : Int) : vals (evFnT Try.prog (tb Try.prog tab16) (tbT Try.prog tab16) ⟨[(8, 0)], [], []⟩ noLoops 300 30 #[.agg #[.int .i64 x0, .int .i64 x1, .int .i64 x2, .int .i64 x3, .int .i64 x4, .int .i64 x5], .agg #[.int .i64 x6, .int .i64 x7, .int .i64 x8, .int .i64 x9, .int .i64 x10, .int .i64 x11]] []) = tree30 x0 x1 x2 x3 x4 x5 x6 x7 x8 x9 x10 x11 := by kernel_rfl
theorem tree30_res (x0 x1 x2 x3 x4 x5 x6 x7 x8 x9 x10 x11 : Int) : (tree30 x0 x1 x2 x3 x4 x5 x6 x7 x8 x9 x10 x11).res = some (.bool (ref06_Overlap_0 x0 x1 x2 x3 x4 x5 x6 x7 x8 x9 x10 x11)) := by
  unfold tree30 ref06_Overlap_0
  simp only [Tr.res]
  generalize (ref06_full_0 (imax x0 x6) (imax x1 x7) (imax x2 x8) (imin x3 x9) (imin x4 x10) (imin x5 x11)) = b0
  cases b0 with
  | true =>
   first | (simp only [if_true, Bool.false_eq_true, if_false]; done) | rfl
  | false =>
   first | (simp only [if_true, Bool.false_eq_true, if_false]; done) | rfl
theorem tab17_ok : TabOk Try.prog tab17 := tab_cons mixed tab16_ok (by decide) fun args v h => by
  unfold ans30 at h
  split at h
  · rename_i c0 c1 h0
    split at h
    · rename_i x0 x1 x2 x3 x4 x5 x6 x7 x8 x9 x10 x11 h1 h2
      injection h with h; subst h
      obtain rfl : c0 = #[.int .i64 x0, .int .i64 x1, .int .i64 x2, .int .i64 x3, .int .i64 x4, .int .i64 x5] := by rw [← Array.toArray_toList (xs := c0), h1]
      obtain rfl : c1 = #[.int .i64 x6, .int .i64 x7, .int .i64 x8, .int .i64 x9, .int .i64 x10, .int .i64 x11] := by rw [← Array.toArray_toList (xs := c1), h2]
      obtain rfl : args = #[.agg #[.int .i64 x0, .int .i64 x1, .int .i64 x2, .int .i64 x3, .int .i64 x4, .int .i64 x5], .agg #[.int .i64 x6, .int .i64 x7, .int .i64 x8, .int .i64 x9, .int .i64 x10, .int .i64 x11]] := by rw [← Array.toArray_toList (xs := args), h0]
      exact ⟨rfl, rfl, ⟨[(8, 0)], [], []⟩, 300, by rw [tree30_eq]; exact tree30_res _ _ _ _ _ _ _ _ _ _ _ _⟩
    · cases h
  · cases h

/- gangsaw/box.Check -/
def box_Check_0 (x0 x1 x2 x3 x4 x5 : Int) : Int :=
  if Decidable.decide (imin x0 x3 < -1000000) then (6) else if Decidable.decide (imax x0 x3 > 1000000) then (6) else if Decidable.decide (imin x1 x4 < -1000000) then (6) else if Decidable.decide (imax x1 x4 > 1000000) then (6) else if Decidable.decide (imin x2 x5 < -1000000) then (6) else if Decidable.decide (imax x2 x5 > 1000000) then (6) else if box_empty_0 x0 x1 x2 x3 x4 x5 then (1) else (0)
def ans15 : Ans := fun args => match args.toList with
  | [.agg c0] => match c0.toList with
    | [.int .i64 x0, .int .i64 x1, .int .i64 x2, .int .i64 x3, .int .i64 x4, .int .i64 x5] => some (.int .i64 (box_Check_0 x0 x1 x2 x3 x4 x5))
    | _ => none
  | _ => none
def tab18 : Tab := (15, .ans ans15) :: tab17
def tree15 (x0 x1 x2 x3 x4 x5 : Int) : Tr Value :=
  .node 22 (Decidable.decide (imin x0 x3 < -1000000))
  (.leaf (some (.int .i64 (6))))
  (.node 31 (Decidable.decide (imax x0 x3 > 1000000))
   (.leaf (some (.int .i64 (6))))
   (.node 22 (Decidable.decide (imin x1 x4 < -1000000))
    (.leaf (some (.int .i64 (6))))
    (.node 31 (Decidable.decide (imax x1 x4 > 1000000))
     (.leaf (some (.int .i64 (6))))
     (.node 22 (Decidable.decide (imin x2 x5 < -1000000))
      (.leaf (some (.int .i64 (6))))
      (.node 31 (Decidable.decide (imax x2 x5 > 1000000))
       (.leaf (some (.int .i64 (6))))
       (.node 35 (box_empty_0 x0 x1 x2 x3 x4 x5)
        (.leaf (some (.int .i64 (1))))
        (.leaf (some (.int .i64 (0))))))))))
theorem tree15_eq (x0 x1 x2 x3 x4 x5 : Int) : vals (evFnT Try.prog (tb Try.prog tab17) (tbT Try.prog tab17) ⟨[(22, 0), (31, 0), (35, 0)], [], []⟩ noLoops 300 15 #[.agg #[.int .i64 x0, .int .i64 x1, .int .i64 x2, .int .i64 x3, .int .i64 x4, .int .i64 x5]] []) = tree15 x0 x1 x2 x3 x4 x5 := by kernel_rfl
theorem tree15_res (x0 x1 x2 x3 x4 x5 : Int) : (tree15 x0 x1 x2 x3 x4 x5).res = some (.int .i64 (box_Check_0 x0 x1 x2 x3 x4 x5)) := by
  unfold tree15 box_Check_0
  simp only [Tr.res]
  generalize (Decidable.decide (imin x0 x3 < -1000000)) = b0
  generalize (Decidable.decide (imax x0 x3 > 1000000)) = b1
  generalize (Decidable.decide (imin x1 x4 < -1000000)) = b2
  generalize (Decidable.decide (imax x1 x4 > 1000000)) = b3
  generalize (Decidable.decide (imin x2 x5 < -1000000)) = b4
  generalize (Decidable.decide (imax x2 x5 > 1000000)) = b5
  generalize (box_empty_0 x0 x1 x2 x3 x4 x5) = b6
  cases b0 with
  | true =>
   first | (simp only [if_true, Bool.false_eq_true, if_false]; done) | rfl
  | false =>
   cases b1 with
   | true =>
    first | (simp only [if_true, Bool.false_eq_true, if_false]; done) | rfl
   | false =>
    cases b2 with
    | true =>
     first | (simp only [if_true, Bool.false_eq_true, if_false]; done) | rfl
    | false =>
     cases b3 with
     | true =>
      first | (simp only [if_true, Bool.false_eq_true, if_false]; done) | rfl
     | false =>
      cases b4 with
      | true =>
       first | (simp only [if_true, Bool.false_eq_true, if_false]; done) | rfl
      | false =>
       cases b5 with
       | true =>
        first | (simp only [if_true, Bool.false_eq_true, if_false]; done) | rfl
       | false =>
        cases b6 with
        | true =>
         first | (simp only [if_true, Bool.false_eq_true, if_false]; done) | rfl
        | false =>
         first | (simp only [if_true, Bool.false_eq_true, if_false]; done) | rfl
theorem tab18_ok : TabOk Try.prog tab18 := tab_cons mixed tab17_ok (by decide) fun args v h => by
  unfold ans15 at h
  split at h
  · rename_i c0 h0
    split at h
    · rename_i x0 x1 x2 x3 x4 x5 h1
      injection h with h; subst h
      obtain rfl : c0 = #[.int .i64 x0, .int .i64 x1, .int .i64 x2, .int .i64 x3, .int .i64 x4, .int .i64 x5] := by rw [← Array.toArray_toList (xs := c0), h1]
      obtain rfl : args = #[.agg #[.int .i64 x0, .int .i64 x1, .int .i64 x2, .int .i64 x3, .int .i64 x4, .int .i64 x5]] := by rw [← Array.toArray_toList (xs := args), h0]
      exact ⟨rfl, rfl, ⟨[(22, 0), (31, 0), (35, 0)], [], []⟩, 300, by rw [tree15_eq]; exact tree15_res _ _ _ _ _ _⟩
    · cases h
  · cases h

/- gangsaw/box.checkAll -/
def tab19 : Tab := (54, .inl ⟨[(15, 0)], [], []⟩ 300) :: tab18
theorem tab19_ok : TabOk Try.prog tab19 := tab_inl mixed tab18_ok _ _ _

/- gangsaw/box.vectorOf -/
def ans68 : Ans := fun args => match args.toList with
  | [.agg c0] => match c0.toList with
    | [.int .i64 x0, .int .i64 x1, .int .i64 x2] => some (.agg #[.int .i64 (x0), .int .i64 (x1), .int .i64 (x2)])
    | _ => none
  | _ => none
def tab20 : Tab := (68, .ans ans68) :: tab19
def tree68 (x0 x1 x2 : Int) : Tr Value :=
  .leaf (some (.agg #[.int .i64 (x0), .int .i64 (x1), .int .i64 (x2)]))
theorem tree68_eq (x0 x1 x2 : Int) : vals (evFnT Try.prog (tb Try.prog tab19) (tbT Try.prog tab19) ⟨[], [], []⟩ noLoops 300 68 #[.agg #[.int .i64 x0, .int .i64 x1, .int .i64 x2]] []) = tree68 x0 x1 x2 := by kernel_rfl
theorem tree68_res (x0 x1 x2 : Int) : (tree68 x0 x1 x2).res = some (.agg #[.int .i64 (x0), .int .i64 (x1), .int .i64 (x2)]) := by
  rfl
theorem tab20_ok : TabOk Try.prog tab20 := tab_cons mixed tab19_ok (by decide) fun args v h => by
  unfold ans68 at h
  split at h
  · rename_i c0 h0
    split at h
    · rename_i x0 x1 x2 h1
      injection h with h; subst h
      obtain rfl : c0 = #[.int .i64 x0, .int .i64 x1, .int .i64 x2] := by rw [← Array.toArray_toList (xs := c0), h1]
      obtain rfl : args = #[.agg #[.int .i64 x0, .int .i64 x1, .int .i64 x2]] := by rw [← Array.toArray_toList (xs := args), h0]
      exact ⟨rfl, rfl, ⟨[], [], []⟩, 300, by rw [tree68_eq]; exact tree68_res _ _ _⟩
    · cases h
  · cases h

/- gangsaw/box.beside -/
def box_beside_at2_0 (x0 x1 _x2 x3 x4 _x5 x6 x7 _x8 x9 x10 _x11 : Int) : Bool :=
  if box_empty_0 (imax x0 x6) (imax x1 x7) 0 (imin x3 x9) (imin x4 x10) 1 then (Bool.false) else (Bool.true)
def box_beside_at1_0 (x0 _x1 x2 x3 _x4 x5 x6 _x7 x8 x9 _x10 x11 : Int) : Bool :=
  if box_empty_0 (imax x0 x6) 0 (imax x2 x8) (imin x3 x9) 1 (imin x5 x11) then (Bool.false) else (Bool.true)
def box_beside_at0_0 (_x0 x1 x2 _x3 x4 x5 _x6 x7 x8 _x9 x10 x11 : Int) : Bool :=
  if box_empty_0 0 (imax x1 x7) (imax x2 x8) 1 (imin x4 x10) (imin x5 x11) then (Bool.false) else (Bool.true)
def ans60 : Ans := fun args => match args.toList with
  | [.agg c0, .agg c1, .int .i64 x12] => if x12 = 0 then (match c0.toList, c1.toList with
    | [.int .i64 x0, .int .i64 x1, .int .i64 x2, .int .i64 x3, .int .i64 x4, .int .i64 x5], [.int .i64 x6, .int .i64 x7, .int .i64 x8, .int .i64 x9, .int .i64 x10, .int .i64 x11] => some (.bool (box_beside_at0_0 x0 x1 x2 x3 x4 x5 x6 x7 x8 x9 x10 x11))
    | _, _ => none)
    else if x12 = 1 then (match c0.toList, c1.toList with
    | [.int .i64 x0, .int .i64 x1, .int .i64 x2, .int .i64 x3, .int .i64 x4, .int .i64 x5], [.int .i64 x6, .int .i64 x7, .int .i64 x8, .int .i64 x9, .int .i64 x10, .int .i64 x11] => some (.bool (box_beside_at1_0 x0 x1 x2 x3 x4 x5 x6 x7 x8 x9 x10 x11))
    | _, _ => none)
    else if x12 = 2 then (match c0.toList, c1.toList with
    | [.int .i64 x0, .int .i64 x1, .int .i64 x2, .int .i64 x3, .int .i64 x4, .int .i64 x5], [.int .i64 x6, .int .i64 x7, .int .i64 x8, .int .i64 x9, .int .i64 x10, .int .i64 x11] => some (.bool (box_beside_at2_0 x0 x1 x2 x3 x4 x5 x6 x7 x8 x9 x10 x11))
    | _, _ => none)
    else none
  | _ => none
def tab21 : Tab := (60, .ans ans60) :: tab20
def tree60_2 (x0 x1 x2 x3 x4 x5 x6 x7 x8 x9 x10 x11 : Int) : Tr Value :=
  .node 28 (box_empty_0 (imax x0 x6) (imax x1 x7) 0 (imin x3 x9) (imin x4 x10) 1)
  (.leaf (some (.bool (Bool.false))))
  (.leaf (some (.bool (Bool.true))))
theorem tree60_2_eq (x0 x1 x2 x3 x4 x5 x6 x7 x8 x9 x10 x11 : Int) : vals (evFnT Try.prog (tb Try.prog tab20) (tbT Try.prog tab20) ⟨[(28, 0)], [], []⟩ noLoops 300 60 #[.agg #[.int .i64 x0, .int .i64 x1, .int .i64 x2, .int .i64 x3, .int .i64 x4, .int .i64 x5], .agg #[.int .i64 x6, .int .i64 x7, .int .i64 x8, .int .i64 x9, .int .i64 x10, .int .i64 x11], .int .i64 (2)] []) = tree60_2 x0 x1 x2 x3 x4 x5 x6 x7 x8 x9 x10 x11 := by kernel_rfl
theorem tree60_2_res (x0 x1 x2 x3 x4 x5 x6 x7 x8 x9 x10 x11 : Int) : (tree60_2 x0 x1 x2 x3 x4 x5 x6 x7 x8 x9 x10 x11).res = some (.bool (box_beside_at2_0 x0 x1 x2 x3 x4 x5 x6 x7 x8 x9 x10 x11)) := by
  unfold tree60_2 box_beside_at2_0
  simp only [Tr.res]
  generalize (box_empty_0 (imax x0 x6) (imax x1 x7) 0 (imin x3 x9) (imin x4 x10) 1) = b0
  cases b0 with
  | true =>
   first | (simp only [if_true, Bool.false_eq_true, if_false]; done) | rfl
  | false =>
   first | (simp only [if_true, Bool.false_eq_true, if_false]; done) | rfl
def tree60_1 (x0 x1 x2 x3 x4 x5 x6 x7 x8 x9 x10 x11 : Int) : Tr Value :=
  .node 28 (box_empty_0 (imax x0 x6) 0 (imax x2 x8) (imin x3 x9) 1 (imin x5 x11))
  (.leaf (some (.bool (Bool.false))))
  (.leaf (some (.bool (Bool.true))))
theorem tree60_1_eq (x0 x1 x2 x3 x4 x5 x6 x7 x8 x9 x10 x11 : Int) : vals (evFnT Try.prog (tb Try.prog tab20) (tbT Try.prog tab20) ⟨[(28, 0)], [], []⟩ noLoops 300 60 #[.agg #[.int .i64 x0, .int .i64 x1, .int .i64 x2, .int .i64 x3, .int .i64 x4, .int .i64 x5], .agg #[.int .i64 x6, .int .i64 x7, .int .i64 x8, .int .i64 x9, .int .i64 x10, .int .i64 x11], .int .i64 (1)] []) = tree60_1 x0 x1 x2 x3 x4 x5 x6 x7 x8 x9 x10 x11 := by kernel_rfl
theorem tree60_1_res (x0 x1 x2 x3 x4 x5 x6 x7 x8 x9 x10 x11 : Int) : (tree60_1 x0 x1 x2 x3 x4 x5 x6 x7 x8 x9 x10 x11).res = some (.bool (box_beside_at1_0 x0 x1 x2 x3 x4 x5 x6 x7 x8 x9 x10 x11)) := by
  unfold tree60_1 box_beside_at1_0
  simp only [Tr.res]
  generalize (box_empty_0 (imax x0 x6) 0 (imax x2 x8) (imin x3 x9) 1 (imin x5 x11)) = b0
  cases b0 with
  | true =>
   first | (simp only [if_true, Bool.false_eq_true, if_false]; done) | rfl
  | false =>
   first | (simp only [if_true, Bool.false_eq_true, if_false]; done) | rfl
def tree60_0 (x0 x1 x2 x3 x4 x5 x6 x7 x8 x9 x10 x11 : Int) : Tr Value :=
  .node 28 (box_empty_0 0 (imax x1 x7) (imax x2 x8) 1 (imin x4 x10) (imin x5 x11))
  (.leaf (some (.bool (Bool.false))))
  (.leaf (some (.bool (Bool.true))))
theorem tree60_0_eq (x0 x1 x2 x3 x4 x5 x6 x7 x8 x9 x10 x11 : Int) : vals (evFnT Try.prog (tb Try.prog tab20) (tbT Try.prog tab20) ⟨[(28, 0)], [], []⟩ noLoops 300 60 #[.agg #[.int .i64 x0, .int .i64 x1, .int .i64 x2, .int .i64 x3, .int .i64 x4, .int .i64 x5], .agg #[.int .i64 x6, .int .i64 x7, .int .i64 x8, .int .i64 x9, .int .i64 x10, .int .i64 x11], .int .i64 (0)] []) = tree60_0 x0 x1 x2 x3 x4 x5 x6 x7 x8 x9 x10 x11 := by kernel_rfl
theorem tree60_0_res (x0 x1 x2 x3 x4 x5 x6 x7 x8 x9 x10 x11 : Int) : (tree60_0 x0 x1 x2 x3 x4 x5 x6 x7 x8 x9 x10 x11).res = some (.bool (box_beside_at0_0 x0 x1 x2 x3 x4 x5 x6 x7 x8 x9 x10 x11)) := by
  unfold tree60_0 box_beside_at0_0
  simp only [Tr.res]
  generalize (box_empty_0 0 (imax x1 x7) (imax x2 x8) 1 (imin x4 x10) (imin x5 x11)) = b0
  cases b0 with
  | true =>
   first | (simp only [if_true, Bool.false_eq_true, if_false]; done) | rfl
  | false =>
   first | (simp only [if_true, Bool.false_eq_true, if_false]; done) | rfl
theorem tab21_ok : TabOk Try.prog tab21 := tab_cons mixed tab20_ok (by decide) fun args v h => by
  unfold ans60 at h
  split at h
  · rename_i c0 c1 x12 h0
    split at h
    · rename_i hn
      subst hn
      split at h
      · rename_i x0 x1 x2 x3 x4 x5 x6 x7 x8 x9 x10 x11 h1 h2
        injection h with h; subst h
        obtain rfl : c0 = #[.int .i64 x0, .int .i64 x1, .int .i64 x2, .int .i64 x3, .int .i64 x4, .int .i64 x5] := by rw [← Array.toArray_toList (xs := c0), h1]
        obtain rfl : c1 = #[.int .i64 x6, .int .i64 x7, .int .i64 x8, .int .i64 x9, .int .i64 x10, .int .i64 x11] := by rw [← Array.toArray_toList (xs := c1), h2]
        obtain rfl : args = #[.agg #[.int .i64 x0, .int .i64 x1, .int .i64 x2, .int .i64 x3, .int .i64 x4, .int .i64 x5], .agg #[.int .i64 x6, .int .i64 x7, .int .i64 x8, .int .i64 x9, .int .i64 x10, .int .i64 x11], .int .i64 (0)] := by rw [← Array.toArray_toList (xs := args), h0]
        exact ⟨rfl, rfl, ⟨[(28, 0)], [], []⟩, 300, by rw [tree60_0_eq]; exact tree60_0_res _ _ _ _ _ _ _ _ _ _ _ _⟩
      · cases h
    split at h
    · rename_i hn
      subst hn
      split at h
      · rename_i x0 x1 x2 x3 x4 x5 x6 x7 x8 x9 x10 x11 h1 h2
        injection h with h; subst h
        obtain rfl : c0 = #[.int .i64 x0, .int .i64 x1, .int .i64 x2, .int .i64 x3, .int .i64 x4, .int .i64 x5] := by rw [← Array.toArray_toList (xs := c0), h1]
        obtain rfl : c1 = #[.int .i64 x6, .int .i64 x7, .int .i64 x8, .int .i64 x9, .int .i64 x10, .int .i64 x11] := by rw [← Array.toArray_toList (xs := c1), h2]
        obtain rfl : args = #[.agg #[.int .i64 x0, .int .i64 x1, .int .i64 x2, .int .i64 x3, .int .i64 x4, .int .i64 x5], .agg #[.int .i64 x6, .int .i64 x7, .int .i64 x8, .int .i64 x9, .int .i64 x10, .int .i64 x11], .int .i64 (1)] := by rw [← Array.toArray_toList (xs := args), h0]
        exact ⟨rfl, rfl, ⟨[(28, 0)], [], []⟩, 300, by rw [tree60_1_eq]; exact tree60_1_res _ _ _ _ _ _ _ _ _ _ _ _⟩
      · cases h
    split at h
    · rename_i hn
      subst hn
      split at h
      · rename_i x0 x1 x2 x3 x4 x5 x6 x7 x8 x9 x10 x11 h1 h2
        injection h with h; subst h
        obtain rfl : c0 = #[.int .i64 x0, .int .i64 x1, .int .i64 x2, .int .i64 x3, .int .i64 x4, .int .i64 x5] := by rw [← Array.toArray_toList (xs := c0), h1]
        obtain rfl : c1 = #[.int .i64 x6, .int .i64 x7, .int .i64 x8, .int .i64 x9, .int .i64 x10, .int .i64 x11] := by rw [← Array.toArray_toList (xs := c1), h2]
        obtain rfl : args = #[.agg #[.int .i64 x0, .int .i64 x1, .int .i64 x2, .int .i64 x3, .int .i64 x4, .int .i64 x5], .agg #[.int .i64 x6, .int .i64 x7, .int .i64 x8, .int .i64 x9, .int .i64 x10, .int .i64 x11], .int .i64 (2)] := by rw [← Array.toArray_toList (xs := args), h0]
        exact ⟨rfl, rfl, ⟨[(28, 0)], [], []⟩, 300, by rw [tree60_2_eq]; exact tree60_2_res _ _ _ _ _ _ _ _ _ _ _ _⟩
      · cases h
    cases h
  · cases h

/- gangsaw/box.Touch -/
def box_Touch_0 (x0 x1 x2 x3 x4 x5 x6 x7 x8 x9 x10 x11 : Int) : Int :=
  if box_Check_0 x0 x1 x2 x3 x4 x5 != 0 then (if box_Check_0 x0 x1 x2 x3 x4 x5 != 0 then (0) else if box_beside_at0_0 x0 x1 x2 x3 x4 x5 x6 x7 x8 x9 x10 x11 then (if x6 == x3 then (IntKind.i64.wrap (0 + IntKind.i64.wrap (2 * 0))) else if x9 == x0 then (IntKind.i64.wrap (1 + IntKind.i64.wrap (2 * 0))) else if box_beside_at1_0 x0 x1 x2 x3 x4 x5 x6 x7 x8 x9 x10 x11 then (if x7 == x4 then (IntKind.i64.wrap (0 + IntKind.i64.wrap (2 * IntKind.i64.wrap (0 + 1)))) else if x10 == x1 then (IntKind.i64.wrap (1 + IntKind.i64.wrap (2 * IntKind.i64.wrap (0 + 1)))) else if box_beside_at2_0 x0 x1 x2 x3 x4 x5 x6 x7 x8 x9 x10 x11 then (if x8 == x5 then (IntKind.i64.wrap (0 + IntKind.i64.wrap (2 * IntKind.i64.wrap (IntKind.i64.wrap (0 + 1) + 1)))) else if x11 == x2 then (IntKind.i64.wrap (1 + IntKind.i64.wrap (2 * IntKind.i64.wrap (IntKind.i64.wrap (0 + 1) + 1)))) else (0)) else (0)) else if box_beside_at2_0 x0 x1 x2 x3 x4 x5 x6 x7 x8 x9 x10 x11 then (if x8 == x5 then (IntKind.i64.wrap (0 + IntKind.i64.wrap (2 * IntKind.i64.wrap (IntKind.i64.wrap (0 + 1) + 1)))) else if x11 == x2 then (IntKind.i64.wrap (1 + IntKind.i64.wrap (2 * IntKind.i64.wrap (IntKind.i64.wrap (0 + 1) + 1)))) else (0)) else (0)) else if box_beside_at1_0 x0 x1 x2 x3 x4 x5 x6 x7 x8 x9 x10 x11 then (if x7 == x4 then (IntKind.i64.wrap (0 + IntKind.i64.wrap (2 * IntKind.i64.wrap (0 + 1)))) else if x10 == x1 then (IntKind.i64.wrap (1 + IntKind.i64.wrap (2 * IntKind.i64.wrap (0 + 1)))) else if box_beside_at2_0 x0 x1 x2 x3 x4 x5 x6 x7 x8 x9 x10 x11 then (if x8 == x5 then (IntKind.i64.wrap (0 + IntKind.i64.wrap (2 * IntKind.i64.wrap (IntKind.i64.wrap (0 + 1) + 1)))) else if x11 == x2 then (IntKind.i64.wrap (1 + IntKind.i64.wrap (2 * IntKind.i64.wrap (IntKind.i64.wrap (0 + 1) + 1)))) else (0)) else (0)) else if box_beside_at2_0 x0 x1 x2 x3 x4 x5 x6 x7 x8 x9 x10 x11 then (if x8 == x5 then (IntKind.i64.wrap (0 + IntKind.i64.wrap (2 * IntKind.i64.wrap (IntKind.i64.wrap (0 + 1) + 1)))) else if x11 == x2 then (IntKind.i64.wrap (1 + IntKind.i64.wrap (2 * IntKind.i64.wrap (IntKind.i64.wrap (0 + 1) + 1)))) else (0)) else (0)) else if box_Check_0 x6 x7 x8 x9 x10 x11 != 0 then (if box_Check_0 x6 x7 x8 x9 x10 x11 != 0 then (0) else if box_beside_at0_0 x0 x1 x2 x3 x4 x5 x6 x7 x8 x9 x10 x11 then (if x6 == x3 then (IntKind.i64.wrap (0 + IntKind.i64.wrap (2 * 0))) else if x9 == x0 then (IntKind.i64.wrap (1 + IntKind.i64.wrap (2 * 0))) else if box_beside_at1_0 x0 x1 x2 x3 x4 x5 x6 x7 x8 x9 x10 x11 then (if x7 == x4 then (IntKind.i64.wrap (0 + IntKind.i64.wrap (2 * IntKind.i64.wrap (0 + 1)))) else if x10 == x1 then (IntKind.i64.wrap (1 + IntKind.i64.wrap (2 * IntKind.i64.wrap (0 + 1)))) else if box_beside_at2_0 x0 x1 x2 x3 x4 x5 x6 x7 x8 x9 x10 x11 then (if x8 == x5 then (IntKind.i64.wrap (0 + IntKind.i64.wrap (2 * IntKind.i64.wrap (IntKind.i64.wrap (0 + 1) + 1)))) else if x11 == x2 then (IntKind.i64.wrap (1 + IntKind.i64.wrap (2 * IntKind.i64.wrap (IntKind.i64.wrap (0 + 1) + 1)))) else (0)) else (0)) else if box_beside_at2_0 x0 x1 x2 x3 x4 x5 x6 x7 x8 x9 x10 x11 then (if x8 == x5 then (IntKind.i64.wrap (0 + IntKind.i64.wrap (2 * IntKind.i64.wrap (IntKind.i64.wrap (0 + 1) + 1)))) else if x11 == x2 then (IntKind.i64.wrap (1 + IntKind.i64.wrap (2 * IntKind.i64.wrap (IntKind.i64.wrap (0 + 1) + 1)))) else (0)) else (0)) else if box_beside_at1_0 x0 x1 x2 x3 x4 x5 x6 x7 x8 x9 x10 x11 then (if x7 == x4 then (IntKind.i64.wrap (0 + IntKind.i64.wrap (2 * IntKind.i64.wrap (0 + 1)))) else if x10 == x1 then (IntKind.i64.wrap (1 + IntKind.i64.wrap (2 * IntKind.i64.wrap (0 + 1)))) else if box_beside_at2_0 x0 x1 x2 x3 x4 x5 x6 x7 x8 x9 x10 x11 then (if x8 == x5 then (IntKind.i64.wrap (0 + IntKind.i64.wrap (2 * IntKind.i64.wrap (IntKind.i64.wrap (0 + 1) + 1)))) else if x11 == x2 then (IntKind.i64.wrap (1 + IntKind.i64.wrap (2 * IntKind.i64.wrap (IntKind.i64.wrap (0 + 1) + 1)))) else (0)) else (0)) else if box_beside_at2_0 x0 x1 x2 x3 x4 x5 x6 x7 x8 x9 x10 x11 then (if x8 == x5 then (IntKind.i64.wrap (0 + IntKind.i64.wrap (2 * IntKind.i64.wrap (IntKind.i64.wrap (0 + 1) + 1)))) else if x11 == x2 then (IntKind.i64.wrap (1 + IntKind.i64.wrap (2 * IntKind.i64.wrap (IntKind.i64.wrap (0 + 1) + 1)))) else (0)) else (0)) else if box_beside_at0_0 x0 x1 x2 x3 x4 x5 x6 x7 x8 x9 x10 x11 then (if x6 == x3 then (IntKind.i64.wrap (0 + IntKind.i64.wrap (2 * 0))) else if x9 == x0 then (IntKind.i64.wrap (1 + IntKind.i64.wrap (2 * 0))) else if box_beside_at1_0 x0 x1 x2 x3 x4 x5 x6 x7 x8 x9 x10 x11 then (if x7 == x4 then (IntKind.i64.wrap (0 + IntKind.i64.wrap (2 * IntKind.i64.wrap (0 + 1)))) else if x10 == x1 then (IntKind.i64.wrap (1 + IntKind.i64.wrap (2 * IntKind.i64.wrap (0 + 1)))) else if box_beside_at2_0 x0 x1 x2 x3 x4 x5 x6 x7 x8 x9 x10 x11 then (if x8 == x5 then (IntKind.i64.wrap (0 + IntKind.i64.wrap (2 * IntKind.i64.wrap (IntKind.i64.wrap (0 + 1) + 1)))) else if x11 == x2 then (IntKind.i64.wrap (1 + IntKind.i64.wrap (2 * IntKind.i64.wrap (IntKind.i64.wrap (0 + 1) + 1)))) else (0)) else (0)) else if box_beside_at2_0 x0 x1 x2 x3 x4 x5 x6 x7 x8 x9 x10 x11 then (if x8 == x5 then (IntKind.i64.wrap (0 + IntKind.i64.wrap (2 * IntKind.i64.wrap (IntKind.i64.wrap (0 + 1) + 1)))) else if x11 == x2 then (IntKind.i64.wrap (1 + IntKind.i64.wrap (2 * IntKind.i64.wrap (IntKind.i64.wrap (0 + 1) + 1)))) else (0)) else (0)) else if box_beside_at1_0 x0 x1 x2 x3 x4 x5 x6 x7 x8 x9 x10 x11 then (if x7 == x4 then (IntKind.i64.wrap (0 + IntKind.i64.wrap (2 * IntKind.i64.wrap (0 + 1)))) else if x10 == x1 then (IntKind.i64.wrap (1 + IntKind.i64.wrap (2 * IntKind.i64.wrap (0 + 1)))) else if box_beside_at2_0 x0 x1 x2 x3 x4 x5 x6 x7 x8 x9 x10 x11 then (if x8 == x5 then (IntKind.i64.wrap (0 + IntKind.i64.wrap (2 * IntKind.i64.wrap (IntKind.i64.wrap (0 + 1) + 1)))) else if x11 == x2 then (IntKind.i64.wrap (1 + IntKind.i64.wrap (2 * IntKind.i64.wrap (IntKind.i64.wrap (0 + 1) + 1)))) else (0)) else (0)) else if box_beside_at2_0 x0 x1 x2 x3 x4 x5 x6 x7 x8 x9 x10 x11 then (if x8 == x5 then (IntKind.i64.wrap (0 + IntKind.i64.wrap (2 * IntKind.i64.wrap (IntKind.i64.wrap (0 + 1) + 1)))) else if x11 == x2 then (IntKind.i64.wrap (1 + IntKind.i64.wrap (2 * IntKind.i64.wrap (IntKind.i64.wrap (0 + 1) + 1)))) else (0)) else (0)
def box_Touch_1 (x0 x1 x2 x3 x4 x5 x6 x7 x8 x9 x10 x11 : Int) : Int :=
  if box_Check_0 x0 x1 x2 x3 x4 x5 != 0 then (if box_Check_0 x0 x1 x2 x3 x4 x5 != 0 then (box_Check_0 x0 x1 x2 x3 x4 x5) else if box_beside_at0_0 x0 x1 x2 x3 x4 x5 x6 x7 x8 x9 x10 x11 then (if x6 == x3 then (0) else if x9 == x0 then (0) else if box_beside_at1_0 x0 x1 x2 x3 x4 x5 x6 x7 x8 x9 x10 x11 then (if x7 == x4 then (0) else if x10 == x1 then (0) else if box_beside_at2_0 x0 x1 x2 x3 x4 x5 x6 x7 x8 x9 x10 x11 then (if x8 == x5 then (0) else if x11 == x2 then (0) else (9)) else (9)) else if box_beside_at2_0 x0 x1 x2 x3 x4 x5 x6 x7 x8 x9 x10 x11 then (if x8 == x5 then (0) else if x11 == x2 then (0) else (9)) else (9)) else if box_beside_at1_0 x0 x1 x2 x3 x4 x5 x6 x7 x8 x9 x10 x11 then (if x7 == x4 then (0) else if x10 == x1 then (0) else if box_beside_at2_0 x0 x1 x2 x3 x4 x5 x6 x7 x8 x9 x10 x11 then (if x8 == x5 then (0) else if x11 == x2 then (0) else (9)) else (9)) else if box_beside_at2_0 x0 x1 x2 x3 x4 x5 x6 x7 x8 x9 x10 x11 then (if x8 == x5 then (0) else if x11 == x2 then (0) else (9)) else (9)) else if box_Check_0 x6 x7 x8 x9 x10 x11 != 0 then (if box_Check_0 x6 x7 x8 x9 x10 x11 != 0 then (box_Check_0 x6 x7 x8 x9 x10 x11) else if box_beside_at0_0 x0 x1 x2 x3 x4 x5 x6 x7 x8 x9 x10 x11 then (if x6 == x3 then (0) else if x9 == x0 then (0) else if box_beside_at1_0 x0 x1 x2 x3 x4 x5 x6 x7 x8 x9 x10 x11 then (if x7 == x4 then (0) else if x10 == x1 then (0) else if box_beside_at2_0 x0 x1 x2 x3 x4 x5 x6 x7 x8 x9 x10 x11 then (if x8 == x5 then (0) else if x11 == x2 then (0) else (9)) else (9)) else if box_beside_at2_0 x0 x1 x2 x3 x4 x5 x6 x7 x8 x9 x10 x11 then (if x8 == x5 then (0) else if x11 == x2 then (0) else (9)) else (9)) else if box_beside_at1_0 x0 x1 x2 x3 x4 x5 x6 x7 x8 x9 x10 x11 then (if x7 == x4 then (0) else if x10 == x1 then (0) else if box_beside_at2_0 x0 x1 x2 x3 x4 x5 x6 x7 x8 x9 x10 x11 then (if x8 == x5 then (0) else if x11 == x2 then (0) else (9)) else (9)) else if box_beside_at2_0 x0 x1 x2 x3 x4 x5 x6 x7 x8 x9 x10 x11 then (if x8 == x5 then (0) else if x11 == x2 then (0) else (9)) else (9)) else if box_beside_at0_0 x0 x1 x2 x3 x4 x5 x6 x7 x8 x9 x10 x11 then (if x6 == x3 then (0) else if x9 == x0 then (0) else if box_beside_at1_0 x0 x1 x2 x3 x4 x5 x6 x7 x8 x9 x10 x11 then (if x7 == x4 then (0) else if x10 == x1 then (0) else if box_beside_at2_0 x0 x1 x2 x3 x4 x5 x6 x7 x8 x9 x10 x11 then (if x8 == x5 then (0) else if x11 == x2 then (0) else (9)) else (9)) else if box_beside_at2_0 x0 x1 x2 x3 x4 x5 x6 x7 x8 x9 x10 x11 then (if x8 == x5 then (0) else if x11 == x2 then (0) else (9)) else (9)) else if box_beside_at1_0 x0 x1 x2 x3 x4 x5 x6 x7 x8 x9 x10 x11 then (if x7 == x4 then (0) else if x10 == x1 then (0) else if box_beside_at2_0 x0 x1 x2 x3 x4 x5 x6 x7 x8 x9 x10 x11 then (if x8 == x5 then (0) else if x11 == x2 then (0) else (9)) else (9)) else if box_beside_at2_0 x0 x1 x2 x3 x4 x5 x6 x7 x8 x9 x10 x11 then (if x8 == x5 then (0) else if x11 == x2 then (0) else (9)) else (9)
def ans31 : Ans := fun args => match args.toList with
  | [.agg c0, .agg c1] => match c0.toList, c1.toList with
    | [.int .i64 x0, .int .i64 x1, .int .i64 x2, .int .i64 x3, .int .i64 x4, .int .i64 x5], [.int .i64 x6, .int .i64 x7, .int .i64 x8, .int .i64 x9, .int .i64 x10, .int .i64 x11] => some (.tuple #[.int .i64 (box_Touch_0 x0 x1 x2 x3 x4 x5 x6 x7 x8 x9 x10 x11), .int .i64 (box_Touch_1 x0 x1 x2 x3 x4 x5 x6 x7 x8 x9 x10 x11)])
    | _, _ => none
  | _ => none
def tab22 : Tab := (31, .ans ans31) :: tab21
def tree31 (x0 x1 x2 x3 x4 x5 x6 x7 x8 x9 x10 x11 : Int) : Tr Value :=
  .node 15 (box_Check_0 x0 x1 x2 x3 x4 x5 != 0)
  (.node 17 (box_Check_0 x0 x1 x2 x3 x4 x5 != 0)
   (.leaf (some (.tuple #[.int .i64 (0), .int .i64 (box_Check_0 x0 x1 x2 x3 x4 x5)])))
   (.node 37 (box_beside_at0_0 x0 x1 x2 x3 x4 x5 x6 x7 x8 x9 x10 x11)
    (.node 45 (x6 == x3)
     (.leaf (some (.tuple #[.int .i64 (IntKind.i64.wrap (0 + IntKind.i64.wrap (2 * 0))), .int .i64 (0)])))
     (.node 55 (x9 == x0)
      (.leaf (some (.tuple #[.int .i64 (IntKind.i64.wrap (1 + IntKind.i64.wrap (2 * 0))), .int .i64 (0)])))
      (.node 37 (box_beside_at1_0 x0 x1 x2 x3 x4 x5 x6 x7 x8 x9 x10 x11)
       (.node 45 (x7 == x4)
        (.leaf (some (.tuple #[.int .i64 (IntKind.i64.wrap (0 + IntKind.i64.wrap (2 * IntKind.i64.wrap (0 + 1)))), .int .i64 (0)])))
        (.node 55 (x10 == x1)
         (.leaf (some (.tuple #[.int .i64 (IntKind.i64.wrap (1 + IntKind.i64.wrap (2 * IntKind.i64.wrap (0 + 1)))), .int .i64 (0)])))
         (.node 37 (box_beside_at2_0 x0 x1 x2 x3 x4 x5 x6 x7 x8 x9 x10 x11)
          (.node 45 (x8 == x5)
           (.leaf (some (.tuple #[.int .i64 (IntKind.i64.wrap (0 + IntKind.i64.wrap (2 * IntKind.i64.wrap (IntKind.i64.wrap (0 + 1) + 1)))), .int .i64 (0)])))
           (.node 55 (x11 == x2)
            (.leaf (some (.tuple #[.int .i64 (IntKind.i64.wrap (1 + IntKind.i64.wrap (2 * IntKind.i64.wrap (IntKind.i64.wrap (0 + 1) + 1)))), .int .i64 (0)])))
            (.leaf (some (.tuple #[.int .i64 (0), .int .i64 (9)])))))
          (.leaf (some (.tuple #[.int .i64 (0), .int .i64 (9)]))))))
       (.node 37 (box_beside_at2_0 x0 x1 x2 x3 x4 x5 x6 x7 x8 x9 x10 x11)
        (.node 45 (x8 == x5)
         (.leaf (some (.tuple #[.int .i64 (IntKind.i64.wrap (0 + IntKind.i64.wrap (2 * IntKind.i64.wrap (IntKind.i64.wrap (0 + 1) + 1)))), .int .i64 (0)])))
         (.node 55 (x11 == x2)
          (.leaf (some (.tuple #[.int .i64 (IntKind.i64.wrap (1 + IntKind.i64.wrap (2 * IntKind.i64.wrap (IntKind.i64.wrap (0 + 1) + 1)))), .int .i64 (0)])))
          (.leaf (some (.tuple #[.int .i64 (0), .int .i64 (9)])))))
        (.leaf (some (.tuple #[.int .i64 (0), .int .i64 (9)])))))))
    (.node 37 (box_beside_at1_0 x0 x1 x2 x3 x4 x5 x6 x7 x8 x9 x10 x11)
     (.node 45 (x7 == x4)
      (.leaf (some (.tuple #[.int .i64 (IntKind.i64.wrap (0 + IntKind.i64.wrap (2 * IntKind.i64.wrap (0 + 1)))), .int .i64 (0)])))
      (.node 55 (x10 == x1)
       (.leaf (some (.tuple #[.int .i64 (IntKind.i64.wrap (1 + IntKind.i64.wrap (2 * IntKind.i64.wrap (0 + 1)))), .int .i64 (0)])))
       (.node 37 (box_beside_at2_0 x0 x1 x2 x3 x4 x5 x6 x7 x8 x9 x10 x11)
        (.node 45 (x8 == x5)
         (.leaf (some (.tuple #[.int .i64 (IntKind.i64.wrap (0 + IntKind.i64.wrap (2 * IntKind.i64.wrap (IntKind.i64.wrap (0 + 1) + 1)))), .int .i64 (0)])))
         (.node 55 (x11 == x2)
          (.leaf (some (.tuple #[.int .i64 (IntKind.i64.wrap (1 + IntKind.i64.wrap (2 * IntKind.i64.wrap (IntKind.i64.wrap (0 + 1) + 1)))), .int .i64 (0)])))
          (.leaf (some (.tuple #[.int .i64 (0), .int .i64 (9)])))))
        (.leaf (some (.tuple #[.int .i64 (0), .int .i64 (9)]))))))
     (.node 37 (box_beside_at2_0 x0 x1 x2 x3 x4 x5 x6 x7 x8 x9 x10 x11)
      (.node 45 (x8 == x5)
       (.leaf (some (.tuple #[.int .i64 (IntKind.i64.wrap (0 + IntKind.i64.wrap (2 * IntKind.i64.wrap (IntKind.i64.wrap (0 + 1) + 1)))), .int .i64 (0)])))
       (.node 55 (x11 == x2)
        (.leaf (some (.tuple #[.int .i64 (IntKind.i64.wrap (1 + IntKind.i64.wrap (2 * IntKind.i64.wrap (IntKind.i64.wrap (0 + 1) + 1)))), .int .i64 (0)])))
        (.leaf (some (.tuple #[.int .i64 (0), .int .i64 (9)])))))
      (.leaf (some (.tuple #[.int .i64 (0), .int .i64 (9)])))))))
  (.node 15 (box_Check_0 x6 x7 x8 x9 x10 x11 != 0)
   (.node 17 (box_Check_0 x6 x7 x8 x9 x10 x11 != 0)
    (.leaf (some (.tuple #[.int .i64 (0), .int .i64 (box_Check_0 x6 x7 x8 x9 x10 x11)])))
    (.node 37 (box_beside_at0_0 x0 x1 x2 x3 x4 x5 x6 x7 x8 x9 x10 x11)
     (.node 45 (x6 == x3)
      (.leaf (some (.tuple #[.int .i64 (IntKind.i64.wrap (0 + IntKind.i64.wrap (2 * 0))), .int .i64 (0)])))
      (.node 55 (x9 == x0)
       (.leaf (some (.tuple #[.int .i64 (IntKind.i64.wrap (1 + IntKind.i64.wrap (2 * 0))), .int .i64 (0)])))
       (.node 37 (box_beside_at1_0 x0 x1 x2 x3 x4 x5 x6 x7 x8 x9 x10 x11)
        (.node 45 (x7 == x4)
         (.leaf (some (.tuple #[.int .i64 (IntKind.i64.wrap (0 + IntKind.i64.wrap (2 * IntKind.i64.wrap (0 + 1)))), .int .i64 (0)])))
         (.node 55 (x10 == x1)
          (.leaf (some (.tuple #[.int .i64 (IntKind.i64.wrap (1 + IntKind.i64.wrap (2 * IntKind.i64.wrap (0 + 1)))), .int .i64 (0)])))
          (.node 37 (box_beside_at2_0 x0 x1 x2 x3 x4 x5 x6 x7 x8 x9 x10 x11)
           (.node 45 (x8 == x5)
            (.leaf (some (.tuple #[.int .i64 (IntKind.i64.wrap (0 + IntKind.i64.wrap (2 * IntKind.i64.wrap (IntKind.i64.wrap (0 + 1) + 1)))), .int .i64 (0)])))
            (.node 55 (x11 == x2)
             (.leaf (some (.tuple #[.int .i64 (IntKind.i64.wrap (1 + IntKind.i64.wrap (2 * IntKind.i64.wrap (IntKind.i64.wrap (0 + 1) + 1)))), .int .i64 (0)])))
             (.leaf (some (.tuple #[.int .i64 (0), .int .i64 (9)])))))
           (.leaf (some (.tuple #[.int .i64 (0), .int .i64 (9)]))))))
        (.node 37 (box_beside_at2_0 x0 x1 x2 x3 x4 x5 x6 x7 x8 x9 x10 x11)
         (.node 45 (x8 == x5)
          (.leaf (some (.tuple #[.int .i64 (IntKind.i64.wrap (0 + IntKind.i64.wrap (2 * IntKind.i64.wrap (IntKind.i64.wrap (0 + 1) + 1)))), .int .i64 (0)])))
          (.node 55 (x11 == x2)
           (.leaf (some (.tuple #[.int .i64 (IntKind.i64.wrap (1 + IntKind.i64.wrap (2 * IntKind.i64.wrap (IntKind.i64.wrap (0 + 1) + 1)))), .int .i64 (0)])))
           (.leaf (some (.tuple #[.int .i64 (0), .int .i64 (9)])))))
         (.leaf (some (.tuple #[.int .i64 (0), .int .i64 (9)])))))))
     (.node 37 (box_beside_at1_0 x0 x1 x2 x3 x4 x5 x6 x7 x8 x9 x10 x11)
      (.node 45 (x7 == x4)
       (.leaf (some (.tuple #[.int .i64 (IntKind.i64.wrap (0 + IntKind.i64.wrap (2 * IntKind.i64.wrap (0 + 1)))), .int .i64 (0)])))
       (.node 55 (x10 == x1)
        (.leaf (some (.tuple #[.int .i64 (IntKind.i64.wrap (1 + IntKind.i64.wrap (2 * IntKind.i64.wrap (0 + 1)))), .int .i64 (0)])))
        (.node 37 (box_beside_at2_0 x0 x1 x2 x3 x4 x5 x6 x7 x8 x9 x10 x11)
         (.node 45 (x8 == x5)
          (.leaf (some (.tuple #[.int .i64 (IntKind.i64.wrap (0 + IntKind.i64.wrap (2 * IntKind.i64.wrap (IntKind.i64.wrap (0 + 1) + 1)))), .int .i64 (0)])))
          (.node 55 (x11 == x2)
           (.leaf (some (.tuple #[.int .i64 (IntKind.i64.wrap (1 + IntKind.i64.wrap (2 * IntKind.i64.wrap (IntKind.i64.wrap (0 + 1) + 1)))), .int .i64 (0)])))
           (.leaf (some (.tuple #[.int .i64 (0), .int .i64 (9)])))))
         (.leaf (some (.tuple #[.int .i64 (0), .int .i64 (9)]))))))
      (.node 37 (box_beside_at2_0 x0 x1 x2 x3 x4 x5 x6 x7 x8 x9 x10 x11)
       (.node 45 (x8 == x5)
        (.leaf (some (.tuple #[.int .i64 (IntKind.i64.wrap (0 + IntKind.i64.wrap (2 * IntKind.i64.wrap (IntKind.i64.wrap (0 + 1) + 1)))), .int .i64 (0)])))
        (.node 55 (x11 == x2)
         (.leaf (some (.tuple #[.int .i64 (IntKind.i64.wrap (1 + IntKind.i64.wrap (2 * IntKind.i64.wrap (IntKind.i64.wrap (0 + 1) + 1)))), .int .i64 (0)])))
         (.leaf (some (.tuple #[.int .i64 (0), .int .i64 (9)])))))
       (.leaf (some (.tuple #[.int .i64 (0), .int .i64 (9)])))))))
   (.node 17 (false)
    (.leaf (some (.tuple #[.int .i64 (0), .int .i64 (0)])))
    (.node 37 (box_beside_at0_0 x0 x1 x2 x3 x4 x5 x6 x7 x8 x9 x10 x11)
     (.node 45 (x6 == x3)
      (.leaf (some (.tuple #[.int .i64 (IntKind.i64.wrap (0 + IntKind.i64.wrap (2 * 0))), .int .i64 (0)])))
      (.node 55 (x9 == x0)
       (.leaf (some (.tuple #[.int .i64 (IntKind.i64.wrap (1 + IntKind.i64.wrap (2 * 0))), .int .i64 (0)])))
       (.node 37 (box_beside_at1_0 x0 x1 x2 x3 x4 x5 x6 x7 x8 x9 x10 x11)
        (.node 45 (x7 == x4)
         (.leaf (some (.tuple #[.int .i64 (IntKind.i64.wrap (0 + IntKind.i64.wrap (2 * IntKind.i64.wrap (0 + 1)))), .int .i64 (0)])))
         (.node 55 (x10 == x1)
          (.leaf (some (.tuple #[.int .i64 (IntKind.i64.wrap (1 + IntKind.i64.wrap (2 * IntKind.i64.wrap (0 + 1)))), .int .i64 (0)])))
          (.node 37 (box_beside_at2_0 x0 x1 x2 x3 x4 x5 x6 x7 x8 x9 x10 x11)
           (.node 45 (x8 == x5)
            (.leaf (some (.tuple #[.int .i64 (IntKind.i64.wrap (0 + IntKind.i64.wrap (2 * IntKind.i64.wrap (IntKind.i64.wrap (0 + 1) + 1)))), .int .i64 (0)])))
            (.node 55 (x11 == x2)
             (.leaf (some (.tuple #[.int .i64 (IntKind.i64.wrap (1 + IntKind.i64.wrap (2 * IntKind.i64.wrap (IntKind.i64.wrap (0 + 1) + 1)))), .int .i64 (0)])))
             (.leaf (some (.tuple #[.int .i64 (0), .int .i64 (9)])))))
           (.leaf (some (.tuple #[.int .i64 (0), .int .i64 (9)]))))))
        (.node 37 (box_beside_at2_0 x0 x1 x2 x3 x4 x5 x6 x7 x8 x9 x10 x11)
         (.node 45 (x8 == x5)
          (.leaf (some (.tuple #[.int .i64 (IntKind.i64.wrap (0 + IntKind.i64.wrap (2 * IntKind.i64.wrap (IntKind.i64.wrap (0 + 1) + 1)))), .int .i64 (0)])))
          (.node 55 (x11 == x2)
           (.leaf (some (.tuple #[.int .i64 (IntKind.i64.wrap (1 + IntKind.i64.wrap (2 * IntKind.i64.wrap (IntKind.i64.wrap (0 + 1) + 1)))), .int .i64 (0)])))
           (.leaf (some (.tuple #[.int .i64 (0), .int .i64 (9)])))))
         (.leaf (some (.tuple #[.int .i64 (0), .int .i64 (9)])))))))
     (.node 37 (box_beside_at1_0 x0 x1 x2 x3 x4 x5 x6 x7 x8 x9 x10 x11)
      (.node 45 (x7 == x4)
       (.leaf (some (.tuple #[.int .i64 (IntKind.i64.wrap (0 + IntKind.i64.wrap (2 * IntKind.i64.wrap (0 + 1)))), .int .i64 (0)])))
       (.node 55 (x10 == x1)
        (.leaf (some (.tuple #[.int .i64 (IntKind.i64.wrap (1 + IntKind.i64.wrap (2 * IntKind.i64.wrap (0 + 1)))), .int .i64 (0)])))
        (.node 37 (box_beside_at2_0 x0 x1 x2 x3 x4 x5 x6 x7 x8 x9 x10 x11)
         (.node 45 (x8 == x5)
          (.leaf (some (.tuple #[.int .i64 (IntKind.i64.wrap (0 + IntKind.i64.wrap (2 * IntKind.i64.wrap (IntKind.i64.wrap (0 + 1) + 1)))), .int .i64 (0)])))
          (.node 55 (x11 == x2)
           (.leaf (some (.tuple #[.int .i64 (IntKind.i64.wrap (1 + IntKind.i64.wrap (2 * IntKind.i64.wrap (IntKind.i64.wrap (0 + 1) + 1)))), .int .i64 (0)])))
           (.leaf (some (.tuple #[.int .i64 (0), .int .i64 (9)])))))
         (.leaf (some (.tuple #[.int .i64 (0), .int .i64 (9)]))))))
      (.node 37 (box_beside_at2_0 x0 x1 x2 x3 x4 x5 x6 x7 x8 x9 x10 x11)
       (.node 45 (x8 == x5)
        (.leaf (some (.tuple #[.int .i64 (IntKind.i64.wrap (0 + IntKind.i64.wrap (2 * IntKind.i64.wrap (IntKind.i64.wrap (0 + 1) + 1)))), .int .i64 (0)])))
        (.node 55 (x11 == x2)
         (.leaf (some (.tuple #[.int .i64 (IntKind.i64.wrap (1 + IntKind.i64.wrap (2 * IntKind.i64.wrap (IntKind.i64.wrap (0 + 1) + 1)))), .int .i64 (0)])))
         (.leaf (some (.tuple #[.int .i64 (0), .int .i64 (9)])))))
       (.leaf (some (.tuple #[.int .i64 (0), .int .i64 (9)]))))))))
theorem tree31_eq (x0 x1 x2 x3 x4 x5 x6 x7 x8 x9 x10 x11 : Int) : vals (evFnT Try.prog (tb Try.prog tab21) (tbT Try.prog tab21) ⟨[(17, 0), (37, 0), (45, 0), (55, 0)], [], []⟩ noLoops 300 31 #[.agg #[.int .i64 x0, .int .i64 x1, .int .i64 x2, .int .i64 x3, .int .i64 x4, .int .i64 x5], .agg #[.int .i64 x6, .int .i64 x7, .int .i64 x8, .int .i64 x9, .int .i64 x10, .int .i64 x11]] []) = tree31 x0 x1 x2 x3 x4 x5 x6 x7 x8 x9 x10 x11 := by kernel_rfl
theorem tree31_res (x0 x1 x2 x3 x4 x5 x6 x7 x8 x9 x10 x11 : Int) : (tree31 x0 x1 x2 x3 x4 x5 x6 x7 x8 x9 x10 x11).res = some (.tuple #[.int .i64 (box_Touch_0 x0 x1 x2 x3 x4 x5 x6 x7 x8 x9 x10 x11), .int .i64 (box_Touch_1 x0 x1 x2 x3 x4 x5 x6 x7 x8 x9 x10 x11)]) := by
  unfold tree31 box_Touch_0 box_Touch_1
  simp only [Tr.res]
  generalize (box_Check_0 x0 x1 x2 x3 x4 x5 != 0) = b0
  generalize (box_beside_at0_0 x0 x1 x2 x3 x4 x5 x6 x7 x8 x9 x10 x11) = b1
  generalize (x6 == x3) = b2
  generalize (x9 == x0) = b3
  generalize (box_beside_at1_0 x0 x1 x2 x3 x4 x5 x6 x7 x8 x9 x10 x11) = b4
  generalize (x7 == x4) = b5
  generalize (x10 == x1) = b6
  generalize (box_beside_at2_0 x0 x1 x2 x3 x4 x5 x6 x7 x8 x9 x10 x11) = b7
  generalize (x8 == x5) = b8
  generalize (x11 == x2) = b9
  generalize (box_Check_0 x6 x7 x8 x9 x10 x11 != 0) = b10
  cases b0 with
  | true =>
   first | (simp only [if_true, Bool.false_eq_true, if_false]; done) | rfl
  | false =>
   cases b10 with
   | true =>
    first | (simp only [if_true, Bool.false_eq_true, if_false]; done) | rfl
   | false =>
    cases b1 with
    | true =>
     cases b2 with
     | true =>
      first | (simp only [if_true, Bool.false_eq_true, if_false]; done) | rfl
     | false =>
      cases b3 with
      | true =>
       first | (simp only [if_true, Bool.false_eq_true, if_false]; done) | rfl
      | false =>
       cases b4 with
       | true =>
        cases b5 with
        | true =>
         first | (simp only [if_true, Bool.false_eq_true, if_false]; done) | rfl
        | false =>
         cases b6 with
         | true =>
          first | (simp only [if_true, Bool.false_eq_true, if_false]; done) | rfl
         | false =>
          cases b7 with
          | true =>
           cases b8 with
           | true =>
            first | (simp only [if_true, Bool.false_eq_true, if_false]; done) | rfl
           | false =>
            cases b9 with
            | true =>
             first | (simp only [if_true, Bool.false_eq_true, if_false]; done) | rfl
            | false =>
             first | (simp only [if_true, Bool.false_eq_true, if_false]; done) | rfl
          | false =>
           first | (simp only [if_true, Bool.false_eq_true, if_false]; done) | rfl
       | false =>
        cases b7 with
        | true =>
         cases b8 with
         | true =>
          first | (simp only [if_true, Bool.false_eq_true, if_false]; done) | rfl
         | false =>
          cases b9 with
          | true =>
           first | (simp only [if_true, Bool.false_eq_true, if_false]; done) | rfl
          | false =>
           first | (simp only [if_true, Bool.false_eq_true, if_false]; done) | rfl
        | false =>
         first | (simp only [if_true, Bool.false_eq_true, if_false]; done) | rfl
    | false =>
     cases b4 with
     | true =>
      cases b5 with
      | true =>
       first | (simp only [if_true, Bool.false_eq_true, if_false]; done) | rfl
      | false =>
       cases b6 with
       | true =>
        first | (simp only [if_true, Bool.false_eq_true, if_false]; done) | rfl
       | false =>
        cases b7 with
        | true =>
         cases b8 with
         | true =>
          first | (simp only [if_true, Bool.false_eq_true, if_false]; done) | rfl
         | false =>
          cases b9 with
          | true =>
           first | (simp only [if_true, Bool.false_eq_true, if_false]; done) | rfl
          | false =>
           first | (simp only [if_true, Bool.false_eq_true, if_false]; done) | rfl
        | false =>
         first | (simp only [if_true, Bool.false_eq_true, if_false]; done) | rfl
     | false =>
      cases b7 with
      | true =>
       cases b8 with
       | true =>
        first | (simp only [if_true, Bool.false_eq_true, if_false]; done) | rfl
       | false =>
        cases b9 with
        | true =>
         first | (simp only [if_true, Bool.false_eq_true, if_false]; done) | rfl
        | false =>
         first | (simp only [if_true, Bool.false_eq_true, if_false]; done) | rfl
      | false =>
       first | (simp only [if_true, Bool.false_eq_true, if_false]; done) | rfl
theorem tab22_ok : TabOk Try.prog tab22 := tab_cons mixed tab21_ok (by decide) fun args v h => by
  unfold ans31 at h
  split at h
  · rename_i c0 c1 h0
    split at h
    · rename_i x0 x1 x2 x3 x4 x5 x6 x7 x8 x9 x10 x11 h1 h2
      injection h with h; subst h
      obtain rfl : c0 = #[.int .i64 x0, .int .i64 x1, .int .i64 x2, .int .i64 x3, .int .i64 x4, .int .i64 x5] := by rw [← Array.toArray_toList (xs := c0), h1]
      obtain rfl : c1 = #[.int .i64 x6, .int .i64 x7, .int .i64 x8, .int .i64 x9, .int .i64 x10, .int .i64 x11] := by rw [← Array.toArray_toList (xs := c1), h2]
      obtain rfl : args = #[.agg #[.int .i64 x0, .int .i64 x1, .int .i64 x2, .int .i64 x3, .int .i64 x4, .int .i64 x5], .agg #[.int .i64 x6, .int .i64 x7, .int .i64 x8, .int .i64 x9, .int .i64 x10, .int .i64 x11]] := by rw [← Array.toArray_toList (xs := args), h0]
      exact ⟨rfl, rfl, ⟨[(17, 0), (37, 0), (45, 0), (55, 0)], [], []⟩, 300, by rw [tree31_eq]; exact tree31_res _ _ _ _ _ _ _ _ _ _ _ _⟩
    · cases h
  · cases h
end Go.Proofs.Ytgpcgcflmimnbaa.Vx
