/- The answers of New and of its reference, and of FractionNew itself. -/
import Derived.Test.YtfpcmckachpnpaaDoorD6
namespace Go.Proofs.YtfpcmckachpnpaaDoor.Vx
open Go Go.RowKit Go.Proofs
set_option maxRecDepth 100000
set_option linter.unusedVariables false
set_option linter.unusedSimpArgs false

/- gangsaw/fraction.New -/
def fraction_New_ok (x0 x1 : Int) : Bool :=
  if x1 == 0 then (Bool.true) else if gcdA (fraction_size_0 x0) (fraction_size_0 x1) == 0 then (Bool.false) else if gcdA (fraction_size_0 x0) (fraction_size_0 x1) == 0 then (Bool.false) else (Bool.true)
def fraction_New_0 (x0 x1 : Int) : Int :=
  if x1 == 0 then (0) else (bounded_0 (!Decidable.decide (x0 < 0) == Decidable.decide (x1 < 0)) 0 (IntKind.u64.wrap ((fraction_size_0 x0).tdiv (gcdA (fraction_size_0 x0) (fraction_size_0 x1)))) 0 (IntKind.u64.wrap ((fraction_size_0 x1).tdiv (gcdA (fraction_size_0 x0) (fraction_size_0 x1)))))
def fraction_New_1 (x0 x1 : Int) : Int :=
  if x1 == 0 then (0) else (bounded_1 0 (IntKind.u64.wrap ((fraction_size_0 x0).tdiv (gcdA (fraction_size_0 x0) (fraction_size_0 x1)))) 0 (IntKind.u64.wrap ((fraction_size_0 x1).tdiv (gcdA (fraction_size_0 x0) (fraction_size_0 x1)))))
def fraction_New_2 (x0 x1 : Int) : Int :=
  if x1 == 0 then (1) else (bounded_2 0 (IntKind.u64.wrap ((fraction_size_0 x0).tdiv (gcdA (fraction_size_0 x0) (fraction_size_0 x1)))) 0 (IntKind.u64.wrap ((fraction_size_0 x1).tdiv (gcdA (fraction_size_0 x0) (fraction_size_0 x1)))))
def ans11 : Array Value → Option (Bool × Value) := fun args => match args.toList with
  | [.int .i64 x0, .int .i64 x1] => some (fraction_New_ok x0 x1, .tuple #[.agg #[.int .i64 (fraction_New_0 x0 x1), .int .i64 (fraction_New_1 x0 x1)], .int .i64 (fraction_New_2 x0 x1)])
  | _ => none
def tab41 : Tab := (11, .cond ans11) :: tab40
def tree11 (x0 x1 : Int) : Tr Value :=
  .node 10 (x1 == 0)
  (.leaf (some (.tuple #[.agg #[.int .i64 (0), .int .i64 (0)], .int .i64 (1)])))
  (.node 26 (gcdA (fraction_size_0 x0) (fraction_size_0 x1) == 0)
   (.leaf none)
   (.node 30 (gcdA (fraction_size_0 x0) (fraction_size_0 x1) == 0)
    (.leaf none)
    (.leaf (some (.tuple #[.agg #[.int .i64 (bounded_0 (!Decidable.decide (x0 < 0) == Decidable.decide (x1 < 0)) 0 (IntKind.u64.wrap ((fraction_size_0 x0).tdiv (gcdA (fraction_size_0 x0) (fraction_size_0 x1)))) 0 (IntKind.u64.wrap ((fraction_size_0 x1).tdiv (gcdA (fraction_size_0 x0) (fraction_size_0 x1))))), .int .i64 (bounded_1 0 (IntKind.u64.wrap ((fraction_size_0 x0).tdiv (gcdA (fraction_size_0 x0) (fraction_size_0 x1)))) 0 (IntKind.u64.wrap ((fraction_size_0 x1).tdiv (gcdA (fraction_size_0 x0) (fraction_size_0 x1)))))], .int .i64 (bounded_2 0 (IntKind.u64.wrap ((fraction_size_0 x0).tdiv (gcdA (fraction_size_0 x0) (fraction_size_0 x1)))) 0 (IntKind.u64.wrap ((fraction_size_0 x1).tdiv (gcdA (fraction_size_0 x0) (fraction_size_0 x1)))))])))))
theorem tree11_eq (x0 x1 : Int) : vals (evFnT Tryd.prog (tb Tryd.prog tab40) (tbT Tryd.prog tab40) ⟨[(10, 0), (26, 0), (30, 0)], [], []⟩ noLoops 300 11 #[.int .i64 x0, .int .i64 x1] []) = tree11 x0 x1 := by kernel_rfl
theorem tree11_res (x0 x1 : Int) : (tree11 x0 x1).res = if fraction_New_ok x0 x1 = true then some (.tuple #[.agg #[.int .i64 (fraction_New_0 x0 x1), .int .i64 (fraction_New_1 x0 x1)], .int .i64 (fraction_New_2 x0 x1)]) else none := by
  unfold tree11 fraction_New_ok fraction_New_0 fraction_New_1 fraction_New_2
  simp only [Tr.res]
  generalize (x1 == 0) = b0
  generalize (gcdA (fraction_size_0 x0) (fraction_size_0 x1) == 0) = b1
  cases b0 with
  | true =>
   first | (simp only [if_true, Bool.false_eq_true, if_false]; done) | rfl
  | false =>
   cases b1 with
   | true =>
    first | (simp only [if_true, Bool.false_eq_true, if_false]; done) | rfl
   | false =>
    first | (simp only [if_true, Bool.false_eq_true, if_false]; done) | rfl
theorem tab41_ok : TabOk Tryd.prog tab41 := tab_cond mixed tab40_ok (by decide) fun args b v h hb => by
  unfold ans11 at h
  split at h
  · rename_i x0 x1 h0
    injection h with h; injection h with h1 h2; subst h1 h2
    obtain rfl : args = #[.int .i64 x0, .int .i64 x1] := by rw [← Array.toArray_toList (xs := args), h0]
    exact ⟨rfl, rfl, ⟨[(10, 0), (26, 0), (30, 0)], [], []⟩, 300, by rw [tree11_eq, tree11_res, if_pos hb]⟩
  · cases h

/- gangsaw/gangsawref04.one -/
def ans42 : Ans := fun args => match args.toList with
  | [.int .i64 x0] => some (.agg #[.int .u64 (ref04_times_0 x0 1), .int .u64 (ref04_times_1 x0 1), .bool (ref04_times_2 x0 1)])
  | _ => none
def tab42 : Tab := (42, .ans ans42) :: tab41
def tree42 (x0 : Int) : Tr Value :=
  .leaf (some (.agg #[.int .u64 (ref04_times_0 x0 1), .int .u64 (ref04_times_1 x0 1), .bool (ref04_times_2 x0 1)]))
theorem tree42_eq (x0 : Int) : vals (evFnT Tryd.prog (tb Tryd.prog tab41) (tbT Tryd.prog tab41) ⟨[], [], []⟩ noLoops 300 42 #[.int .i64 x0] []) = tree42 x0 := by kernel_rfl
theorem tree42_res (x0 : Int) : (tree42 x0).res = some (.agg #[.int .u64 (ref04_times_0 x0 1), .int .u64 (ref04_times_1 x0 1), .bool (ref04_times_2 x0 1)]) := by
  rfl
theorem tab42_ok : TabOk Tryd.prog tab42 := tab_cons mixed tab41_ok (by decide) fun args v h => by
  unfold ans42 at h
  split at h
  · rename_i x0 h0
    injection h with h; subst h
    obtain rfl : args = #[.int .i64 x0] := by rw [← Array.toArray_toList (xs := args), h0]
    exact ⟨rfl, rfl, ⟨[], [], []⟩, 300, by rw [tree42_eq]; exact tree42_res _⟩
  · cases h

/- gangsaw/gangsawref04.New -/
def ref04_New_ok (x0 x1 : Int) : Bool :=
  if x1 == 0 then (Bool.true) else if inU (ref04_times_0 x0 1) && (inU (ref04_times_1 x0 1) && (inU (ref04_times_0 x1 1) && (inU (ref04_times_1 x1 1) && Decidable.decide (w128 (ref04_times_0 x1 1) (ref04_times_1 x1 1) > 0)))) then (Bool.true) else (Bool.false)
def ref04_New_0 (x0 x1 : Int) : Int :=
  if x1 == 0 then (0) else (lowest_0 (w128 (ref04_times_0 x0 1) (ref04_times_1 x0 1) / gW (ref04_times_0 x1 1) (ref04_times_1 x1 1) (ref04_times_0 x0 1) (ref04_times_1 x0 1)) (w128 (ref04_times_0 x1 1) (ref04_times_1 x1 1) / gW (ref04_times_0 x1 1) (ref04_times_1 x1 1) (ref04_times_0 x0 1) (ref04_times_1 x0 1)) !ref04_times_2 x0 1 == ref04_times_2 x1 1)
def ref04_New_1 (x0 x1 : Int) : Int :=
  if x1 == 0 then (0) else (lowest_1 (w128 (ref04_times_0 x0 1) (ref04_times_1 x0 1) / gW (ref04_times_0 x1 1) (ref04_times_1 x1 1) (ref04_times_0 x0 1) (ref04_times_1 x0 1)) (w128 (ref04_times_0 x1 1) (ref04_times_1 x1 1) / gW (ref04_times_0 x1 1) (ref04_times_1 x1 1) (ref04_times_0 x0 1) (ref04_times_1 x0 1)))
def ref04_New_2 (x0 x1 : Int) : Int :=
  if x1 == 0 then (1) else (lowest_2 (w128 (ref04_times_0 x0 1) (ref04_times_1 x0 1) / gW (ref04_times_0 x1 1) (ref04_times_1 x1 1) (ref04_times_0 x0 1) (ref04_times_1 x0 1)) (w128 (ref04_times_0 x1 1) (ref04_times_1 x1 1) / gW (ref04_times_0 x1 1) (ref04_times_1 x1 1) (ref04_times_0 x0 1) (ref04_times_1 x0 1)))
def ans12 : Array Value → Option (Bool × Value) := fun args => match args.toList with
  | [.int .i64 x0, .int .i64 x1] => some (ref04_New_ok x0 x1, .tuple #[.agg #[.int .i64 (ref04_New_0 x0 x1), .int .i64 (ref04_New_1 x0 x1)], .int .i64 (ref04_New_2 x0 x1)])
  | _ => none
def tab43 : Tab := (12, .cond ans12) :: tab42
def tree12 (x0 x1 : Int) : Tr Value :=
  .node 9 (x1 == 0)
  (.leaf (some (.tuple #[.agg #[.int .i64 (0), .int .i64 (0)], .int .i64 (1)])))
  (.node 0 (inU (ref04_times_0 x0 1) && (inU (ref04_times_1 x0 1) && (inU (ref04_times_0 x1 1) && (inU (ref04_times_1 x1 1) && Decidable.decide (w128 (ref04_times_0 x1 1) (ref04_times_1 x1 1) > 0)))))
   (.leaf (some (.tuple #[.agg #[.int .i64 (lowest_0 (w128 (ref04_times_0 x0 1) (ref04_times_1 x0 1) / gW (ref04_times_0 x1 1) (ref04_times_1 x1 1) (ref04_times_0 x0 1) (ref04_times_1 x0 1)) (w128 (ref04_times_0 x1 1) (ref04_times_1 x1 1) / gW (ref04_times_0 x1 1) (ref04_times_1 x1 1) (ref04_times_0 x0 1) (ref04_times_1 x0 1)) !ref04_times_2 x0 1 == ref04_times_2 x1 1), .int .i64 (lowest_1 (w128 (ref04_times_0 x0 1) (ref04_times_1 x0 1) / gW (ref04_times_0 x1 1) (ref04_times_1 x1 1) (ref04_times_0 x0 1) (ref04_times_1 x0 1)) (w128 (ref04_times_0 x1 1) (ref04_times_1 x1 1) / gW (ref04_times_0 x1 1) (ref04_times_1 x1 1) (ref04_times_0 x0 1) (ref04_times_1 x0 1)))], .int .i64 (lowest_2 (w128 (ref04_times_0 x0 1) (ref04_times_1 x0 1) / gW (ref04_times_0 x1 1) (ref04_times_1 x1 1) (ref04_times_0 x0 1) (ref04_times_1 x0 1)) (w128 (ref04_times_0 x1 1) (ref04_times_1 x1 1) / gW (ref04_times_0 x1 1) (ref04_times_1 x1 1) (ref04_times_0 x0 1) (ref04_times_1 x0 1)))])))
   (.leaf none))
theorem tree12_eq (x0 x1 : Int) : vals (evFnT Tryd.prog (tb Tryd.prog tab42) (tbT Tryd.prog tab42) ⟨[(9, 0)], [], []⟩ noLoops 300 12 #[.int .i64 x0, .int .i64 x1] []) = tree12 x0 x1 := by kernel_rfl
theorem tree12_res (x0 x1 : Int) : (tree12 x0 x1).res = if ref04_New_ok x0 x1 = true then some (.tuple #[.agg #[.int .i64 (ref04_New_0 x0 x1), .int .i64 (ref04_New_1 x0 x1)], .int .i64 (ref04_New_2 x0 x1)]) else none := by
  unfold tree12 ref04_New_ok ref04_New_0 ref04_New_1 ref04_New_2
  simp only [Tr.res]
  generalize (x1 == 0) = b0
  generalize (inU (ref04_times_0 x0 1) && (inU (ref04_times_1 x0 1) && (inU (ref04_times_0 x1 1) && (inU (ref04_times_1 x1 1) && Decidable.decide (w128 (ref04_times_0 x1 1) (ref04_times_1 x1 1) > 0))))) = b1
  cases b0 with
  | true =>
   first | (simp only [if_true, Bool.false_eq_true, if_false]; done) | rfl
  | false =>
   cases b1 with
   | true =>
    first | (simp only [if_true, Bool.false_eq_true, if_false]; done) | rfl
   | false =>
    first | (simp only [if_true, Bool.false_eq_true, if_false]; done) | rfl
theorem tab43_ok : TabOk Tryd.prog tab43 := tab_cond mixed tab42_ok (by decide) fun args b v h hb => by
  unfold ans12 at h
  split at h
  · rename_i x0 x1 h0
    injection h with h; injection h with h1 h2; subst h1 h2
    obtain rfl : args = #[.int .i64 x0, .int .i64 x1] := by rw [← Array.toArray_toList (xs := args), h0]
    exact ⟨rfl, rfl, ⟨[(9, 0)], [], []⟩, 300, by rw [tree12_eq, tree12_res, if_pos hb]⟩
  · cases h

/- gangsaw/gangsawlaw04.FractionNew -/
def law04_FractionNew_ok (x0 x1 _x2 _x3 : Int) : Bool :=
  if fraction_New_ok x0 x1 then (if ref04_New_ok x0 x1 then (Bool.true) else (Bool.false)) else (Bool.false)
def law04_FractionNew_0 (x0 x1 x2 x3 : Int) : Bool :=
  if fraction_New_2 x0 x1 == ref04_New_2 x0 x1 then (if fraction_New_0 x0 x1 == ref04_New_0 x0 x1 && (fraction_New_1 x0 x1 == ref04_New_1 x0 x1 && Bool.true) then (if fraction_Valid_0 x2 x3 then (if ref04_Valid_0 x2 x3 then (if fraction_New_2 x0 x1 != 0 then (Bool.true) else if fraction_Valid_0 (fraction_New_0 x0 x1) (fraction_New_1 x0 x1) then (Bool.true) else (Bool.false)) else (Bool.false)) else if ref04_Valid_0 x2 x3 then (Bool.false) else if fraction_New_2 x0 x1 != 0 then (Bool.true) else if fraction_Valid_0 (fraction_New_0 x0 x1) (fraction_New_1 x0 x1) then (Bool.true) else (Bool.false)) else (Bool.false)) else (Bool.false)
def ans3 : Array Value → Option (Bool × Value) := fun args => match args.toList with
  | [.int .i64 x0, .int .i64 x1, .agg c2] => match c2.toList with
    | [.int .i64 x2, .int .i64 x3] => some (law04_FractionNew_ok x0 x1 x2 x3, .bool (law04_FractionNew_0 x0 x1 x2 x3))
    | _ => none
  | _ => none
def tab44 : Tab := (3, .cond ans3) :: tab43
def tree3 (x0 x1 x2 x3 : Int) : Tr Value :=
  .node 0 (fraction_New_ok x0 x1)
  (.node 0 (ref04_New_ok x0 x1)
   (.node 27 (fraction_New_2 x0 x1 == ref04_New_2 x0 x1)
    (.node 32 (fraction_New_0 x0 x1 == ref04_New_0 x0 x1 && (fraction_New_1 x0 x1 == ref04_New_1 x0 x1 && Bool.true))
     (.node 36 (fraction_Valid_0 x2 x3)
      (.node 38 (ref04_Valid_0 x2 x3)
       (.node 43 (fraction_New_2 x0 x1 != 0)
        (.leaf (some (.bool (Bool.true))))
        (.node 46 (fraction_Valid_0 (fraction_New_0 x0 x1) (fraction_New_1 x0 x1))
         (.leaf (some (.bool (Bool.true))))
         (.leaf (some (.bool (Bool.false))))))
       (.leaf (some (.bool (Bool.false)))))
      (.node 38 (ref04_Valid_0 x2 x3)
       (.leaf (some (.bool (Bool.false))))
       (.node 43 (fraction_New_2 x0 x1 != 0)
        (.leaf (some (.bool (Bool.true))))
        (.node 46 (fraction_Valid_0 (fraction_New_0 x0 x1) (fraction_New_1 x0 x1))
         (.leaf (some (.bool (Bool.true))))
         (.leaf (some (.bool (Bool.false))))))))
     (.leaf (some (.bool (Bool.false)))))
    (.leaf (some (.bool (Bool.false)))))
   (.leaf none))
  (.leaf none)
theorem tree3_eq (x0 x1 x2 x3 : Int) : vals (evFnT Tryd.prog (tb Tryd.prog tab43) (tbT Tryd.prog tab43) ⟨[(27, 0), (32, 0), (36, 0), (38, 0), (43, 0), (46, 0)], [], []⟩ noLoops 300 3 #[.int .i64 x0, .int .i64 x1, .agg #[.int .i64 x2, .int .i64 x3]] []) = tree3 x0 x1 x2 x3 := by kernel_rfl
theorem tree3_res (x0 x1 x2 x3 : Int) : (tree3 x0 x1 x2 x3).res = if law04_FractionNew_ok x0 x1 x2 x3 = true then some (.bool (law04_FractionNew_0 x0 x1 x2 x3)) else none := by
  unfold tree3 law04_FractionNew_ok law04_FractionNew_0
  simp only [Tr.res]
  generalize (fraction_New_ok x0 x1) = b0
  generalize (ref04_New_ok x0 x1) = b1
  generalize (fraction_New_2 x0 x1 == ref04_New_2 x0 x1) = b2
  generalize (fraction_New_0 x0 x1 == ref04_New_0 x0 x1 && (fraction_New_1 x0 x1 == ref04_New_1 x0 x1 && Bool.true)) = b3
  generalize (fraction_Valid_0 x2 x3) = b4
  generalize (ref04_Valid_0 x2 x3) = b5
  generalize (fraction_New_2 x0 x1 != 0) = b6
  generalize (fraction_Valid_0 (fraction_New_0 x0 x1) (fraction_New_1 x0 x1)) = b7
  cases b0 with
  | true =>
   cases b1 with
   | true =>
    cases b2 with
    | true =>
     cases b3 with
     | true =>
      cases b4 with
      | true =>
       cases b5 with
       | true =>
        cases b6 with
        | true =>
         first | (simp only [if_true, Bool.false_eq_true, if_false]; done) | rfl
        | false =>
         cases b7 with
         | true =>
          first | (simp only [if_true, Bool.false_eq_true, if_false]; done) | rfl
         | false =>
          first | (simp only [if_true, Bool.false_eq_true, if_false]; done) | rfl
       | false =>
        first | (simp only [if_true, Bool.false_eq_true, if_false]; done) | rfl
      | false =>
       cases b5 with
       | true =>
        first | (simp only [if_true, Bool.false_eq_true, if_false]; done) | rfl
       | false =>
        cases b6 with
        | true =>
         first | (simp only [if_true, Bool.false_eq_true, if_false]; done) | rfl
        | false =>
         cases b7 with
         | true =>
          first | (simp only [if_true, Bool.false_eq_true, if_false]; done) | rfl
         | false =>
          first | (simp only [if_true, Bool.false_eq_true, if_false]; done) | rfl
     | false =>
      first | (simp only [if_true, Bool.false_eq_true, if_false]; done) | rfl
    | false =>
     first | (simp only [if_true, Bool.false_eq_true, if_false]; done) | rfl
   | false =>
    first | (simp only [if_true, Bool.false_eq_true, if_false]; done) | rfl
  | false =>
   first | (simp only [if_true, Bool.false_eq_true, if_false]; done) | rfl
theorem tab44_ok : TabOk Tryd.prog tab44 := tab_cond mixed tab43_ok (by decide) fun args b v h hb => by
  unfold ans3 at h
  split at h
  · rename_i x0 x1 c2 h0
    split at h
    · rename_i x2 x3 k1
      injection h with h; injection h with h1 h2; subst h1 h2
      obtain rfl : c2 = #[.int .i64 x2, .int .i64 x3] := by rw [← Array.toArray_toList (xs := c2), k1]
      obtain rfl : args = #[.int .i64 x0, .int .i64 x1, .agg #[.int .i64 x2, .int .i64 x3]] := by rw [← Array.toArray_toList (xs := args), h0]
      exact ⟨rfl, rfl, ⟨[(27, 0), (32, 0), (36, 0), (38, 0), (43, 0), (46, 0)], [], []⟩, 300, by rw [tree3_eq, tree3_res, if_pos hb]⟩
    · cases h
  · cases h
end Go.Proofs.YtfpcmckachpnpaaDoor.Vx
