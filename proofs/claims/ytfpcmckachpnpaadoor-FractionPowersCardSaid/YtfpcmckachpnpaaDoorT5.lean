/- The answers of functions, read off their texts. -/
import Derived.Test.YtfpcmckachpnpaaDoorX17
import Derived.Test.YtfpcmckachpnpaaDoorProg
import Derived.Test.YtfpcmckachpnpaaDoorD7
namespace Go.Proofs.YtfpcmckachpnpaaDoor.Vx
open Go Go.RowKit Go.Proofs
set_option maxRecDepth 100000
set_option linter.unusedVariables false
set_option linter.unusedSimpArgs false
/- gangsaw/fraction.product -/
def o50 : Opts := ⟨[(28, 0), (33, 0), (39, 0), (44, 0)], [], []⟩
def fraction_product_ok (x0 : Int) (x1 : Int) (x2 : Int) (x3 : Int) : Bool :=
  if gcdA (fraction_size_0 x0) (fraction_size_0 x3) == (0 : Int) then (Bool.false) else if gcdA (fraction_size_0 x2) (fraction_size_0 x1) == (0 : Int) then (Bool.false) else if fraction_times_ok (IntKind.u64.wrap ((fraction_size_0 x0).tdiv (gcdA (fraction_size_0 x0) (fraction_size_0 x3)))) (IntKind.u64.wrap ((fraction_size_0 x2).tdiv (gcdA (fraction_size_0 x2) (fraction_size_0 x1)))) then (if gcdA (fraction_size_0 x2) (fraction_size_0 x1) == (0 : Int) then (Bool.false) else if gcdA (fraction_size_0 x0) (fraction_size_0 x3) == (0 : Int) then (Bool.false) else if fraction_times_ok (IntKind.u64.wrap ((fraction_size_0 x1).tdiv (gcdA (fraction_size_0 x2) (fraction_size_0 x1)))) (IntKind.u64.wrap ((fraction_size_0 x3).tdiv (gcdA (fraction_size_0 x0) (fraction_size_0 x3)))) then (Bool.true) else (Bool.false)) else (Bool.false)
def fraction_product_0 (x0 : Int) (x1 : Int) (x2 : Int) (x3 : Int) : Int :=
  (bounded_0 (!Decidable.decide (x0 < (0 : Int)) == Decidable.decide (x2 < (0 : Int))) (fraction_times_0 (IntKind.u64.wrap ((fraction_size_0 x0).tdiv (gcdA (fraction_size_0 x0) (fraction_size_0 x3)))) (IntKind.u64.wrap ((fraction_size_0 x2).tdiv (gcdA (fraction_size_0 x2) (fraction_size_0 x1))))) (fraction_times_1 (IntKind.u64.wrap ((fraction_size_0 x0).tdiv (gcdA (fraction_size_0 x0) (fraction_size_0 x3)))) (IntKind.u64.wrap ((fraction_size_0 x2).tdiv (gcdA (fraction_size_0 x2) (fraction_size_0 x1))))) (fraction_times_0 (IntKind.u64.wrap ((fraction_size_0 x1).tdiv (gcdA (fraction_size_0 x2) (fraction_size_0 x1)))) (IntKind.u64.wrap ((fraction_size_0 x3).tdiv (gcdA (fraction_size_0 x0) (fraction_size_0 x3))))) (fraction_times_1 (IntKind.u64.wrap ((fraction_size_0 x1).tdiv (gcdA (fraction_size_0 x2) (fraction_size_0 x1)))) (IntKind.u64.wrap ((fraction_size_0 x3).tdiv (gcdA (fraction_size_0 x0) (fraction_size_0 x3))))))
def fraction_product_1 (x0 : Int) (x1 : Int) (x2 : Int) (x3 : Int) : Int :=
  (bounded_1 (fraction_times_0 (IntKind.u64.wrap ((fraction_size_0 x0).tdiv (gcdA (fraction_size_0 x0) (fraction_size_0 x3)))) (IntKind.u64.wrap ((fraction_size_0 x2).tdiv (gcdA (fraction_size_0 x2) (fraction_size_0 x1))))) (fraction_times_1 (IntKind.u64.wrap ((fraction_size_0 x0).tdiv (gcdA (fraction_size_0 x0) (fraction_size_0 x3)))) (IntKind.u64.wrap ((fraction_size_0 x2).tdiv (gcdA (fraction_size_0 x2) (fraction_size_0 x1))))) (fraction_times_0 (IntKind.u64.wrap ((fraction_size_0 x1).tdiv (gcdA (fraction_size_0 x2) (fraction_size_0 x1)))) (IntKind.u64.wrap ((fraction_size_0 x3).tdiv (gcdA (fraction_size_0 x0) (fraction_size_0 x3))))) (fraction_times_1 (IntKind.u64.wrap ((fraction_size_0 x1).tdiv (gcdA (fraction_size_0 x2) (fraction_size_0 x1)))) (IntKind.u64.wrap ((fraction_size_0 x3).tdiv (gcdA (fraction_size_0 x0) (fraction_size_0 x3))))))
def fraction_product_2 (x0 : Int) (x1 : Int) (x2 : Int) (x3 : Int) : Int :=
  (bounded_2 (fraction_times_0 (IntKind.u64.wrap ((fraction_size_0 x0).tdiv (gcdA (fraction_size_0 x0) (fraction_size_0 x3)))) (IntKind.u64.wrap ((fraction_size_0 x2).tdiv (gcdA (fraction_size_0 x2) (fraction_size_0 x1))))) (fraction_times_1 (IntKind.u64.wrap ((fraction_size_0 x0).tdiv (gcdA (fraction_size_0 x0) (fraction_size_0 x3)))) (IntKind.u64.wrap ((fraction_size_0 x2).tdiv (gcdA (fraction_size_0 x2) (fraction_size_0 x1))))) (fraction_times_0 (IntKind.u64.wrap ((fraction_size_0 x1).tdiv (gcdA (fraction_size_0 x2) (fraction_size_0 x1)))) (IntKind.u64.wrap ((fraction_size_0 x3).tdiv (gcdA (fraction_size_0 x0) (fraction_size_0 x3))))) (fraction_times_1 (IntKind.u64.wrap ((fraction_size_0 x1).tdiv (gcdA (fraction_size_0 x2) (fraction_size_0 x1)))) (IntKind.u64.wrap ((fraction_size_0 x3).tdiv (gcdA (fraction_size_0 x0) (fraction_size_0 x3))))))
def ans50 : Array Value → Option (Bool × Value) := fun args => match args.toList with
  | [.agg c0, .agg c1] => match c0.toList, c1.toList with
    | [.int .i64 x0, .int .i64 x1], [.int .i64 x2, .int .i64 x3] => some (fraction_product_ok x0 x1 x2 x3, .tuple #[.agg #[.int .i64 (fraction_product_0 x0 x1 x2 x3), .int .i64 (fraction_product_1 x0 x1 x2 x3)], .int .i64 (fraction_product_2 x0 x1 x2 x3)])
    | _, _ => none
  | _ => none
def tab45 : Tab := (50, .cond ans50) :: tab44
theorem lok50z {fn : Func} {c : Code} (hf : Tryd.prog.funcs[50]? = some fn) (hb : fn.body = some c) : LOk Tryd.prog (tb Tryd.prog tab44) o50.hints 0 c (noLoops) := by
  exact LOk.none
def tree50 (x0 : Int) (x1 : Int) (x2 : Int) (x3 : Int) : Tr Value :=
  .node 28 (gcdA (fraction_size_0 x0) (fraction_size_0 x3) == (0 : Int))
  (.leaf none)
  (.node 33 (gcdA (fraction_size_0 x2) (fraction_size_0 x1) == (0 : Int))
   (.leaf none)
   (.node 0 (fraction_times_ok (IntKind.u64.wrap ((fraction_size_0 x0).tdiv (gcdA (fraction_size_0 x0) (fraction_size_0 x3)))) (IntKind.u64.wrap ((fraction_size_0 x2).tdiv (gcdA (fraction_size_0 x2) (fraction_size_0 x1)))))
    (.node 39 (gcdA (fraction_size_0 x2) (fraction_size_0 x1) == (0 : Int))
     (.leaf none)
     (.node 44 (gcdA (fraction_size_0 x0) (fraction_size_0 x3) == (0 : Int))
      (.leaf none)
      (.node 0 (fraction_times_ok (IntKind.u64.wrap ((fraction_size_0 x1).tdiv (gcdA (fraction_size_0 x2) (fraction_size_0 x1)))) (IntKind.u64.wrap ((fraction_size_0 x3).tdiv (gcdA (fraction_size_0 x0) (fraction_size_0 x3)))))
       (.leaf (some (.tuple #[.agg #[.int .i64 (bounded_0 (!Decidable.decide (x0 < (0 : Int)) == Decidable.decide (x2 < (0 : Int))) (fraction_times_0 (IntKind.u64.wrap ((fraction_size_0 x0).tdiv (gcdA (fraction_size_0 x0) (fraction_size_0 x3)))) (IntKind.u64.wrap ((fraction_size_0 x2).tdiv (gcdA (fraction_size_0 x2) (fraction_size_0 x1))))) (fraction_times_1 (IntKind.u64.wrap ((fraction_size_0 x0).tdiv (gcdA (fraction_size_0 x0) (fraction_size_0 x3)))) (IntKind.u64.wrap ((fraction_size_0 x2).tdiv (gcdA (fraction_size_0 x2) (fraction_size_0 x1))))) (fraction_times_0 (IntKind.u64.wrap ((fraction_size_0 x1).tdiv (gcdA (fraction_size_0 x2) (fraction_size_0 x1)))) (IntKind.u64.wrap ((fraction_size_0 x3).tdiv (gcdA (fraction_size_0 x0) (fraction_size_0 x3))))) (fraction_times_1 (IntKind.u64.wrap ((fraction_size_0 x1).tdiv (gcdA (fraction_size_0 x2) (fraction_size_0 x1)))) (IntKind.u64.wrap ((fraction_size_0 x3).tdiv (gcdA (fraction_size_0 x0) (fraction_size_0 x3)))))), .int .i64 (bounded_1 (fraction_times_0 (IntKind.u64.wrap ((fraction_size_0 x0).tdiv (gcdA (fraction_size_0 x0) (fraction_size_0 x3)))) (IntKind.u64.wrap ((fraction_size_0 x2).tdiv (gcdA (fraction_size_0 x2) (fraction_size_0 x1))))) (fraction_times_1 (IntKind.u64.wrap ((fraction_size_0 x0).tdiv (gcdA (fraction_size_0 x0) (fraction_size_0 x3)))) (IntKind.u64.wrap ((fraction_size_0 x2).tdiv (gcdA (fraction_size_0 x2) (fraction_size_0 x1))))) (fraction_times_0 (IntKind.u64.wrap ((fraction_size_0 x1).tdiv (gcdA (fraction_size_0 x2) (fraction_size_0 x1)))) (IntKind.u64.wrap ((fraction_size_0 x3).tdiv (gcdA (fraction_size_0 x0) (fraction_size_0 x3))))) (fraction_times_1 (IntKind.u64.wrap ((fraction_size_0 x1).tdiv (gcdA (fraction_size_0 x2) (fraction_size_0 x1)))) (IntKind.u64.wrap ((fraction_size_0 x3).tdiv (gcdA (fraction_size_0 x0) (fraction_size_0 x3))))))], .int .i64 (bounded_2 (fraction_times_0 (IntKind.u64.wrap ((fraction_size_0 x0).tdiv (gcdA (fraction_size_0 x0) (fraction_size_0 x3)))) (IntKind.u64.wrap ((fraction_size_0 x2).tdiv (gcdA (fraction_size_0 x2) (fraction_size_0 x1))))) (fraction_times_1 (IntKind.u64.wrap ((fraction_size_0 x0).tdiv (gcdA (fraction_size_0 x0) (fraction_size_0 x3)))) (IntKind.u64.wrap ((fraction_size_0 x2).tdiv (gcdA (fraction_size_0 x2) (fraction_size_0 x1))))) (fraction_times_0 (IntKind.u64.wrap ((fraction_size_0 x1).tdiv (gcdA (fraction_size_0 x2) (fraction_size_0 x1)))) (IntKind.u64.wrap ((fraction_size_0 x3).tdiv (gcdA (fraction_size_0 x0) (fraction_size_0 x3))))) (fraction_times_1 (IntKind.u64.wrap ((fraction_size_0 x1).tdiv (gcdA (fraction_size_0 x2) (fraction_size_0 x1)))) (IntKind.u64.wrap ((fraction_size_0 x3).tdiv (gcdA (fraction_size_0 x0) (fraction_size_0 x3))))))])))
       (.leaf none))))
    (.leaf none)))
theorem tree50_eq (x0 : Int) (x1 : Int) (x2 : Int) (x3 : Int) : vals (evFnT Tryd.prog (tb Tryd.prog tab44) (tbT Tryd.prog tab44) o50 (noLoops) 300 50 #[.agg #[.int .i64 x0, .int .i64 x1], .agg #[.int .i64 x2, .int .i64 x3]] []) = tree50 x0 x1 x2 x3 := by kernel_rfl
theorem tree50_res (x0 : Int) (x1 : Int) (x2 : Int) (x3 : Int) : (tree50 x0 x1 x2 x3).res = if fraction_product_ok x0 x1 x2 x3 = true then some (.tuple #[.agg #[.int .i64 (fraction_product_0 x0 x1 x2 x3), .int .i64 (fraction_product_1 x0 x1 x2 x3)], .int .i64 (fraction_product_2 x0 x1 x2 x3)]) else none := by
  unfold tree50 fraction_product_ok fraction_product_0 fraction_product_1 fraction_product_2
  simp only [Tr.res]
  generalize (fraction_times_ok (IntKind.u64.wrap ((fraction_size_0 x0).tdiv (gcdA (fraction_size_0 x0) (fraction_size_0 x3)))) (IntKind.u64.wrap ((fraction_size_0 x2).tdiv (gcdA (fraction_size_0 x2) (fraction_size_0 x1))))) = b2
  generalize (fraction_times_ok (IntKind.u64.wrap ((fraction_size_0 x1).tdiv (gcdA (fraction_size_0 x2) (fraction_size_0 x1)))) (IntKind.u64.wrap ((fraction_size_0 x3).tdiv (gcdA (fraction_size_0 x0) (fraction_size_0 x3))))) = b3
  generalize (gcdA (fraction_size_0 x0) (fraction_size_0 x3) == (0 : Int)) = b0
  generalize (gcdA (fraction_size_0 x2) (fraction_size_0 x1) == (0 : Int)) = b1
  cases b0 with
  | true =>
   first | (simp only [if_true, Bool.false_eq_true, if_false]; done) | rfl | (simp; done)
  | false =>
   cases b1 with
   | true =>
    first | (simp only [if_true, Bool.false_eq_true, if_false]; done) | rfl | (simp; done)
   | false =>
    cases b2 with
    | true =>
     cases b3 with
     | true =>
      first | (simp only [if_true, Bool.false_eq_true, if_false]; done) | rfl | (simp; done)
     | false =>
      first | (simp only [if_true, Bool.false_eq_true, if_false]; done) | rfl | (simp; done)
    | false =>
     first | (simp only [if_true, Bool.false_eq_true, if_false]; done) | rfl | (simp; done)
theorem var50 (args : Array Value) (b : Bool) (v : Value) (h : ans50 args = some (b, v)) (hb : b = true) : args.toList.all flat = true ∧ flat v = true ∧ ∃ o lt L, (∀ fn c, Tryd.prog.funcs[50]? = some fn → fn.body = some c → LOk Tryd.prog (tb Tryd.prog tab44) o.hints 0 c lt) ∧ (vals (evFnT Tryd.prog (tb Tryd.prog tab44) (tbT Tryd.prog tab44) o lt L 50 args [])).res = some v := by
  unfold ans50 at h
  split at h
  · rename_i c0 c1 h0
    split at h
    · rename_i x0 x1 x2 x3 k1 k2
      simp only [Option.some.injEq, Prod.mk.injEq] at h
      obtain ⟨rfl, rfl⟩ := h
      obtain rfl : c0 = #[.int .i64 x0, .int .i64 x1] := by rw [← Array.toArray_toList (xs := c0), k1]
      obtain rfl : c1 = #[.int .i64 x2, .int .i64 x3] := by rw [← Array.toArray_toList (xs := c1), k2]
      obtain rfl : args = #[.agg #[.int .i64 x0, .int .i64 x1], .agg #[.int .i64 x2, .int .i64 x3]] := by rw [← Array.toArray_toList (xs := args), h0]
      exact ⟨rfl, rfl, o50, noLoops, 300, fun _ _ hf hb => lok50z hf hb, by rw [tree50_eq, tree50_res, if_pos hb]⟩
    · cases h
  · cases h
theorem tab45_ok : TabOk Tryd.prog tab45 := tab_condL mixed tab44_ok (by decide) fun args b v h hb => var50 args b v h hb
/- gangsaw/gangsawref04.Mul -/
def o23 : Opts := ⟨[], [], []⟩
def ref04_Mul_ok (x0 : Int) (x1 : Int) (x2 : Int) (x3 : Int) : Bool :=
  if inU (ref04_times_0 x0 x2) && (inU (ref04_times_1 x0 x2) && (inU (ref04_times_0 x1 x3) && (inU (ref04_times_1 x1 x3) && Decidable.decide (w128 (ref04_times_0 x1 x3) (ref04_times_1 x1 x3) > (0 : Int))))) then (Bool.true) else (Bool.false)
def ref04_Mul_0 (x0 : Int) (x1 : Int) (x2 : Int) (x3 : Int) : Int :=
  (lowest_0 (w128 (ref04_times_0 x0 x2) (ref04_times_1 x0 x2) / gW (ref04_times_0 x1 x3) (ref04_times_1 x1 x3) (ref04_times_0 x0 x2) (ref04_times_1 x0 x2)) (w128 (ref04_times_0 x1 x3) (ref04_times_1 x1 x3) / gW (ref04_times_0 x1 x3) (ref04_times_1 x1 x3) (ref04_times_0 x0 x2) (ref04_times_1 x0 x2)) (ref04_times_2 x0 x2))
def ref04_Mul_1 (x0 : Int) (x1 : Int) (x2 : Int) (x3 : Int) : Int :=
  (lowest_1 (w128 (ref04_times_0 x0 x2) (ref04_times_1 x0 x2) / gW (ref04_times_0 x1 x3) (ref04_times_1 x1 x3) (ref04_times_0 x0 x2) (ref04_times_1 x0 x2)) (w128 (ref04_times_0 x1 x3) (ref04_times_1 x1 x3) / gW (ref04_times_0 x1 x3) (ref04_times_1 x1 x3) (ref04_times_0 x0 x2) (ref04_times_1 x0 x2)))
def ref04_Mul_2 (x0 : Int) (x1 : Int) (x2 : Int) (x3 : Int) : Int :=
  (lowest_2 (w128 (ref04_times_0 x0 x2) (ref04_times_1 x0 x2) / gW (ref04_times_0 x1 x3) (ref04_times_1 x1 x3) (ref04_times_0 x0 x2) (ref04_times_1 x0 x2)) (w128 (ref04_times_0 x1 x3) (ref04_times_1 x1 x3) / gW (ref04_times_0 x1 x3) (ref04_times_1 x1 x3) (ref04_times_0 x0 x2) (ref04_times_1 x0 x2)))
def ans23 : Array Value → Option (Bool × Value) := fun args => match args.toList with
  | [.agg c0, .agg c1] => match c0.toList, c1.toList with
    | [.int .i64 x0, .int .i64 x1], [.int .i64 x2, .int .i64 x3] => some (ref04_Mul_ok x0 x1 x2 x3, .tuple #[.agg #[.int .i64 (ref04_Mul_0 x0 x1 x2 x3), .int .i64 (ref04_Mul_1 x0 x1 x2 x3)], .int .i64 (ref04_Mul_2 x0 x1 x2 x3)])
    | _, _ => none
  | _ => none
def tab46 : Tab := (23, .cond ans23) :: tab45
theorem lok23z {fn : Func} {c : Code} (hf : Tryd.prog.funcs[23]? = some fn) (hb : fn.body = some c) : LOk Tryd.prog (tb Tryd.prog tab45) o23.hints 0 c (noLoops) := by
  exact LOk.none
def tree23 (x0 : Int) (x1 : Int) (x2 : Int) (x3 : Int) : Tr Value :=
  .node 0 (inU (ref04_times_0 x0 x2) && (inU (ref04_times_1 x0 x2) && (inU (ref04_times_0 x1 x3) && (inU (ref04_times_1 x1 x3) && Decidable.decide (w128 (ref04_times_0 x1 x3) (ref04_times_1 x1 x3) > (0 : Int))))))
  (.leaf (some (.tuple #[.agg #[.int .i64 (lowest_0 (w128 (ref04_times_0 x0 x2) (ref04_times_1 x0 x2) / gW (ref04_times_0 x1 x3) (ref04_times_1 x1 x3) (ref04_times_0 x0 x2) (ref04_times_1 x0 x2)) (w128 (ref04_times_0 x1 x3) (ref04_times_1 x1 x3) / gW (ref04_times_0 x1 x3) (ref04_times_1 x1 x3) (ref04_times_0 x0 x2) (ref04_times_1 x0 x2)) (ref04_times_2 x0 x2)), .int .i64 (lowest_1 (w128 (ref04_times_0 x0 x2) (ref04_times_1 x0 x2) / gW (ref04_times_0 x1 x3) (ref04_times_1 x1 x3) (ref04_times_0 x0 x2) (ref04_times_1 x0 x2)) (w128 (ref04_times_0 x1 x3) (ref04_times_1 x1 x3) / gW (ref04_times_0 x1 x3) (ref04_times_1 x1 x3) (ref04_times_0 x0 x2) (ref04_times_1 x0 x2)))], .int .i64 (lowest_2 (w128 (ref04_times_0 x0 x2) (ref04_times_1 x0 x2) / gW (ref04_times_0 x1 x3) (ref04_times_1 x1 x3) (ref04_times_0 x0 x2) (ref04_times_1 x0 x2)) (w128 (ref04_times_0 x1 x3) (ref04_times_1 x1 x3) / gW (ref04_times_0 x1 x3) (ref04_times_1 x1 x3) (ref04_times_0 x0 x2) (ref04_times_1 x0 x2)))])))
  (.leaf none)
theorem tree23_eq (x0 : Int) (x1 : Int) (x2 : Int) (x3 : Int) : vals (evFnT Tryd.prog (tb Tryd.prog tab45) (tbT Tryd.prog tab45) o23 (noLoops) 300 23 #[.agg #[.int .i64 x0, .int .i64 x1], .agg #[.int .i64 x2, .int .i64 x3]] []) = tree23 x0 x1 x2 x3 := by kernel_rfl
theorem tree23_res (x0 : Int) (x1 : Int) (x2 : Int) (x3 : Int) : (tree23 x0 x1 x2 x3).res = if ref04_Mul_ok x0 x1 x2 x3 = true then some (.tuple #[.agg #[.int .i64 (ref04_Mul_0 x0 x1 x2 x3), .int .i64 (ref04_Mul_1 x0 x1 x2 x3)], .int .i64 (ref04_Mul_2 x0 x1 x2 x3)]) else none := by
  unfold tree23 ref04_Mul_ok ref04_Mul_0 ref04_Mul_1 ref04_Mul_2
  simp only [Tr.res]
  generalize (inU (ref04_times_0 x0 x2) && (inU (ref04_times_1 x0 x2) && (inU (ref04_times_0 x1 x3) && (inU (ref04_times_1 x1 x3) && Decidable.decide (w128 (ref04_times_0 x1 x3) (ref04_times_1 x1 x3) > (0 : Int)))))) = b0
  cases b0 with
  | true =>
   first | (simp only [if_true, Bool.false_eq_true, if_false]; done) | rfl | (simp; done)
  | false =>
   first | (simp only [if_true, Bool.false_eq_true, if_false]; done) | rfl | (simp; done)
theorem var23 (args : Array Value) (b : Bool) (v : Value) (h : ans23 args = some (b, v)) (hb : b = true) : args.toList.all flat = true ∧ flat v = true ∧ ∃ o lt L, (∀ fn c, Tryd.prog.funcs[23]? = some fn → fn.body = some c → LOk Tryd.prog (tb Tryd.prog tab45) o.hints 0 c lt) ∧ (vals (evFnT Tryd.prog (tb Tryd.prog tab45) (tbT Tryd.prog tab45) o lt L 23 args [])).res = some v := by
  unfold ans23 at h
  split at h
  · rename_i c0 c1 h0
    split at h
    · rename_i x0 x1 x2 x3 k1 k2
      simp only [Option.some.injEq, Prod.mk.injEq] at h
      obtain ⟨rfl, rfl⟩ := h
      obtain rfl : c0 = #[.int .i64 x0, .int .i64 x1] := by rw [← Array.toArray_toList (xs := c0), k1]
      obtain rfl : c1 = #[.int .i64 x2, .int .i64 x3] := by rw [← Array.toArray_toList (xs := c1), k2]
      obtain rfl : args = #[.agg #[.int .i64 x0, .int .i64 x1], .agg #[.int .i64 x2, .int .i64 x3]] := by rw [← Array.toArray_toList (xs := args), h0]
      exact ⟨rfl, rfl, o23, noLoops, 300, fun _ _ hf hb => lok23z hf hb, by rw [tree23_eq, tree23_res, if_pos hb]⟩
    · cases h
  · cases h
theorem tab46_ok : TabOk Tryd.prog tab46 := tab_condL mixed tab45_ok (by decide) fun args b v h hb => var23 args b v h hb
/- gangsaw/fraction.Power -/
def o25 : Opts := ⟨[(19, 0), (24, 0), (32, 0), (2000001, 0)], [(5, [0, 1, 3, 5, 7, 8, 9, 10, 11, 12, 13, 14, 15, 16, 17, 18, 19, 20, 21, 24, 25, 26, 27, 28, 29, 30, 31, 32, 33, 34, 35, 36, 37])], [(5, [2, 4, 6, 22, 23])]⟩
noncomputable def b25_5 : Code := (((Tryd.prog.funcs[25]?).bind (·.body)).bind (loopAt · 5)).getD .skip
structure S25_5 where
  v23 : Int
  b2_0 : Int
  b2_1 : Int
def T25_5 (v22 : Int) (b0_0 : Int) (b0_1 : Int) (b1_0 : Int) (b1_1 : Int) (s : S25_5) : Array Value := #[lost, lost, .pointer (some ⟨0, 0, Option.none⟩), lost, .pointer (some ⟨1, 0, Option.none⟩), lost, .pointer (some ⟨2, 0, Option.none⟩), lost, lost, lost, lost, lost, lost, lost, lost, lost, lost, lost, lost, lost, lost, lost, .int .i64 (v22), .int .i64 (s.v23), lost, lost, lost, lost, lost, lost, lost, lost, lost, lost, lost, lost, lost, lost]
def M25_5 (v22 : Int) (b0_0 : Int) (b0_1 : Int) (b1_0 : Int) (b1_1 : Int) (s : S25_5) : AH := [some ⟨[.int .i64 (b0_0), .int .i64 (b0_1)], Bool.true, Bool.true, 0⟩, some ⟨[.int .i64 (b1_0), .int .i64 (b1_1)], Bool.true, Bool.true, 0⟩, some ⟨[.int .i64 (s.b2_0), .int .i64 (s.b2_1)], Bool.true, Bool.true, 0⟩]
def nx25_5 (v22 : Int) (b0_0 : Int) (b0_1 : Int) (b1_0 : Int) (b1_1 : Int) (s : S25_5) : Option S25_5 :=
  if Decidable.decide (s.v23 < v22) then (if fraction_product_ok s.b2_0 s.b2_1 b0_0 b0_1 then (if fraction_product_2 s.b2_0 s.b2_1 b0_0 b0_1 != (0 : Int) then none else some ⟨IntKind.i64.wrap (s.v23 + (1 : Int)), fraction_product_0 s.b2_0 s.b2_1 b0_0 b0_1, fraction_product_1 s.b2_0 s.b2_1 b0_0 b0_1⟩) else none) else none
def ex25_5 (v22 : Int) (b0_0 : Int) (b0_1 : Int) (b1_0 : Int) (b1_1 : Int) (s : S25_5) : Tr (Exit × Array Value × AH) :=
  .node 24 (Decidable.decide (s.v23 < v22))
  (.node 0 (fraction_product_ok s.b2_0 s.b2_1 b0_0 b0_1)
   (.node 32 (fraction_product_2 s.b2_0 s.b2_1 b0_0 b0_1 != (0 : Int))
    (.leaf (some (Exit.ret, #[.tuple #[(Go.Value.chan (Option.some 1) : Value)], .tuple #[(Go.Value.chan (Option.some 1) : Value)], .pointer (some ⟨0, 0, Option.none⟩), .tuple #[(Go.Value.chan (Option.some 1) : Value)], .pointer (some ⟨1, 0, Option.none⟩), .int .i64 (fraction_product_2 s.b2_0 s.b2_1 b0_0 b0_1), .pointer (some ⟨2, 0, Option.none⟩), .pointer (some ⟨3, 0, Option.none⟩), .int .i64 (fraction_product_2 s.b2_0 s.b2_1 b0_0 b0_1), .tuple #[(Go.Value.chan (Option.some 1) : Value)], .tuple #[(Go.Value.chan (Option.some 1) : Value)], .tuple #[(Go.Value.chan (Option.some 1) : Value)], .tuple #[(Go.Value.chan (Option.some 1) : Value)], .tuple #[(Go.Value.chan (Option.some 1) : Value)], .tuple #[(Go.Value.chan (Option.some 1) : Value)], .tuple #[(Go.Value.chan (Option.some 1) : Value)], .tuple #[(Go.Value.chan (Option.some 1) : Value)], .tuple #[(Go.Value.chan (Option.some 1) : Value)], .tuple #[(Go.Value.chan (Option.some 1) : Value)], .tuple #[(Go.Value.chan (Option.some 1) : Value)], .tuple #[(Go.Value.chan (Option.some 1) : Value)], .tuple #[(Go.Value.chan (Option.some 1) : Value)], .int .i64 (v22), .int .i64 (s.v23), .bool (Bool.true), .tuple #[.agg #[.int .i64 (fraction_product_0 s.b2_0 s.b2_1 b0_0 b0_1), .int .i64 (fraction_product_1 s.b2_0 s.b2_1 b0_0 b0_1)], .int .i64 (fraction_product_2 s.b2_0 s.b2_1 b0_0 b0_1)], .agg #[.int .i64 (s.b2_0), .int .i64 (s.b2_1)], .agg #[.int .i64 (b0_0), .int .i64 (b0_1)], .tuple #[.agg #[.int .i64 (fraction_product_0 s.b2_0 s.b2_1 b0_0 b0_1), .int .i64 (fraction_product_1 s.b2_0 s.b2_1 b0_0 b0_1)], .int .i64 (fraction_product_2 s.b2_0 s.b2_1 b0_0 b0_1)], .agg #[.int .i64 (fraction_product_0 s.b2_0 s.b2_1 b0_0 b0_1), .int .i64 (fraction_product_1 s.b2_0 s.b2_1 b0_0 b0_1)], .int .i64 (fraction_product_2 s.b2_0 s.b2_1 b0_0 b0_1), .int .i64 (fraction_product_2 s.b2_0 s.b2_1 b0_0 b0_1), .bool (Bool.true), .agg #[.int .i64 ((0 : Int)), .int .i64 ((0 : Int))], .int .i64 (fraction_product_2 s.b2_0 s.b2_1 b0_0 b0_1), .tuple #[(Go.Value.chan (Option.some 1) : Value)], .tuple #[(Go.Value.chan (Option.some 1) : Value)], .tuple #[(Go.Value.chan (Option.some 1) : Value)]], [some ⟨[.int .i64 (b0_0), .int .i64 (b0_1)], Bool.true, Bool.true, 0⟩, some ⟨[.int .i64 ((0 : Int)), .int .i64 ((0 : Int))], Bool.true, Bool.true, 0⟩, some ⟨[.int .i64 (s.b2_0), .int .i64 (s.b2_1)], Bool.true, Bool.true, 0⟩, some ⟨[.int .i64 (fraction_product_0 s.b2_0 s.b2_1 b0_0 b0_1), .int .i64 (fraction_product_1 s.b2_0 s.b2_1 b0_0 b0_1)], Bool.true, Bool.true, 0⟩])))
    (.leaf none))
   (.leaf none))
  (.leaf (some (Exit.exit 0, #[.tuple #[(Go.Value.chan (Option.some 1) : Value)], .tuple #[(Go.Value.chan (Option.some 1) : Value)], .pointer (some ⟨0, 0, Option.none⟩), .tuple #[(Go.Value.chan (Option.some 1) : Value)], .pointer (some ⟨1, 0, Option.none⟩), .tuple #[(Go.Value.chan (Option.some 1) : Value)], .pointer (some ⟨2, 0, Option.none⟩), .tuple #[(Go.Value.chan (Option.some 1) : Value)], .tuple #[(Go.Value.chan (Option.some 1) : Value)], .tuple #[(Go.Value.chan (Option.some 1) : Value)], .tuple #[(Go.Value.chan (Option.some 1) : Value)], .tuple #[(Go.Value.chan (Option.some 1) : Value)], .tuple #[(Go.Value.chan (Option.some 1) : Value)], .tuple #[(Go.Value.chan (Option.some 1) : Value)], .tuple #[(Go.Value.chan (Option.some 1) : Value)], .tuple #[(Go.Value.chan (Option.some 1) : Value)], .tuple #[(Go.Value.chan (Option.some 1) : Value)], .tuple #[(Go.Value.chan (Option.some 1) : Value)], .tuple #[(Go.Value.chan (Option.some 1) : Value)], .tuple #[(Go.Value.chan (Option.some 1) : Value)], .tuple #[(Go.Value.chan (Option.some 1) : Value)], .tuple #[(Go.Value.chan (Option.some 1) : Value)], .int .i64 (v22), .int .i64 (s.v23), .bool (Bool.false), .tuple #[(Go.Value.chan (Option.some 1) : Value)], .tuple #[(Go.Value.chan (Option.some 1) : Value)], .tuple #[(Go.Value.chan (Option.some 1) : Value)], .tuple #[(Go.Value.chan (Option.some 1) : Value)], .tuple #[(Go.Value.chan (Option.some 1) : Value)], .tuple #[(Go.Value.chan (Option.some 1) : Value)], .tuple #[(Go.Value.chan (Option.some 1) : Value)], .tuple #[(Go.Value.chan (Option.some 1) : Value)], .tuple #[(Go.Value.chan (Option.some 1) : Value)], .tuple #[(Go.Value.chan (Option.some 1) : Value)], .tuple #[(Go.Value.chan (Option.some 1) : Value)], .tuple #[(Go.Value.chan (Option.some 1) : Value)], .tuple #[(Go.Value.chan (Option.some 1) : Value)]], [some ⟨[.int .i64 (b0_0), .int .i64 (b0_1)], Bool.true, Bool.true, 0⟩, some ⟨[.int .i64 (b1_0), .int .i64 (b1_1)], Bool.true, Bool.true, 0⟩, some ⟨[.int .i64 (s.b2_0), .int .i64 (s.b2_1)], Bool.true, Bool.true, 0⟩])))
def fin25_5 (v22 : Int) (b0_0 : Int) (b0_1 : Int) (b1_0 : Int) (b1_1 : Int) (s : S25_5) : S25_5 := lgo (nx25_5 v22 b0_0 b0_1 b1_0 b1_1) ((v22 - s.v23).toNat) s
def kn25_5 (t : Array Value) (H : AH) : Tr (Exit × Array Value × AH) :=
  match t.toList, H with
  | w0 :: w1 :: w2 :: w3 :: w4 :: w5 :: w6 :: w7 :: w8 :: w9 :: w10 :: w11 :: w12 :: w13 :: w14 :: w15 :: w16 :: w17 :: w18 :: w19 :: w20 :: w21 :: .int .i64 v22 :: .int .i64 v23 :: w24 :: w25 :: w26 :: w27 :: w28 :: w29 :: w30 :: w31 :: w32 :: w33 :: w34 :: w35 :: w36 :: w37 :: [], [some ⟨[.int .i64 b0_0, .int .i64 b0_1], Bool.true, Bool.true, 0⟩, some ⟨[.int .i64 b1_0, .int .i64 b1_1], Bool.true, Bool.true, 0⟩, some ⟨[.int .i64 b2_0, .int .i64 b2_1], Bool.true, Bool.true, 0⟩] =>
    if veqL (veq 5) [w0, w1, w2, w3, w4, w5, w6, w7, w8, w9, w10, w11, w12, w13, w14, w15, w16, w17, w18, w19, w20, w21, w24, w25, w26, w27, w28, w29, w30, w31, w32, w33, w34, w35, w36, w37] [lost, lost, .pointer (some ⟨0, 0, Option.none⟩), lost, .pointer (some ⟨1, 0, Option.none⟩), lost, .pointer (some ⟨2, 0, Option.none⟩), lost, lost, lost, lost, lost, lost, lost, lost, lost, lost, lost, lost, lost, lost, lost, lost, lost, lost, lost, lost, lost, lost, lost, lost, lost, lost, lost, lost, lost] then ex25_5 v22 b0_0 b0_1 b1_0 b1_1 (fin25_5 v22 b0_0 b0_1 b1_0 b1_1 ⟨v23, b2_0, b2_1⟩) else .leaf none
  | _, _ => .leaf none
def lt25_1 : LoopT := fun id => if id = 5 then some kn25_5 else  none
def fraction_Power_ok (x0 : Int) (x1 : Int) (x2 : Int) : Bool :=
  if bif bif !fraction_Valid_0 x0 x1 then Bool.true else Decidable.decide (x2 < (0 : Int)) then Bool.true else Decidable.decide (x2 > (64 : Int)) then (Bool.true) else if Decidable.decide ((fin25_5 x2 x0 x1 (0 : Int) (0 : Int) (S25_5.mk (0 : Int) (1 : Int) (1 : Int))).v23 < x2) then (if fraction_product_ok (fin25_5 x2 x0 x1 (0 : Int) (0 : Int) (S25_5.mk (0 : Int) (1 : Int) (1 : Int))).b2_0 (fin25_5 x2 x0 x1 (0 : Int) (0 : Int) (S25_5.mk (0 : Int) (1 : Int) (1 : Int))).b2_1 x0 x1 then (if fraction_product_2 (fin25_5 x2 x0 x1 (0 : Int) (0 : Int) (S25_5.mk (0 : Int) (1 : Int) (1 : Int))).b2_0 (fin25_5 x2 x0 x1 (0 : Int) (0 : Int) (S25_5.mk (0 : Int) (1 : Int) (1 : Int))).b2_1 x0 x1 != (0 : Int) then (Bool.true) else (Bool.false)) else (Bool.false)) else (Bool.true)
def fraction_Power_0 (x0 : Int) (x1 : Int) (x2 : Int) : Int :=
  if bif bif !fraction_Valid_0 x0 x1 then Bool.true else Decidable.decide (x2 < (0 : Int)) then Bool.true else Decidable.decide (x2 > (64 : Int)) then ((0 : Int)) else if Decidable.decide ((fin25_5 x2 x0 x1 (0 : Int) (0 : Int) (S25_5.mk (0 : Int) (1 : Int) (1 : Int))).v23 < x2) then ((0 : Int)) else ((fin25_5 x2 x0 x1 (0 : Int) (0 : Int) (S25_5.mk (0 : Int) (1 : Int) (1 : Int))).b2_0)
def fraction_Power_1 (x0 : Int) (x1 : Int) (x2 : Int) : Int :=
  if bif bif !fraction_Valid_0 x0 x1 then Bool.true else Decidable.decide (x2 < (0 : Int)) then Bool.true else Decidable.decide (x2 > (64 : Int)) then ((0 : Int)) else if Decidable.decide ((fin25_5 x2 x0 x1 (0 : Int) (0 : Int) (S25_5.mk (0 : Int) (1 : Int) (1 : Int))).v23 < x2) then ((0 : Int)) else ((fin25_5 x2 x0 x1 (0 : Int) (0 : Int) (S25_5.mk (0 : Int) (1 : Int) (1 : Int))).b2_1)
def fraction_Power_2 (x0 : Int) (x1 : Int) (x2 : Int) : Int :=
  if bif bif !fraction_Valid_0 x0 x1 then Bool.true else Decidable.decide (x2 < (0 : Int)) then Bool.true else Decidable.decide (x2 > (64 : Int)) then ((1 : Int)) else if Decidable.decide ((fin25_5 x2 x0 x1 (0 : Int) (0 : Int) (S25_5.mk (0 : Int) (1 : Int) (1 : Int))).v23 < x2) then (fraction_product_2 (fin25_5 x2 x0 x1 (0 : Int) (0 : Int) (S25_5.mk (0 : Int) (1 : Int) (1 : Int))).b2_0 (fin25_5 x2 x0 x1 (0 : Int) (0 : Int) (S25_5.mk (0 : Int) (1 : Int) (1 : Int))).b2_1 x0 x1) else ((0 : Int))
def ans25 : Array Value → Option (Bool × Value) := fun args => match args.toList with
  | [.agg c0, .int .i64 x2] => match c0.toList with
    | [.int .i64 x0, .int .i64 x1] => some (fraction_Power_ok x0 x1 x2, .tuple #[.agg #[.int .i64 (fraction_Power_0 x0 x1 x2), .int .i64 (fraction_Power_1 x0 x1 x2)], .int .i64 (fraction_Power_2 x0 x1 x2)])
    | _ => none
  | _ => none
def tab47 : Tab := (25, .cond ans25) :: tab46
def rt25_5 (v22 : Int) (b0_0 : Int) (b0_1 : Int) (b1_0 : Int) (b1_1 : Int) (s : S25_5) : Tr (Exit × Array Value × AH) :=
  .node 24 (Decidable.decide (s.v23 < v22))
  (.node 0 (fraction_product_ok s.b2_0 s.b2_1 b0_0 b0_1)
   (.node 32 (fraction_product_2 s.b2_0 s.b2_1 b0_0 b0_1 != (0 : Int))
    (.leaf (some (Exit.ret, #[.tuple #[(Go.Value.chan (Option.some 1) : Value)], .tuple #[(Go.Value.chan (Option.some 1) : Value)], .pointer (some ⟨0, 0, Option.none⟩), .tuple #[(Go.Value.chan (Option.some 1) : Value)], .pointer (some ⟨1, 0, Option.none⟩), .int .i64 (fraction_product_2 s.b2_0 s.b2_1 b0_0 b0_1), .pointer (some ⟨2, 0, Option.none⟩), .pointer (some ⟨3, 0, Option.none⟩), .int .i64 (fraction_product_2 s.b2_0 s.b2_1 b0_0 b0_1), .tuple #[(Go.Value.chan (Option.some 1) : Value)], .tuple #[(Go.Value.chan (Option.some 1) : Value)], .tuple #[(Go.Value.chan (Option.some 1) : Value)], .tuple #[(Go.Value.chan (Option.some 1) : Value)], .tuple #[(Go.Value.chan (Option.some 1) : Value)], .tuple #[(Go.Value.chan (Option.some 1) : Value)], .tuple #[(Go.Value.chan (Option.some 1) : Value)], .tuple #[(Go.Value.chan (Option.some 1) : Value)], .tuple #[(Go.Value.chan (Option.some 1) : Value)], .tuple #[(Go.Value.chan (Option.some 1) : Value)], .tuple #[(Go.Value.chan (Option.some 1) : Value)], .tuple #[(Go.Value.chan (Option.some 1) : Value)], .tuple #[(Go.Value.chan (Option.some 1) : Value)], .int .i64 (v22), .int .i64 (s.v23), .bool (Bool.true), .tuple #[.agg #[.int .i64 (fraction_product_0 s.b2_0 s.b2_1 b0_0 b0_1), .int .i64 (fraction_product_1 s.b2_0 s.b2_1 b0_0 b0_1)], .int .i64 (fraction_product_2 s.b2_0 s.b2_1 b0_0 b0_1)], .agg #[.int .i64 (s.b2_0), .int .i64 (s.b2_1)], .agg #[.int .i64 (b0_0), .int .i64 (b0_1)], .tuple #[.agg #[.int .i64 (fraction_product_0 s.b2_0 s.b2_1 b0_0 b0_1), .int .i64 (fraction_product_1 s.b2_0 s.b2_1 b0_0 b0_1)], .int .i64 (fraction_product_2 s.b2_0 s.b2_1 b0_0 b0_1)], .agg #[.int .i64 (fraction_product_0 s.b2_0 s.b2_1 b0_0 b0_1), .int .i64 (fraction_product_1 s.b2_0 s.b2_1 b0_0 b0_1)], .int .i64 (fraction_product_2 s.b2_0 s.b2_1 b0_0 b0_1), .int .i64 (fraction_product_2 s.b2_0 s.b2_1 b0_0 b0_1), .bool (Bool.true), .agg #[.int .i64 ((0 : Int)), .int .i64 ((0 : Int))], .int .i64 (fraction_product_2 s.b2_0 s.b2_1 b0_0 b0_1), .tuple #[(Go.Value.chan (Option.some 1) : Value)], .tuple #[(Go.Value.chan (Option.some 1) : Value)], .tuple #[(Go.Value.chan (Option.some 1) : Value)]], [some ⟨[.int .i64 (b0_0), .int .i64 (b0_1)], Bool.true, Bool.true, 0⟩, some ⟨[.int .i64 ((0 : Int)), .int .i64 ((0 : Int))], Bool.true, Bool.true, 0⟩, some ⟨[.int .i64 (s.b2_0), .int .i64 (s.b2_1)], Bool.true, Bool.true, 0⟩, some ⟨[.int .i64 (fraction_product_0 s.b2_0 s.b2_1 b0_0 b0_1), .int .i64 (fraction_product_1 s.b2_0 s.b2_1 b0_0 b0_1)], Bool.true, Bool.true, 0⟩])))
    (.leaf (some (.normal, T25_5 v22 b0_0 b0_1 b1_0 b1_1 ⟨IntKind.i64.wrap (s.v23 + (1 : Int)), fraction_product_0 s.b2_0 s.b2_1 b0_0 b0_1, fraction_product_1 s.b2_0 s.b2_1 b0_0 b0_1⟩, M25_5 v22 b0_0 b0_1 b1_0 b1_1 ⟨IntKind.i64.wrap (s.v23 + (1 : Int)), fraction_product_0 s.b2_0 s.b2_1 b0_0 b0_1, fraction_product_1 s.b2_0 s.b2_1 b0_0 b0_1⟩))))
   (.leaf none))
  (.leaf (some (Exit.exit 0, #[.tuple #[(Go.Value.chan (Option.some 1) : Value)], .tuple #[(Go.Value.chan (Option.some 1) : Value)], .pointer (some ⟨0, 0, Option.none⟩), .tuple #[(Go.Value.chan (Option.some 1) : Value)], .pointer (some ⟨1, 0, Option.none⟩), .tuple #[(Go.Value.chan (Option.some 1) : Value)], .pointer (some ⟨2, 0, Option.none⟩), .tuple #[(Go.Value.chan (Option.some 1) : Value)], .tuple #[(Go.Value.chan (Option.some 1) : Value)], .tuple #[(Go.Value.chan (Option.some 1) : Value)], .tuple #[(Go.Value.chan (Option.some 1) : Value)], .tuple #[(Go.Value.chan (Option.some 1) : Value)], .tuple #[(Go.Value.chan (Option.some 1) : Value)], .tuple #[(Go.Value.chan (Option.some 1) : Value)], .tuple #[(Go.Value.chan (Option.some 1) : Value)], .tuple #[(Go.Value.chan (Option.some 1) : Value)], .tuple #[(Go.Value.chan (Option.some 1) : Value)], .tuple #[(Go.Value.chan (Option.some 1) : Value)], .tuple #[(Go.Value.chan (Option.some 1) : Value)], .tuple #[(Go.Value.chan (Option.some 1) : Value)], .tuple #[(Go.Value.chan (Option.some 1) : Value)], .tuple #[(Go.Value.chan (Option.some 1) : Value)], .int .i64 (v22), .int .i64 (s.v23), .bool (Bool.false), .tuple #[(Go.Value.chan (Option.some 1) : Value)], .tuple #[(Go.Value.chan (Option.some 1) : Value)], .tuple #[(Go.Value.chan (Option.some 1) : Value)], .tuple #[(Go.Value.chan (Option.some 1) : Value)], .tuple #[(Go.Value.chan (Option.some 1) : Value)], .tuple #[(Go.Value.chan (Option.some 1) : Value)], .tuple #[(Go.Value.chan (Option.some 1) : Value)], .tuple #[(Go.Value.chan (Option.some 1) : Value)], .tuple #[(Go.Value.chan (Option.some 1) : Value)], .tuple #[(Go.Value.chan (Option.some 1) : Value)], .tuple #[(Go.Value.chan (Option.some 1) : Value)], .tuple #[(Go.Value.chan (Option.some 1) : Value)], .tuple #[(Go.Value.chan (Option.some 1) : Value)]], [some ⟨[.int .i64 (b0_0), .int .i64 (b0_1)], Bool.true, Bool.true, 0⟩, some ⟨[.int .i64 (b1_0), .int .i64 (b1_1)], Bool.true, Bool.true, 0⟩, some ⟨[.int .i64 (s.b2_0), .int .i64 (s.b2_1)], Bool.true, Bool.true, 0⟩])))
theorem rt25_5_eq  (v22 : Int) (b0_0 : Int) (b0_1 : Int) (b1_0 : Int) (b1_1 : Int) (s : S25_5) : roundT Tryd.prog (tb Tryd.prog tab46) (tbT Tryd.prog tab46) (o25) (noLoops) 0 300 b25_5 (T25_5 v22 b0_0 b0_1 b1_0 b1_1 s) (M25_5 v22 b0_0 b0_1 b1_0 b1_1 s) = rt25_5 v22 b0_0 b0_1 b1_0 b1_1 s := by kernel_rfl
theorem in25_5 (v22 : Int) (b0_0 : Int) (b0_1 : Int) (b1_0 : Int) (b1_1 : Int) (s s2 : S25_5) (h : nx25_5 v22 b0_0 b0_1 b1_0 b1_1 s = some s2) : (rt25_5 v22 b0_0 b0_1 b1_0 b1_1 s).res = some (.normal, T25_5 v22 b0_0 b0_1 b1_0 b1_1 s2, M25_5 v22 b0_0 b0_1 b1_0 b1_1 s2) := by
  unfold nx25_5 at h
  unfold rt25_5
  simp only [Tr.res] at h ⊢
  generalize (fraction_product_2 s.b2_0 s.b2_1 b0_0 b0_1 != (0 : Int)) = b2 at *
  generalize (fraction_product_ok s.b2_0 s.b2_1 b0_0 b0_1) = b1 at *
  generalize (Decidable.decide (s.v23 < v22)) = b0 at *
  cases b0 with
  | true =>
   cases b1 with
   | true =>
    cases b2 with
    | true =>
     first | cases h | (simp at h)
    | false =>
     first | (cases h; rfl) | (simp only [if_true, Bool.false_eq_true, if_false, Option.some.injEq] at h ⊢; subst h; rfl)
   | false =>
    first | cases h | (simp at h)
  | false =>
   first | cases h | (simp at h)
theorem out25_5 (v22 : Int) (b0_0 : Int) (b0_1 : Int) (b1_0 : Int) (b1_1 : Int) (s : S25_5) (r : Exit × Array Value × AH) (h : (ex25_5 v22 b0_0 b0_1 b1_0 b1_1 s).res = some r) : r.1 ≠ .normal ∧ (rt25_5 v22 b0_0 b0_1 b1_0 b1_1 s).res = some r := by
  unfold ex25_5 at h
  unfold rt25_5
  simp only [Tr.res] at h ⊢
  generalize (fraction_product_2 s.b2_0 s.b2_1 b0_0 b0_1 != (0 : Int)) = b2 at *
  generalize (fraction_product_ok s.b2_0 s.b2_1 b0_0 b0_1) = b1 at *
  generalize (Decidable.decide (s.v23 < v22)) = b0 at *
  cases b0 with
  | true =>
   cases b1 with
   | true =>
    cases b2 with
    | true =>
     first | (cases h; exact ⟨(by intro hh; cases hh), rfl⟩) | (simp only [if_true, Bool.false_eq_true, if_false, Option.some.injEq] at h ⊢; subst h; exact ⟨(by intro hh; cases hh), rfl⟩)
    | false =>
     first | cases h | (simp at h)
   | false =>
    first | cases h | (simp at h)
  | false =>
   first | (cases h; exact ⟨(by intro hh; cases hh), rfl⟩) | (simp only [if_true, Bool.false_eq_true, if_false, Option.some.injEq] at h ⊢; subst h; exact ⟨(by intro hh; cases hh), rfl⟩)
theorem lok25_5 {fn : Func} {c : Code} (hf : Tryd.prog.funcs[25]? = some fn) (hb : fn.body = some c) : LOk Tryd.prog (tb Tryd.prog tab46) o25.hints 0 c (noLoops) := by
  exact LOk.none
theorem sub25_5 {fn : Func} {c : Code} (hf : Tryd.prog.funcs[25]? = some fn) (hb : fn.body = some c) : ∀ b2 ∈ loopsOf b25_5, loopAt c (headId b2) = some b2 := by
  have h1 : ((Tryd.prog.funcs[25]?).bind (·.body)) = some c := by rw [hf]; exact hb
  intro b2 h2
  rw [show loopsOf b25_5 = [] by kernel_rfl] at h2
  cases h2
theorem lk25_5 (t : Array Value) (H : AH) (r : Exit × Array Value × AH) {fn : Func} {c : Code} (hf : Tryd.prog.funcs[25]? = some fn) (hb : fn.body = some c) (hr : (kn25_5 t H).res = some r) : ∃ n, evRound Tryd.prog (tb Tryd.prog tab46) o25.hints 0 n b25_5 t H = some r := by
  unfold kn25_5 at hr
  split at hr
  · rename_i w0 w1 w2 w3 w4 w5 w6 w7 w8 w9 w10 w11 w12 w13 w14 w15 w16 w17 w18 w19 w20 w21 v22 v23 w24 w25 w26 w27 w28 w29 w30 w31 w32 w33 w34 w35 w36 w37 b0_0 b0_1 b1_0 b1_1 b2_0 b2_1 ht
    split at hr
    · rename_i hv
      have hv := veqL_eq (veq_eq 5) _ _ hv
      simp only [List.cons.injEq, and_true] at hv
      obtain ⟨rfl, rfl, rfl, rfl, rfl, rfl, rfl, rfl, rfl, rfl, rfl, rfl, rfl, rfl, rfl, rfl, rfl, rfl, rfl, rfl, rfl, rfl, rfl, rfl, rfl, rfl, rfl, rfl, rfl, rfl, rfl, rfl, rfl, rfl, rfl, rfl⟩ := hv
      obtain rfl : t = T25_5 v22 b0_0 b0_1 b1_0 b1_1 ⟨v23, b2_0, b2_1⟩ := by rw [← Array.toArray_toList (xs := t), ht]; rfl
      exact loop_fin (tbT_ok _) (T25_5 v22 b0_0 b0_1 b1_0 b1_1) (M25_5 v22 b0_0 b0_1 b1_0 b1_1) (nx25_5 v22 b0_0 b0_1 b1_0 b1_1) (ex25_5 v22 b0_0 b0_1 b1_0 b1_1) (lok25_5 hf hb) (sub25_5 hf hb) (fun s s2 h => by rw [rt25_5_eq]; exact in25_5 v22 b0_0 b0_1 b1_0 b1_1 s s2 h) (fun s r h => by rw [rt25_5_eq]; exact out25_5 v22 b0_0 b0_1 b1_0 b1_1 s r h) _ _ _ hr
    · cases hr
  · cases hr
theorem lok25z {fn : Func} {c : Code} (hf : Tryd.prog.funcs[25]? = some fn) (hb : fn.body = some c) : LOk Tryd.prog (tb Tryd.prog tab46) o25.hints 0 c (lt25_1) := by
  intro id ans h b hl t H r hr
  unfold lt25_1 at h
  split at h
  · rename_i he
    subst he
    simp only [Option.some.injEq] at h
    subst h
    obtain rfl : b = b25_5 := by unfold b25_5; rw [hf]; simp only [Option.bind_some, hb, hl, Option.getD_some]
    exact lk25_5 t H r hf hb hr
  cases h
def tree25 (x0 : Int) (x1 : Int) (x2 : Int) : Tr Value :=
  .node 19 (bif bif !fraction_Valid_0 x0 x1 then Bool.true else Decidable.decide (x2 < (0 : Int)) then Bool.true else Decidable.decide (x2 > (64 : Int)))
  (.leaf (some (.tuple #[.agg #[.int .i64 ((0 : Int)), .int .i64 ((0 : Int))], .int .i64 ((1 : Int))])))
  (.node 24 (Decidable.decide ((fin25_5 x2 x0 x1 (0 : Int) (0 : Int) (S25_5.mk (0 : Int) (1 : Int) (1 : Int))).v23 < x2))
   (.node 0 (fraction_product_ok (fin25_5 x2 x0 x1 (0 : Int) (0 : Int) (S25_5.mk (0 : Int) (1 : Int) (1 : Int))).b2_0 (fin25_5 x2 x0 x1 (0 : Int) (0 : Int) (S25_5.mk (0 : Int) (1 : Int) (1 : Int))).b2_1 x0 x1)
    (.node 32 (fraction_product_2 (fin25_5 x2 x0 x1 (0 : Int) (0 : Int) (S25_5.mk (0 : Int) (1 : Int) (1 : Int))).b2_0 (fin25_5 x2 x0 x1 (0 : Int) (0 : Int) (S25_5.mk (0 : Int) (1 : Int) (1 : Int))).b2_1 x0 x1 != (0 : Int))
     (.leaf (some (.tuple #[.agg #[.int .i64 ((0 : Int)), .int .i64 ((0 : Int))], .int .i64 (fraction_product_2 (fin25_5 x2 x0 x1 (0 : Int) (0 : Int) (S25_5.mk (0 : Int) (1 : Int) (1 : Int))).b2_0 (fin25_5 x2 x0 x1 (0 : Int) (0 : Int) (S25_5.mk (0 : Int) (1 : Int) (1 : Int))).b2_1 x0 x1)])))
     (.leaf none))
    (.leaf none))
   (.leaf (some (.tuple #[.agg #[.int .i64 ((fin25_5 x2 x0 x1 (0 : Int) (0 : Int) (S25_5.mk (0 : Int) (1 : Int) (1 : Int))).b2_0), .int .i64 ((fin25_5 x2 x0 x1 (0 : Int) (0 : Int) (S25_5.mk (0 : Int) (1 : Int) (1 : Int))).b2_1)], .int .i64 ((0 : Int))]))))
theorem tree25_eq (x0 : Int) (x1 : Int) (x2 : Int) : vals (evFnT Tryd.prog (tb Tryd.prog tab46) (tbT Tryd.prog tab46) o25 (lt25_1) 300 25 #[.agg #[.int .i64 x0, .int .i64 x1], .int .i64 x2] []) = tree25 x0 x1 x2 := by kernel_rfl
theorem tree25_res (x0 : Int) (x1 : Int) (x2 : Int) : (tree25 x0 x1 x2).res = if fraction_Power_ok x0 x1 x2 = true then some (.tuple #[.agg #[.int .i64 (fraction_Power_0 x0 x1 x2), .int .i64 (fraction_Power_1 x0 x1 x2)], .int .i64 (fraction_Power_2 x0 x1 x2)]) else none := by
  unfold tree25 fraction_Power_ok fraction_Power_0 fraction_Power_1 fraction_Power_2
  simp only [Tr.res]
  generalize (fraction_product_2 (fin25_5 x2 x0 x1 (0 : Int) (0 : Int) (S25_5.mk (0 : Int) (1 : Int) (1 : Int))).b2_0 (fin25_5 x2 x0 x1 (0 : Int) (0 : Int) (S25_5.mk (0 : Int) (1 : Int) (1 : Int))).b2_1 x0 x1 != (0 : Int)) = b3
  generalize (fraction_product_ok (fin25_5 x2 x0 x1 (0 : Int) (0 : Int) (S25_5.mk (0 : Int) (1 : Int) (1 : Int))).b2_0 (fin25_5 x2 x0 x1 (0 : Int) (0 : Int) (S25_5.mk (0 : Int) (1 : Int) (1 : Int))).b2_1 x0 x1) = b2
  generalize (bif bif !fraction_Valid_0 x0 x1 then Bool.true else Decidable.decide (x2 < (0 : Int)) then Bool.true else Decidable.decide (x2 > (64 : Int))) = b0
  generalize (Decidable.decide ((fin25_5 x2 x0 x1 (0 : Int) (0 : Int) (S25_5.mk (0 : Int) (1 : Int) (1 : Int))).v23 < x2)) = b1
  cases b0 with
  | true =>
   first | (simp only [if_true, Bool.false_eq_true, if_false]; done) | rfl | (simp; done)
  | false =>
   cases b1 with
   | true =>
    cases b2 with
    | true =>
     cases b3 with
     | true =>
      first | (simp only [if_true, Bool.false_eq_true, if_false]; done) | rfl | (simp; done)
     | false =>
      first | (simp only [if_true, Bool.false_eq_true, if_false]; done) | rfl | (simp; done)
    | false =>
     first | (simp only [if_true, Bool.false_eq_true, if_false]; done) | rfl | (simp; done)
   | false =>
    first | (simp only [if_true, Bool.false_eq_true, if_false]; done) | rfl | (simp; done)
theorem var25 (args : Array Value) (b : Bool) (v : Value) (h : ans25 args = some (b, v)) (hb : b = true) : args.toList.all flat = true ∧ flat v = true ∧ ∃ o lt L, (∀ fn c, Tryd.prog.funcs[25]? = some fn → fn.body = some c → LOk Tryd.prog (tb Tryd.prog tab46) o.hints 0 c lt) ∧ (vals (evFnT Tryd.prog (tb Tryd.prog tab46) (tbT Tryd.prog tab46) o lt L 25 args [])).res = some v := by
  unfold ans25 at h
  split at h
  · rename_i c0 x2 h0
    split at h
    · rename_i x0 x1 k1
      simp only [Option.some.injEq, Prod.mk.injEq] at h
      obtain ⟨rfl, rfl⟩ := h
      obtain rfl : c0 = #[.int .i64 x0, .int .i64 x1] := by rw [← Array.toArray_toList (xs := c0), k1]
      obtain rfl : args = #[.agg #[.int .i64 x0, .int .i64 x1], .int .i64 x2] := by rw [← Array.toArray_toList (xs := args), h0]
      exact ⟨rfl, rfl, o25, lt25_1, 300, fun _ _ hf hb => lok25z hf hb, by rw [tree25_eq, tree25_res, if_pos hb]⟩
    · cases h
  · cases h
theorem tab47_ok : TabOk Tryd.prog tab47 := tab_condL mixed tab46_ok (by decide) fun args b v h hb => var25 args b v h hb
/- gangsaw/gangsawref04.Power -/
def o26 : Opts := ⟨[(13, 0), (23, 0)], [(3, [0, 3, 5, 8, 9, 10, 11, 12, 13, 14, 15, 16, 17, 18, 19, 20, 21, 22, 23, 24, 25, 26, 27])], [(3, [1, 2, 4, 6, 7])]⟩
noncomputable def b26_3 : Code := (((Tryd.prog.funcs[26]?).bind (·.body)).bind (loopAt · 3)).getD .skip
structure S26_3 where
  v7 : Int
  b2_0 : Int
  b2_1 : Int
def T26_3 (v1 : Int) (b0_0 : Int) (b0_1 : Int) (b1_0 : Int) (b1_1 : Int) (s : S26_3) : Array Value := #[lost, .int .i64 (v1), .pointer (some ⟨0, 0, Option.none⟩), lost, .pointer (some ⟨1, 0, Option.none⟩), lost, .pointer (some ⟨2, 0, Option.none⟩), .int .i64 (s.v7), lost, lost, lost, lost, lost, lost, lost, lost, lost, lost, lost, lost, lost, lost, lost, lost, lost, lost, lost, lost]
def M26_3 (v1 : Int) (b0_0 : Int) (b0_1 : Int) (b1_0 : Int) (b1_1 : Int) (s : S26_3) : AH := [some ⟨[.int .i64 (b0_0), .int .i64 (b0_1)], Bool.true, Bool.true, 0⟩, some ⟨[.int .i64 (b1_0), .int .i64 (b1_1)], Bool.true, Bool.true, 0⟩, some ⟨[.int .i64 (s.b2_0), .int .i64 (s.b2_1)], Bool.true, Bool.true, 0⟩]
def nx26_3 (v1 : Int) (b0_0 : Int) (b0_1 : Int) (b1_0 : Int) (b1_1 : Int) (s : S26_3) : Option S26_3 :=
  if Decidable.decide (s.v7 < v1) then (if ref04_Mul_ok s.b2_0 s.b2_1 b0_0 b0_1 then (if ref04_Mul_2 s.b2_0 s.b2_1 b0_0 b0_1 != (0 : Int) then none else some ⟨IntKind.i64.wrap (s.v7 + (1 : Int)), ref04_Mul_0 s.b2_0 s.b2_1 b0_0 b0_1, ref04_Mul_1 s.b2_0 s.b2_1 b0_0 b0_1⟩) else none) else none
def ex26_3 (v1 : Int) (b0_0 : Int) (b0_1 : Int) (b1_0 : Int) (b1_1 : Int) (s : S26_3) : Tr (Exit × Array Value × AH) :=
  .node 13 (Decidable.decide (s.v7 < v1))
  (.node 0 (ref04_Mul_ok s.b2_0 s.b2_1 b0_0 b0_1)
   (.node 23 (ref04_Mul_2 s.b2_0 s.b2_1 b0_0 b0_1 != (0 : Int))
    (.leaf (some (Exit.ret, #[.tuple #[(Go.Value.chan (Option.some 1) : Value)], .int .i64 (v1), .pointer (some ⟨0, 0, Option.none⟩), .tuple #[(Go.Value.chan (Option.some 1) : Value)], .pointer (some ⟨1, 0, Option.none⟩), .int .i64 (ref04_Mul_2 s.b2_0 s.b2_1 b0_0 b0_1), .pointer (some ⟨2, 0, Option.none⟩), .int .i64 (s.v7), .pointer (some ⟨3, 0, Option.none⟩), .int .i64 (ref04_Mul_2 s.b2_0 s.b2_1 b0_0 b0_1), .tuple #[(Go.Value.chan (Option.some 1) : Value)], .int .i64 (s.v7), .int .i64 (v1), .bool (Bool.true), .tuple #[(Go.Value.chan (Option.some 1) : Value)], .tuple #[(Go.Value.chan (Option.some 1) : Value)], .tuple #[.agg #[.int .i64 (ref04_Mul_0 s.b2_0 s.b2_1 b0_0 b0_1), .int .i64 (ref04_Mul_1 s.b2_0 s.b2_1 b0_0 b0_1)], .int .i64 (ref04_Mul_2 s.b2_0 s.b2_1 b0_0 b0_1)], .agg #[.int .i64 (s.b2_0), .int .i64 (s.b2_1)], .agg #[.int .i64 (b0_0), .int .i64 (b0_1)], .tuple #[.agg #[.int .i64 (ref04_Mul_0 s.b2_0 s.b2_1 b0_0 b0_1), .int .i64 (ref04_Mul_1 s.b2_0 s.b2_1 b0_0 b0_1)], .int .i64 (ref04_Mul_2 s.b2_0 s.b2_1 b0_0 b0_1)], .agg #[.int .i64 (ref04_Mul_0 s.b2_0 s.b2_1 b0_0 b0_1), .int .i64 (ref04_Mul_1 s.b2_0 s.b2_1 b0_0 b0_1)], .int .i64 (ref04_Mul_2 s.b2_0 s.b2_1 b0_0 b0_1), .int .i64 (ref04_Mul_2 s.b2_0 s.b2_1 b0_0 b0_1), .bool (Bool.true), .agg #[.int .i64 ((0 : Int)), .int .i64 ((0 : Int))], .int .i64 (ref04_Mul_2 s.b2_0 s.b2_1 b0_0 b0_1), .tuple #[(Go.Value.chan (Option.some 1) : Value)], .tuple #[(Go.Value.chan (Option.some 1) : Value)]], [some ⟨[.int .i64 (b0_0), .int .i64 (b0_1)], Bool.true, Bool.true, 0⟩, some ⟨[.int .i64 ((0 : Int)), .int .i64 ((0 : Int))], Bool.true, Bool.true, 0⟩, some ⟨[.int .i64 (s.b2_0), .int .i64 (s.b2_1)], Bool.true, Bool.true, 0⟩, some ⟨[.int .i64 (ref04_Mul_0 s.b2_0 s.b2_1 b0_0 b0_1), .int .i64 (ref04_Mul_1 s.b2_0 s.b2_1 b0_0 b0_1)], Bool.true, Bool.true, 0⟩])))
    (.leaf none))
   (.leaf none))
  (.leaf (some (Exit.exit 0, #[.tuple #[(Go.Value.chan (Option.some 1) : Value)], .int .i64 (v1), .pointer (some ⟨0, 0, Option.none⟩), .tuple #[(Go.Value.chan (Option.some 1) : Value)], .pointer (some ⟨1, 0, Option.none⟩), .tuple #[(Go.Value.chan (Option.some 1) : Value)], .pointer (some ⟨2, 0, Option.none⟩), .int .i64 (s.v7), .tuple #[(Go.Value.chan (Option.some 1) : Value)], .tuple #[(Go.Value.chan (Option.some 1) : Value)], .tuple #[(Go.Value.chan (Option.some 1) : Value)], .int .i64 (s.v7), .int .i64 (v1), .bool (Bool.false), .tuple #[(Go.Value.chan (Option.some 1) : Value)], .tuple #[(Go.Value.chan (Option.some 1) : Value)], .tuple #[(Go.Value.chan (Option.some 1) : Value)], .tuple #[(Go.Value.chan (Option.some 1) : Value)], .tuple #[(Go.Value.chan (Option.some 1) : Value)], .tuple #[(Go.Value.chan (Option.some 1) : Value)], .tuple #[(Go.Value.chan (Option.some 1) : Value)], .tuple #[(Go.Value.chan (Option.some 1) : Value)], .tuple #[(Go.Value.chan (Option.some 1) : Value)], .tuple #[(Go.Value.chan (Option.some 1) : Value)], .tuple #[(Go.Value.chan (Option.some 1) : Value)], .tuple #[(Go.Value.chan (Option.some 1) : Value)], .tuple #[(Go.Value.chan (Option.some 1) : Value)], .tuple #[(Go.Value.chan (Option.some 1) : Value)]], [some ⟨[.int .i64 (b0_0), .int .i64 (b0_1)], Bool.true, Bool.true, 0⟩, some ⟨[.int .i64 (b1_0), .int .i64 (b1_1)], Bool.true, Bool.true, 0⟩, some ⟨[.int .i64 (s.b2_0), .int .i64 (s.b2_1)], Bool.true, Bool.true, 0⟩])))
def fin26_3 (v1 : Int) (b0_0 : Int) (b0_1 : Int) (b1_0 : Int) (b1_1 : Int) (s : S26_3) : S26_3 := lgo (nx26_3 v1 b0_0 b0_1 b1_0 b1_1) ((v1 - s.v7).toNat) s
def kn26_3 (t : Array Value) (H : AH) : Tr (Exit × Array Value × AH) :=
  match t.toList, H with
  | w0 :: .int .i64 v1 :: w2 :: w3 :: w4 :: w5 :: w6 :: .int .i64 v7 :: w8 :: w9 :: w10 :: w11 :: w12 :: w13 :: w14 :: w15 :: w16 :: w17 :: w18 :: w19 :: w20 :: w21 :: w22 :: w23 :: w24 :: w25 :: w26 :: w27 :: [], [some ⟨[.int .i64 b0_0, .int .i64 b0_1], Bool.true, Bool.true, 0⟩, some ⟨[.int .i64 b1_0, .int .i64 b1_1], Bool.true, Bool.true, 0⟩, some ⟨[.int .i64 b2_0, .int .i64 b2_1], Bool.true, Bool.true, 0⟩] =>
    if veqL (veq 5) [w0, w2, w3, w4, w5, w6, w8, w9, w10, w11, w12, w13, w14, w15, w16, w17, w18, w19, w20, w21, w22, w23, w24, w25, w26, w27] [lost, .pointer (some ⟨0, 0, Option.none⟩), lost, .pointer (some ⟨1, 0, Option.none⟩), lost, .pointer (some ⟨2, 0, Option.none⟩), lost, lost, lost, lost, lost, lost, lost, lost, lost, lost, lost, lost, lost, lost, lost, lost, lost, lost, lost, lost] then ex26_3 v1 b0_0 b0_1 b1_0 b1_1 (fin26_3 v1 b0_0 b0_1 b1_0 b1_1 ⟨v7, b2_0, b2_1⟩) else .leaf none
  | _, _ => .leaf none
def lt26_1 : LoopT := fun id => if id = 3 then some kn26_3 else  none
def ref04_Power_ok (x0 : Int) (x1 : Int) (x2 : Int) : Bool :=
  if Decidable.decide ((fin26_3 x2 x0 x1 (0 : Int) (0 : Int) (S26_3.mk (0 : Int) (1 : Int) (1 : Int))).v7 < x2) then (if ref04_Mul_ok (fin26_3 x2 x0 x1 (0 : Int) (0 : Int) (S26_3.mk (0 : Int) (1 : Int) (1 : Int))).b2_0 (fin26_3 x2 x0 x1 (0 : Int) (0 : Int) (S26_3.mk (0 : Int) (1 : Int) (1 : Int))).b2_1 x0 x1 then (if ref04_Mul_2 (fin26_3 x2 x0 x1 (0 : Int) (0 : Int) (S26_3.mk (0 : Int) (1 : Int) (1 : Int))).b2_0 (fin26_3 x2 x0 x1 (0 : Int) (0 : Int) (S26_3.mk (0 : Int) (1 : Int) (1 : Int))).b2_1 x0 x1 != (0 : Int) then (Bool.true) else (Bool.false)) else (Bool.false)) else (Bool.true)
def ref04_Power_0 (x0 : Int) (x1 : Int) (x2 : Int) : Int :=
  if Decidable.decide ((fin26_3 x2 x0 x1 (0 : Int) (0 : Int) (S26_3.mk (0 : Int) (1 : Int) (1 : Int))).v7 < x2) then ((0 : Int)) else ((fin26_3 x2 x0 x1 (0 : Int) (0 : Int) (S26_3.mk (0 : Int) (1 : Int) (1 : Int))).b2_0)
def ref04_Power_1 (x0 : Int) (x1 : Int) (x2 : Int) : Int :=
  if Decidable.decide ((fin26_3 x2 x0 x1 (0 : Int) (0 : Int) (S26_3.mk (0 : Int) (1 : Int) (1 : Int))).v7 < x2) then ((0 : Int)) else ((fin26_3 x2 x0 x1 (0 : Int) (0 : Int) (S26_3.mk (0 : Int) (1 : Int) (1 : Int))).b2_1)
def ref04_Power_2 (x0 : Int) (x1 : Int) (x2 : Int) : Int :=
  if Decidable.decide ((fin26_3 x2 x0 x1 (0 : Int) (0 : Int) (S26_3.mk (0 : Int) (1 : Int) (1 : Int))).v7 < x2) then (ref04_Mul_2 (fin26_3 x2 x0 x1 (0 : Int) (0 : Int) (S26_3.mk (0 : Int) (1 : Int) (1 : Int))).b2_0 (fin26_3 x2 x0 x1 (0 : Int) (0 : Int) (S26_3.mk (0 : Int) (1 : Int) (1 : Int))).b2_1 x0 x1) else ((0 : Int))
def ans26 : Array Value → Option (Bool × Value) := fun args => match args.toList with
  | [.agg c0, .int .i64 x2] => match c0.toList with
    | [.int .i64 x0, .int .i64 x1] => some (ref04_Power_ok x0 x1 x2, .tuple #[.agg #[.int .i64 (ref04_Power_0 x0 x1 x2), .int .i64 (ref04_Power_1 x0 x1 x2)], .int .i64 (ref04_Power_2 x0 x1 x2)])
    | _ => none
  | _ => none
def tab48 : Tab := (26, .cond ans26) :: tab47
def rt26_3 (v1 : Int) (b0_0 : Int) (b0_1 : Int) (b1_0 : Int) (b1_1 : Int) (s : S26_3) : Tr (Exit × Array Value × AH) :=
  .node 13 (Decidable.decide (s.v7 < v1))
  (.node 0 (ref04_Mul_ok s.b2_0 s.b2_1 b0_0 b0_1)
   (.node 23 (ref04_Mul_2 s.b2_0 s.b2_1 b0_0 b0_1 != (0 : Int))
    (.leaf (some (Exit.ret, #[.tuple #[(Go.Value.chan (Option.some 1) : Value)], .int .i64 (v1), .pointer (some ⟨0, 0, Option.none⟩), .tuple #[(Go.Value.chan (Option.some 1) : Value)], .pointer (some ⟨1, 0, Option.none⟩), .int .i64 (ref04_Mul_2 s.b2_0 s.b2_1 b0_0 b0_1), .pointer (some ⟨2, 0, Option.none⟩), .int .i64 (s.v7), .pointer (some ⟨3, 0, Option.none⟩), .int .i64 (ref04_Mul_2 s.b2_0 s.b2_1 b0_0 b0_1), .tuple #[(Go.Value.chan (Option.some 1) : Value)], .int .i64 (s.v7), .int .i64 (v1), .bool (Bool.true), .tuple #[(Go.Value.chan (Option.some 1) : Value)], .tuple #[(Go.Value.chan (Option.some 1) : Value)], .tuple #[.agg #[.int .i64 (ref04_Mul_0 s.b2_0 s.b2_1 b0_0 b0_1), .int .i64 (ref04_Mul_1 s.b2_0 s.b2_1 b0_0 b0_1)], .int .i64 (ref04_Mul_2 s.b2_0 s.b2_1 b0_0 b0_1)], .agg #[.int .i64 (s.b2_0), .int .i64 (s.b2_1)], .agg #[.int .i64 (b0_0), .int .i64 (b0_1)], .tuple #[.agg #[.int .i64 (ref04_Mul_0 s.b2_0 s.b2_1 b0_0 b0_1), .int .i64 (ref04_Mul_1 s.b2_0 s.b2_1 b0_0 b0_1)], .int .i64 (ref04_Mul_2 s.b2_0 s.b2_1 b0_0 b0_1)], .agg #[.int .i64 (ref04_Mul_0 s.b2_0 s.b2_1 b0_0 b0_1), .int .i64 (ref04_Mul_1 s.b2_0 s.b2_1 b0_0 b0_1)], .int .i64 (ref04_Mul_2 s.b2_0 s.b2_1 b0_0 b0_1), .int .i64 (ref04_Mul_2 s.b2_0 s.b2_1 b0_0 b0_1), .bool (Bool.true), .agg #[.int .i64 ((0 : Int)), .int .i64 ((0 : Int))], .int .i64 (ref04_Mul_2 s.b2_0 s.b2_1 b0_0 b0_1), .tuple #[(Go.Value.chan (Option.some 1) : Value)], .tuple #[(Go.Value.chan (Option.some 1) : Value)]], [some ⟨[.int .i64 (b0_0), .int .i64 (b0_1)], Bool.true, Bool.true, 0⟩, some ⟨[.int .i64 ((0 : Int)), .int .i64 ((0 : Int))], Bool.true, Bool.true, 0⟩, some ⟨[.int .i64 (s.b2_0), .int .i64 (s.b2_1)], Bool.true, Bool.true, 0⟩, some ⟨[.int .i64 (ref04_Mul_0 s.b2_0 s.b2_1 b0_0 b0_1), .int .i64 (ref04_Mul_1 s.b2_0 s.b2_1 b0_0 b0_1)], Bool.true, Bool.true, 0⟩])))
    (.leaf (some (.normal, T26_3 v1 b0_0 b0_1 b1_0 b1_1 ⟨IntKind.i64.wrap (s.v7 + (1 : Int)), ref04_Mul_0 s.b2_0 s.b2_1 b0_0 b0_1, ref04_Mul_1 s.b2_0 s.b2_1 b0_0 b0_1⟩, M26_3 v1 b0_0 b0_1 b1_0 b1_1 ⟨IntKind.i64.wrap (s.v7 + (1 : Int)), ref04_Mul_0 s.b2_0 s.b2_1 b0_0 b0_1, ref04_Mul_1 s.b2_0 s.b2_1 b0_0 b0_1⟩))))
   (.leaf none))
  (.leaf (some (Exit.exit 0, #[.tuple #[(Go.Value.chan (Option.some 1) : Value)], .int .i64 (v1), .pointer (some ⟨0, 0, Option.none⟩), .tuple #[(Go.Value.chan (Option.some 1) : Value)], .pointer (some ⟨1, 0, Option.none⟩), .tuple #[(Go.Value.chan (Option.some 1) : Value)], .pointer (some ⟨2, 0, Option.none⟩), .int .i64 (s.v7), .tuple #[(Go.Value.chan (Option.some 1) : Value)], .tuple #[(Go.Value.chan (Option.some 1) : Value)], .tuple #[(Go.Value.chan (Option.some 1) : Value)], .int .i64 (s.v7), .int .i64 (v1), .bool (Bool.false), .tuple #[(Go.Value.chan (Option.some 1) : Value)], .tuple #[(Go.Value.chan (Option.some 1) : Value)], .tuple #[(Go.Value.chan (Option.some 1) : Value)], .tuple #[(Go.Value.chan (Option.some 1) : Value)], .tuple #[(Go.Value.chan (Option.some 1) : Value)], .tuple #[(Go.Value.chan (Option.some 1) : Value)], .tuple #[(Go.Value.chan (Option.some 1) : Value)], .tuple #[(Go.Value.chan (Option.some 1) : Value)], .tuple #[(Go.Value.chan (Option.some 1) : Value)], .tuple #[(Go.Value.chan (Option.some 1) : Value)], .tuple #[(Go.Value.chan (Option.some 1) : Value)], .tuple #[(Go.Value.chan (Option.some 1) : Value)], .tuple #[(Go.Value.chan (Option.some 1) : Value)], .tuple #[(Go.Value.chan (Option.some 1) : Value)]], [some ⟨[.int .i64 (b0_0), .int .i64 (b0_1)], Bool.true, Bool.true, 0⟩, some ⟨[.int .i64 (b1_0), .int .i64 (b1_1)], Bool.true, Bool.true, 0⟩, some ⟨[.int .i64 (s.b2_0), .int .i64 (s.b2_1)], Bool.true, Bool.true, 0⟩])))
theorem rt26_3_eq  (v1 : Int) (b0_0 : Int) (b0_1 : Int) (b1_0 : Int) (b1_1 : Int) (s : S26_3) : roundT Tryd.prog (tb Tryd.prog tab47) (tbT Tryd.prog tab47) (o26) (noLoops) 0 300 b26_3 (T26_3 v1 b0_0 b0_1 b1_0 b1_1 s) (M26_3 v1 b0_0 b0_1 b1_0 b1_1 s) = rt26_3 v1 b0_0 b0_1 b1_0 b1_1 s := by kernel_rfl
theorem in26_3 (v1 : Int) (b0_0 : Int) (b0_1 : Int) (b1_0 : Int) (b1_1 : Int) (s s2 : S26_3) (h : nx26_3 v1 b0_0 b0_1 b1_0 b1_1 s = some s2) : (rt26_3 v1 b0_0 b0_1 b1_0 b1_1 s).res = some (.normal, T26_3 v1 b0_0 b0_1 b1_0 b1_1 s2, M26_3 v1 b0_0 b0_1 b1_0 b1_1 s2) := by
  unfold nx26_3 at h
  unfold rt26_3
  simp only [Tr.res] at h ⊢
  generalize (ref04_Mul_2 s.b2_0 s.b2_1 b0_0 b0_1 != (0 : Int)) = b2 at *
  generalize (ref04_Mul_ok s.b2_0 s.b2_1 b0_0 b0_1) = b1 at *
  generalize (Decidable.decide (s.v7 < v1)) = b0 at *
  cases b0 with
  | true =>
   cases b1 with
   | true =>
    cases b2 with
    | true =>
     first | cases h | (simp at h)
    | false =>
     first | (cases h; rfl) | (simp only [if_true, Bool.false_eq_true, if_false, Option.some.injEq] at h ⊢; subst h; rfl)
   | false =>
    first | cases h | (simp at h)
  | false =>
   first | cases h | (simp at h)
theorem out26_3 (v1 : Int) (b0_0 : Int) (b0_1 : Int) (b1_0 : Int) (b1_1 : Int) (s : S26_3) (r : Exit × Array Value × AH) (h : (ex26_3 v1 b0_0 b0_1 b1_0 b1_1 s).res = some r) : r.1 ≠ .normal ∧ (rt26_3 v1 b0_0 b0_1 b1_0 b1_1 s).res = some r := by
  unfold ex26_3 at h
  unfold rt26_3
  simp only [Tr.res] at h ⊢
  generalize (ref04_Mul_2 s.b2_0 s.b2_1 b0_0 b0_1 != (0 : Int)) = b2 at *
  generalize (ref04_Mul_ok s.b2_0 s.b2_1 b0_0 b0_1) = b1 at *
  generalize (Decidable.decide (s.v7 < v1)) = b0 at *
  cases b0 with
  | true =>
   cases b1 with
   | true =>
    cases b2 with
    | true =>
     first | (cases h; exact ⟨(by intro hh; cases hh), rfl⟩) | (simp only [if_true, Bool.false_eq_true, if_false, Option.some.injEq] at h ⊢; subst h; exact ⟨(by intro hh; cases hh), rfl⟩)
    | false =>
     first | cases h | (simp at h)
   | false =>
    first | cases h | (simp at h)
  | false =>
   first | (cases h; exact ⟨(by intro hh; cases hh), rfl⟩) | (simp only [if_true, Bool.false_eq_true, if_false, Option.some.injEq] at h ⊢; subst h; exact ⟨(by intro hh; cases hh), rfl⟩)
theorem lok26_3 {fn : Func} {c : Code} (hf : Tryd.prog.funcs[26]? = some fn) (hb : fn.body = some c) : LOk Tryd.prog (tb Tryd.prog tab47) o26.hints 0 c (noLoops) := by
  exact LOk.none
theorem sub26_3 {fn : Func} {c : Code} (hf : Tryd.prog.funcs[26]? = some fn) (hb : fn.body = some c) : ∀ b2 ∈ loopsOf b26_3, loopAt c (headId b2) = some b2 := by
  have h1 : ((Tryd.prog.funcs[26]?).bind (·.body)) = some c := by rw [hf]; exact hb
  intro b2 h2
  rw [show loopsOf b26_3 = [] by kernel_rfl] at h2
  cases h2
theorem lk26_3 (t : Array Value) (H : AH) (r : Exit × Array Value × AH) {fn : Func} {c : Code} (hf : Tryd.prog.funcs[26]? = some fn) (hb : fn.body = some c) (hr : (kn26_3 t H).res = some r) : ∃ n, evRound Tryd.prog (tb Tryd.prog tab47) o26.hints 0 n b26_3 t H = some r := by
  unfold kn26_3 at hr
  split at hr
  · rename_i w0 v1 w2 w3 w4 w5 w6 v7 w8 w9 w10 w11 w12 w13 w14 w15 w16 w17 w18 w19 w20 w21 w22 w23 w24 w25 w26 w27 b0_0 b0_1 b1_0 b1_1 b2_0 b2_1 ht
    split at hr
    · rename_i hv
      have hv := veqL_eq (veq_eq 5) _ _ hv
      simp only [List.cons.injEq, and_true] at hv
      obtain ⟨rfl, rfl, rfl, rfl, rfl, rfl, rfl, rfl, rfl, rfl, rfl, rfl, rfl, rfl, rfl, rfl, rfl, rfl, rfl, rfl, rfl, rfl, rfl, rfl, rfl, rfl⟩ := hv
      obtain rfl : t = T26_3 v1 b0_0 b0_1 b1_0 b1_1 ⟨v7, b2_0, b2_1⟩ := by rw [← Array.toArray_toList (xs := t), ht]; rfl
      exact loop_fin (tbT_ok _) (T26_3 v1 b0_0 b0_1 b1_0 b1_1) (M26_3 v1 b0_0 b0_1 b1_0 b1_1) (nx26_3 v1 b0_0 b0_1 b1_0 b1_1) (ex26_3 v1 b0_0 b0_1 b1_0 b1_1) (lok26_3 hf hb) (sub26_3 hf hb) (fun s s2 h => by rw [rt26_3_eq]; exact in26_3 v1 b0_0 b0_1 b1_0 b1_1 s s2 h) (fun s r h => by rw [rt26_3_eq]; exact out26_3 v1 b0_0 b0_1 b1_0 b1_1 s r h) _ _ _ hr
    · cases hr
  · cases hr
theorem lok26z {fn : Func} {c : Code} (hf : Tryd.prog.funcs[26]? = some fn) (hb : fn.body = some c) : LOk Tryd.prog (tb Tryd.prog tab47) o26.hints 0 c (lt26_1) := by
  intro id ans h b hl t H r hr
  unfold lt26_1 at h
  split at h
  · rename_i he
    subst he
    simp only [Option.some.injEq] at h
    subst h
    obtain rfl : b = b26_3 := by unfold b26_3; rw [hf]; simp only [Option.bind_some, hb, hl, Option.getD_some]
    exact lk26_3 t H r hf hb hr
  cases h
def tree26 (x0 : Int) (x1 : Int) (x2 : Int) : Tr Value :=
  .node 13 (Decidable.decide ((fin26_3 x2 x0 x1 (0 : Int) (0 : Int) (S26_3.mk (0 : Int) (1 : Int) (1 : Int))).v7 < x2))
  (.node 0 (ref04_Mul_ok (fin26_3 x2 x0 x1 (0 : Int) (0 : Int) (S26_3.mk (0 : Int) (1 : Int) (1 : Int))).b2_0 (fin26_3 x2 x0 x1 (0 : Int) (0 : Int) (S26_3.mk (0 : Int) (1 : Int) (1 : Int))).b2_1 x0 x1)
   (.node 23 (ref04_Mul_2 (fin26_3 x2 x0 x1 (0 : Int) (0 : Int) (S26_3.mk (0 : Int) (1 : Int) (1 : Int))).b2_0 (fin26_3 x2 x0 x1 (0 : Int) (0 : Int) (S26_3.mk (0 : Int) (1 : Int) (1 : Int))).b2_1 x0 x1 != (0 : Int))
    (.leaf (some (.tuple #[.agg #[.int .i64 ((0 : Int)), .int .i64 ((0 : Int))], .int .i64 (ref04_Mul_2 (fin26_3 x2 x0 x1 (0 : Int) (0 : Int) (S26_3.mk (0 : Int) (1 : Int) (1 : Int))).b2_0 (fin26_3 x2 x0 x1 (0 : Int) (0 : Int) (S26_3.mk (0 : Int) (1 : Int) (1 : Int))).b2_1 x0 x1)])))
    (.leaf none))
   (.leaf none))
  (.leaf (some (.tuple #[.agg #[.int .i64 ((fin26_3 x2 x0 x1 (0 : Int) (0 : Int) (S26_3.mk (0 : Int) (1 : Int) (1 : Int))).b2_0), .int .i64 ((fin26_3 x2 x0 x1 (0 : Int) (0 : Int) (S26_3.mk (0 : Int) (1 : Int) (1 : Int))).b2_1)], .int .i64 ((0 : Int))])))
theorem tree26_eq (x0 : Int) (x1 : Int) (x2 : Int) : vals (evFnT Tryd.prog (tb Tryd.prog tab47) (tbT Tryd.prog tab47) o26 (lt26_1) 300 26 #[.agg #[.int .i64 x0, .int .i64 x1], .int .i64 x2] []) = tree26 x0 x1 x2 := by kernel_rfl
theorem tree26_res (x0 : Int) (x1 : Int) (x2 : Int) : (tree26 x0 x1 x2).res = if ref04_Power_ok x0 x1 x2 = true then some (.tuple #[.agg #[.int .i64 (ref04_Power_0 x0 x1 x2), .int .i64 (ref04_Power_1 x0 x1 x2)], .int .i64 (ref04_Power_2 x0 x1 x2)]) else none := by
  unfold tree26 ref04_Power_ok ref04_Power_0 ref04_Power_1 ref04_Power_2
  simp only [Tr.res]
  generalize (ref04_Mul_2 (fin26_3 x2 x0 x1 (0 : Int) (0 : Int) (S26_3.mk (0 : Int) (1 : Int) (1 : Int))).b2_0 (fin26_3 x2 x0 x1 (0 : Int) (0 : Int) (S26_3.mk (0 : Int) (1 : Int) (1 : Int))).b2_1 x0 x1 != (0 : Int)) = b2
  generalize (ref04_Mul_ok (fin26_3 x2 x0 x1 (0 : Int) (0 : Int) (S26_3.mk (0 : Int) (1 : Int) (1 : Int))).b2_0 (fin26_3 x2 x0 x1 (0 : Int) (0 : Int) (S26_3.mk (0 : Int) (1 : Int) (1 : Int))).b2_1 x0 x1) = b1
  generalize (Decidable.decide ((fin26_3 x2 x0 x1 (0 : Int) (0 : Int) (S26_3.mk (0 : Int) (1 : Int) (1 : Int))).v7 < x2)) = b0
  cases b0 with
  | true =>
   cases b1 with
   | true =>
    cases b2 with
    | true =>
     first | (simp only [if_true, Bool.false_eq_true, if_false]; done) | rfl | (simp; done)
    | false =>
     first | (simp only [if_true, Bool.false_eq_true, if_false]; done) | rfl | (simp; done)
   | false =>
    first | (simp only [if_true, Bool.false_eq_true, if_false]; done) | rfl | (simp; done)
  | false =>
   first | (simp only [if_true, Bool.false_eq_true, if_false]; done) | rfl | (simp; done)
theorem var26 (args : Array Value) (b : Bool) (v : Value) (h : ans26 args = some (b, v)) (hb : b = true) : args.toList.all flat = true ∧ flat v = true ∧ ∃ o lt L, (∀ fn c, Tryd.prog.funcs[26]? = some fn → fn.body = some c → LOk Tryd.prog (tb Tryd.prog tab47) o.hints 0 c lt) ∧ (vals (evFnT Tryd.prog (tb Tryd.prog tab47) (tbT Tryd.prog tab47) o lt L 26 args [])).res = some v := by
  unfold ans26 at h
  split at h
  · rename_i c0 x2 h0
    split at h
    · rename_i x0 x1 k1
      simp only [Option.some.injEq, Prod.mk.injEq] at h
      obtain ⟨rfl, rfl⟩ := h
      obtain rfl : c0 = #[.int .i64 x0, .int .i64 x1] := by rw [← Array.toArray_toList (xs := c0), k1]
      obtain rfl : args = #[.agg #[.int .i64 x0, .int .i64 x1], .int .i64 x2] := by rw [← Array.toArray_toList (xs := args), h0]
      exact ⟨rfl, rfl, o26, lt26_1, 300, fun _ _ hf hb => lok26z hf hb, by rw [tree26_eq, tree26_res, if_pos hb]⟩
    · cases h
  · cases h
theorem tab48_ok : TabOk Tryd.prog tab48 := tab_condL mixed tab47_ok (by decide) fun args b v h hb => var26 args b v h hb
/- gangsaw/gangsawlaw04.FractionPowers -/
def o5 : Opts := ⟨[(25, 0), (2000002, 0), (2000003, 0), (2000005, 0)], [], []⟩
def law04_FractionPowers_ok (x0 : Int) (x1 : Int) (x2 : Int) : Bool :=
  if fraction_Power_ok x0 x1 x2 then (if bif bif !ref04_Valid_0 x0 x1 then Bool.true else Decidable.decide (x2 < (0 : Int)) then Bool.true else Decidable.decide (x2 > (64 : Int)) then (Bool.true) else if ref04_Power_ok x0 x1 x2 then (Bool.true) else (Bool.false)) else (Bool.false)
def law04_FractionPowers_0 (x0 : Int) (x1 : Int) (x2 : Int) : Bool :=
  if bif bif !ref04_Valid_0 x0 x1 then Bool.true else Decidable.decide (x2 < (0 : Int)) then Bool.true else Decidable.decide (x2 > (64 : Int)) then (bif bif Bool.true then fraction_Power_2 x0 x1 x2 == (1 : Int) else Bool.false then fraction_Power_0 x0 x1 x2 == (0 : Int) && (fraction_Power_1 x0 x1 x2 == (0 : Int) && Bool.true) else Bool.false) else (bif bif Bool.true then fraction_Power_2 x0 x1 x2 == ref04_Power_2 x0 x1 x2 else Bool.false then fraction_Power_0 x0 x1 x2 == ref04_Power_0 x0 x1 x2 && (fraction_Power_1 x0 x1 x2 == ref04_Power_1 x0 x1 x2 && Bool.true) else Bool.false)
def ans5 : Array Value → Option (Bool × Value) := fun args => match args.toList with
  | [.agg c0, .int .i64 x2] => match c0.toList with
    | [.int .i64 x0, .int .i64 x1] => some (law04_FractionPowers_ok x0 x1 x2, .bool (law04_FractionPowers_0 x0 x1 x2))
    | _ => none
  | _ => none
def tab49 : Tab := (5, .cond ans5) :: tab48
theorem lok5z {fn : Func} {c : Code} (hf : Tryd.prog.funcs[5]? = some fn) (hb : fn.body = some c) : LOk Tryd.prog (tb Tryd.prog tab48) o5.hints 0 c (noLoops) := by
  exact LOk.none
def tree5 (x0 : Int) (x1 : Int) (x2 : Int) : Tr Value :=
  .node 0 (fraction_Power_ok x0 x1 x2)
  (.node 25 (bif bif !ref04_Valid_0 x0 x1 then Bool.true else Decidable.decide (x2 < (0 : Int)) then Bool.true else Decidable.decide (x2 > (64 : Int)))
   (.leaf (some (.bool (bif bif Bool.true then fraction_Power_2 x0 x1 x2 == (1 : Int) else Bool.false then fraction_Power_0 x0 x1 x2 == (0 : Int) && (fraction_Power_1 x0 x1 x2 == (0 : Int) && Bool.true) else Bool.false))))
   (.node 0 (ref04_Power_ok x0 x1 x2)
    (.leaf (some (.bool (bif bif Bool.true then fraction_Power_2 x0 x1 x2 == ref04_Power_2 x0 x1 x2 else Bool.false then fraction_Power_0 x0 x1 x2 == ref04_Power_0 x0 x1 x2 && (fraction_Power_1 x0 x1 x2 == ref04_Power_1 x0 x1 x2 && Bool.true) else Bool.false))))
    (.leaf none)))
  (.leaf none)
theorem tree5_eq (x0 : Int) (x1 : Int) (x2 : Int) : vals (evFnT Tryd.prog (tb Tryd.prog tab48) (tbT Tryd.prog tab48) o5 (noLoops) 300 5 #[.agg #[.int .i64 x0, .int .i64 x1], .int .i64 x2] []) = tree5 x0 x1 x2 := by kernel_rfl
theorem tree5_res (x0 : Int) (x1 : Int) (x2 : Int) : (tree5 x0 x1 x2).res = if law04_FractionPowers_ok x0 x1 x2 = true then some (.bool (law04_FractionPowers_0 x0 x1 x2)) else none := by
  unfold tree5 law04_FractionPowers_ok law04_FractionPowers_0
  simp only [Tr.res]
  generalize (bif bif !ref04_Valid_0 x0 x1 then Bool.true else Decidable.decide (x2 < (0 : Int)) then Bool.true else Decidable.decide (x2 > (64 : Int))) = b1
  generalize (fraction_Power_ok x0 x1 x2) = b0
  generalize (ref04_Power_ok x0 x1 x2) = b2
  cases b0 with
  | true =>
   cases b1 with
   | true =>
    first | (simp only [if_true, Bool.false_eq_true, if_false]; done) | rfl | (simp; done)
   | false =>
    cases b2 with
    | true =>
     first | (simp only [if_true, Bool.false_eq_true, if_false]; done) | rfl | (simp; done)
    | false =>
     first | (simp only [if_true, Bool.false_eq_true, if_false]; done) | rfl | (simp; done)
  | false =>
   first | (simp only [if_true, Bool.false_eq_true, if_false]; done) | rfl | (simp; done)
theorem var5 (args : Array Value) (b : Bool) (v : Value) (h : ans5 args = some (b, v)) (hb : b = true) : args.toList.all flat = true ∧ flat v = true ∧ ∃ o lt L, (∀ fn c, Tryd.prog.funcs[5]? = some fn → fn.body = some c → LOk Tryd.prog (tb Tryd.prog tab48) o.hints 0 c lt) ∧ (vals (evFnT Tryd.prog (tb Tryd.prog tab48) (tbT Tryd.prog tab48) o lt L 5 args [])).res = some v := by
  unfold ans5 at h
  split at h
  · rename_i c0 x2 h0
    split at h
    · rename_i x0 x1 k1
      simp only [Option.some.injEq, Prod.mk.injEq] at h
      obtain ⟨rfl, rfl⟩ := h
      obtain rfl : c0 = #[.int .i64 x0, .int .i64 x1] := by rw [← Array.toArray_toList (xs := c0), k1]
      obtain rfl : args = #[.agg #[.int .i64 x0, .int .i64 x1], .int .i64 x2] := by rw [← Array.toArray_toList (xs := args), h0]
      exact ⟨rfl, rfl, o5, noLoops, 300, fun _ _ hf hb => lok5z hf hb, by rw [tree5_eq, tree5_res, if_pos hb]⟩
    · cases h
  · cases h
theorem tab49_ok : TabOk Tryd.prog tab49 := tab_condL mixed tab48_ok (by decide) fun args b v h hb => var5 args b v h hb
end Go.Proofs.YtfpcmckachpnpaaDoor.Vx
