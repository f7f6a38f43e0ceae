/- The answers of the functions of the package and of its reference, read off their texts. -/
import Derived.Test.YtfpcmckachpnpaaDoorT1
namespace Go.Proofs.YtfpcmckachpnpaaDoor.Vx
open Go Go.RowKit Go.Proofs
set_option maxRecDepth 100000
set_option linter.unusedVariables false
set_option linter.unusedSimpArgs false

/- gangsaw/gangsawref04.times -/
def ans52t : Ans := fun args => match args.toList with
  | [.int .i64 x0, .int .i64 x1] => some (.agg #[.int .u64 (ref04_times_0 x0 x1), .int .u64 (ref04_times_1 x0 x1), .bool (ref04_times_2 x0 x1)])
  | _ => none
def tab16 : Tab := (52, .ans ans52t) :: tab15
theorem wrap_in (x : Int) : inU (IntKind.u64.wrap x) = true := by
  unfold inU
  rw [IntKind.wrap_u64]
  simp only [Bool.and_eq_true, decide_eq_true_eq]
  omega
theorem size_in (x : Int) : inU (ref04_size_0 x) = true := by unfold ref04_size_0; split <;> exact wrap_in _
theorem size_in2 (x : Int) : inU (fraction_size_0 x) = true := by unfold fraction_size_0; split <;> exact wrap_in _
theorem ok52 (x0 x1 : Int) : ref04_times_ok x0 x1 = true := by unfold ref04_times_ok; rw [size_in, size_in]; rfl
theorem tab16_ok : TabOk Tryd.prog tab16 := tab_over tab15_ok fun args v h H => by
  unfold ans52t at h
  split at h
  · rename_i x0 x1 h0
    injection h with h; subst h
    obtain rfl : args = #[.int .i64 x0, .int .i64 x1] := by rw [← Array.toArray_toList (xs := args), h0]
    show (if ref04_times_ok x0 x1 = true then some (_, H) else none) = _
    rw [if_pos (ok52 x0 x1)]
  · cases h

/- gangsaw/fraction.compare -/
def fraction_compare_ok (x0 x1 x2 x3 : Int) : Bool :=
  if !Decidable.decide (x0 < 0) == Decidable.decide (x2 < 0) then (Bool.true) else if fraction_times_ok (fraction_size_0 x0) (fraction_size_0 x3) then (if fraction_times_ok (fraction_size_0 x2) (fraction_size_0 x1) then (Bool.true) else (Bool.false)) else (Bool.false)
def fraction_compare_0 (x0 x1 x2 x3 : Int) : Int :=
  if !Decidable.decide (x0 < 0) == Decidable.decide (x2 < 0) then (if Decidable.decide (x0 < 0) then (-1) else (1)) else if Decidable.decide (x0 < 0) then (_fraction_wide_compare_0 (fraction_times_0 (fraction_size_0 x2) (fraction_size_0 x1)) (fraction_times_1 (fraction_size_0 x2) (fraction_size_0 x1)) (fraction_times_0 (fraction_size_0 x0) (fraction_size_0 x3)) (fraction_times_1 (fraction_size_0 x0) (fraction_size_0 x3))) else (_fraction_wide_compare_0 (fraction_times_0 (fraction_size_0 x0) (fraction_size_0 x3)) (fraction_times_1 (fraction_size_0 x0) (fraction_size_0 x3)) (fraction_times_0 (fraction_size_0 x2) (fraction_size_0 x1)) (fraction_times_1 (fraction_size_0 x2) (fraction_size_0 x1)))
def ans54 : Array Value → Option (Bool × Value) := fun args => match args.toList with
  | [.agg c0, .agg c1] => match c0.toList, c1.toList with
    | [.int .i64 x0, .int .i64 x1], [.int .i64 x2, .int .i64 x3] => some (fraction_compare_ok x0 x1 x2 x3, .int .i64 (fraction_compare_0 x0 x1 x2 x3))
    | _, _ => none
  | _ => none
def tab17 : Tab := (54, .cond ans54) :: tab16
def tree54 (x0 x1 x2 x3 : Int) : Tr Value :=
  .node 13 (!Decidable.decide (x0 < 0) == Decidable.decide (x2 < 0))
  (.node 16 (Decidable.decide (x0 < 0))
   (.leaf (some (.int .i64 (-1))))
   (.leaf (some (.int .i64 (1)))))
  (.node 0 (fraction_times_ok (fraction_size_0 x0) (fraction_size_0 x3))
   (.node 0 (fraction_times_ok (fraction_size_0 x2) (fraction_size_0 x1))
    (.node 33 (Decidable.decide (x0 < 0))
     (.leaf (some (.int .i64 (_fraction_wide_compare_0 (fraction_times_0 (fraction_size_0 x2) (fraction_size_0 x1)) (fraction_times_1 (fraction_size_0 x2) (fraction_size_0 x1)) (fraction_times_0 (fraction_size_0 x0) (fraction_size_0 x3)) (fraction_times_1 (fraction_size_0 x0) (fraction_size_0 x3))))))
     (.leaf (some (.int .i64 (_fraction_wide_compare_0 (fraction_times_0 (fraction_size_0 x0) (fraction_size_0 x3)) (fraction_times_1 (fraction_size_0 x0) (fraction_size_0 x3)) (fraction_times_0 (fraction_size_0 x2) (fraction_size_0 x1)) (fraction_times_1 (fraction_size_0 x2) (fraction_size_0 x1)))))))
    (.leaf none))
   (.leaf none))
theorem tree54_eq (x0 x1 x2 x3 : Int) : vals (evFnT Tryd.prog (tb Tryd.prog tab16) (tbT Tryd.prog tab16) ⟨[(13, 0), (16, 0), (33, 0)], [], []⟩ noLoops 300 54 #[.agg #[.int .i64 x0, .int .i64 x1], .agg #[.int .i64 x2, .int .i64 x3]] []) = tree54 x0 x1 x2 x3 := by kernel_rfl
theorem tree54_res (x0 x1 x2 x3 : Int) : (tree54 x0 x1 x2 x3).res = if fraction_compare_ok x0 x1 x2 x3 = true then some (.int .i64 (fraction_compare_0 x0 x1 x2 x3)) else none := by
  unfold tree54 fraction_compare_ok fraction_compare_0
  simp only [Tr.res]
  generalize (!Decidable.decide (x0 < 0) == Decidable.decide (x2 < 0)) = b0
  generalize (Decidable.decide (x0 < 0)) = b1
  generalize (fraction_times_ok (fraction_size_0 x0) (fraction_size_0 x3)) = b2
  generalize (fraction_times_ok (fraction_size_0 x2) (fraction_size_0 x1)) = b3
  cases b0 with
  | true =>
   cases b1 with
   | true =>
    first | (simp only [if_true, Bool.false_eq_true, if_false]; done) | rfl
   | false =>
    first | (simp only [if_true, Bool.false_eq_true, if_false]; done) | rfl
  | false =>
   cases b2 with
   | true =>
    cases b3 with
    | true =>
     cases b1 with
     | true =>
      first | (simp only [if_true, Bool.false_eq_true, if_false]; done) | rfl
     | false =>
      first | (simp only [if_true, Bool.false_eq_true, if_false]; done) | rfl
    | false =>
     first | (simp only [if_true, Bool.false_eq_true, if_false]; done) | rfl
   | false =>
    first | (simp only [if_true, Bool.false_eq_true, if_false]; done) | rfl
theorem tab17_ok : TabOk Tryd.prog tab17 := tab_cond mixed tab16_ok (by decide) fun args b v h hb => by
  unfold ans54 at h
  split at h
  · rename_i c0 c1 h0
    split at h
    · rename_i x0 x1 x2 x3 k1 k2
      injection h with h; injection h with h1 h2; subst h1 h2
      obtain rfl : c0 = #[.int .i64 x0, .int .i64 x1] := by rw [← Array.toArray_toList (xs := c0), k1]
      obtain rfl : c1 = #[.int .i64 x2, .int .i64 x3] := by rw [← Array.toArray_toList (xs := c1), k2]
      obtain rfl : args = #[.agg #[.int .i64 x0, .int .i64 x1], .agg #[.int .i64 x2, .int .i64 x3]] := by rw [← Array.toArray_toList (xs := args), h0]
      exact ⟨rfl, rfl, ⟨[(13, 0), (16, 0), (33, 0)], [], []⟩, 300, by rw [tree54_eq, tree54_res, if_pos hb]⟩
    · cases h
  · cases h

/- gangsaw/gangsawref04.above -/
def tab18 : Tab := (72, .inl ⟨[(2000001, 0)], [], []⟩ 300) :: tab17
theorem tab18_ok : TabOk Tryd.prog tab18 := tab_inl mixed tab17_ok _ _ _

/- gangsaw/gangsawref04.plus -/
def tab19 : Tab := (51, .inl ⟨[(17, 0), (42, 0), (32, 2), (59, 2)], [], []⟩ 300) :: tab18
theorem tab19_ok : TabOk Tryd.prog tab19 := tab_inl mixed tab18_ok _ _ _

/- gangsaw/gangsawref04.minus -/
def tab20 : Tab := (53, .inl ⟨[], [], []⟩ 300) :: tab19
theorem tab20_ok : TabOk Tryd.prog tab20 := tab_inl mixed tab19_ok _ _ _

/- (gangsaw/gangsawref04.wide).zero -/
def tab21 : Tab := (55, .inl ⟨[(2000001, 0)], [], []⟩ 300) :: tab20
theorem tab21_ok : TabOk Tryd.prog tab21 := tab_inl mixed tab20_ok _ _ _

/- gangsaw/gangsawref04.Cmp -/
def ref04_Cmp_ok (x0 x1 x2 x3 : Int) : Bool :=
  if ref04_times_2 x0 x3 == !ref04_times_2 x2 x1 then (if Int.ofNat (((ref04_times_1 x0 x3).toNat + (ref04_times_1 x2 x1).toNat + 0) / Go.Extern.MathBitsCarry.m64) == ↑0 then (Bool.true) else if Int.ofNat (((ref04_times_1 x0 x3).toNat + (ref04_times_1 x2 x1).toNat + 0) / Go.Extern.MathBitsCarry.m64) == ↑(0 + 1) then (Bool.true) else (Bool.false)) else if bif Decidable.decide (ref04_times_0 x2 x1 > ref04_times_0 x0 x3) then Bool.true else bif ref04_times_0 x2 x1 == ref04_times_0 x0 x3 then Decidable.decide (ref04_times_1 x2 x1 > ref04_times_1 x0 x3) else Bool.false then (if Int.ofNat (if (ref04_times_1 x2 x1).toNat < (ref04_times_1 x0 x3).toNat + 0 then 1 else 0) == ↑0 then (Bool.true) else if Int.ofNat (if (ref04_times_1 x2 x1).toNat < (ref04_times_1 x0 x3).toNat + 0 then 1 else 0) == ↑(0 + 1) then (Bool.true) else (Bool.false)) else if Int.ofNat (if (ref04_times_1 x0 x3).toNat < (ref04_times_1 x2 x1).toNat + 0 then 1 else 0) == ↑0 then (Bool.true) else if Int.ofNat (if (ref04_times_1 x0 x3).toNat < (ref04_times_1 x2 x1).toNat + 0 then 1 else 0) == ↑(0 + 1) then (Bool.true) else (Bool.false)
def ref04_Cmp_0 (x0 x1 x2 x3 : Int) : Int :=
  if ref04_times_2 x0 x3 == !ref04_times_2 x2 x1 then (if Int.ofNat (((ref04_times_1 x0 x3).toNat + (ref04_times_1 x2 x1).toNat + 0) / Go.Extern.MathBitsCarry.m64) == ↑0 then (if bif Int.ofNat (((ref04_times_0 x0 x3).toNat + (ref04_times_0 x2 x1).toNat + 0) % Go.Extern.MathBitsCarry.m64) == 0 then Int.ofNat (((ref04_times_1 x0 x3).toNat + (ref04_times_1 x2 x1).toNat + 0) % Go.Extern.MathBitsCarry.m64) == 0 else Bool.false then (0) else if ref04_times_2 x0 x3 then (-1) else (1)) else if bif Int.ofNat (((ref04_times_0 x0 x3).toNat + (ref04_times_0 x2 x1).toNat + 1) % Go.Extern.MathBitsCarry.m64) == 0 then Int.ofNat (((ref04_times_1 x0 x3).toNat + (ref04_times_1 x2 x1).toNat + 0) % Go.Extern.MathBitsCarry.m64) == 0 else Bool.false then (0) else if ref04_times_2 x0 x3 then (-1) else (1)) else if bif Decidable.decide (ref04_times_0 x2 x1 > ref04_times_0 x0 x3) then Bool.true else bif ref04_times_0 x2 x1 == ref04_times_0 x0 x3 then Decidable.decide (ref04_times_1 x2 x1 > ref04_times_1 x0 x3) else Bool.false then (if Int.ofNat (if (ref04_times_1 x2 x1).toNat < (ref04_times_1 x0 x3).toNat + 0 then 1 else 0) == ↑0 then (if bif Int.ofNat (((ref04_times_0 x2 x1).toNat + Go.Extern.MathBitsCarry.m64 - (ref04_times_0 x0 x3).toNat - 0) % Go.Extern.MathBitsCarry.m64) == 0 then Int.ofNat (((ref04_times_1 x2 x1).toNat + Go.Extern.MathBitsCarry.m64 - (ref04_times_1 x0 x3).toNat - 0) % Go.Extern.MathBitsCarry.m64) == 0 else Bool.false then (0) else if !ref04_times_2 x2 x1 then (-1) else (1)) else if bif Int.ofNat (((ref04_times_0 x2 x1).toNat + Go.Extern.MathBitsCarry.m64 - (ref04_times_0 x0 x3).toNat - 1) % Go.Extern.MathBitsCarry.m64) == 0 then Int.ofNat (((ref04_times_1 x2 x1).toNat + Go.Extern.MathBitsCarry.m64 - (ref04_times_1 x0 x3).toNat - 0) % Go.Extern.MathBitsCarry.m64) == 0 else Bool.false then (0) else if !ref04_times_2 x2 x1 then (-1) else (1)) else if Int.ofNat (if (ref04_times_1 x0 x3).toNat < (ref04_times_1 x2 x1).toNat + 0 then 1 else 0) == ↑0 then (if bif Int.ofNat (((ref04_times_0 x0 x3).toNat + Go.Extern.MathBitsCarry.m64 - (ref04_times_0 x2 x1).toNat - 0) % Go.Extern.MathBitsCarry.m64) == 0 then Int.ofNat (((ref04_times_1 x0 x3).toNat + Go.Extern.MathBitsCarry.m64 - (ref04_times_1 x2 x1).toNat - 0) % Go.Extern.MathBitsCarry.m64) == 0 else Bool.false then (0) else if ref04_times_2 x0 x3 then (-1) else (1)) else if bif Int.ofNat (((ref04_times_0 x0 x3).toNat + Go.Extern.MathBitsCarry.m64 - (ref04_times_0 x2 x1).toNat - 1) % Go.Extern.MathBitsCarry.m64) == 0 then Int.ofNat (((ref04_times_1 x0 x3).toNat + Go.Extern.MathBitsCarry.m64 - (ref04_times_1 x2 x1).toNat - 0) % Go.Extern.MathBitsCarry.m64) == 0 else Bool.false then (0) else if ref04_times_2 x0 x3 then (-1) else (1)
def ans28 : Array Value → Option (Bool × Value) := fun args => match args.toList with
  | [.agg c0, .agg c1] => match c0.toList, c1.toList with
    | [.int .i64 x0, .int .i64 x1], [.int .i64 x2, .int .i64 x3] => some (ref04_Cmp_ok x0 x1 x2 x3, .int .i64 (ref04_Cmp_0 x0 x1 x2 x3))
    | _, _ => none
  | _ => none
def tab22 : Tab := (28, .cond ans28) :: tab21
def tree28 (x0 x1 x2 x3 : Int) : Tr Value :=
  .node 17 (ref04_times_2 x0 x3 == !ref04_times_2 x2 x1)
  (.node 32 (Int.ofNat (((ref04_times_1 x0 x3).toNat + (ref04_times_1 x2 x1).toNat + 0) / Go.Extern.MathBitsCarry.m64) == ↑0)
   (.node 18 (bif Int.ofNat (((ref04_times_0 x0 x3).toNat + (ref04_times_0 x2 x1).toNat + 0) % Go.Extern.MathBitsCarry.m64) == 0 then Int.ofNat (((ref04_times_1 x0 x3).toNat + (ref04_times_1 x2 x1).toNat + 0) % Go.Extern.MathBitsCarry.m64) == 0 else Bool.false)
    (.leaf (some (.int .i64 (0))))
    (.node 21 (ref04_times_2 x0 x3)
     (.leaf (some (.int .i64 (-1))))
     (.leaf (some (.int .i64 (1))))))
   (.node 32 (Int.ofNat (((ref04_times_1 x0 x3).toNat + (ref04_times_1 x2 x1).toNat + 0) / Go.Extern.MathBitsCarry.m64) == ↑(0 + 1))
    (.node 18 (bif Int.ofNat (((ref04_times_0 x0 x3).toNat + (ref04_times_0 x2 x1).toNat + 1) % Go.Extern.MathBitsCarry.m64) == 0 then Int.ofNat (((ref04_times_1 x0 x3).toNat + (ref04_times_1 x2 x1).toNat + 0) % Go.Extern.MathBitsCarry.m64) == 0 else Bool.false)
     (.leaf (some (.int .i64 (0))))
     (.node 21 (ref04_times_2 x0 x3)
      (.leaf (some (.int .i64 (-1))))
      (.leaf (some (.int .i64 (1))))))
    (.leaf none)))
  (.node 42 (bif Decidable.decide (ref04_times_0 x2 x1 > ref04_times_0 x0 x3) then Bool.true else bif ref04_times_0 x2 x1 == ref04_times_0 x0 x3 then Decidable.decide (ref04_times_1 x2 x1 > ref04_times_1 x0 x3) else Bool.false)
   (.node 59 (Int.ofNat (if (ref04_times_1 x2 x1).toNat < (ref04_times_1 x0 x3).toNat + 0 then 1 else 0) == ↑0)
    (.node 18 (bif Int.ofNat (((ref04_times_0 x2 x1).toNat + Go.Extern.MathBitsCarry.m64 - (ref04_times_0 x0 x3).toNat - 0) % Go.Extern.MathBitsCarry.m64) == 0 then Int.ofNat (((ref04_times_1 x2 x1).toNat + Go.Extern.MathBitsCarry.m64 - (ref04_times_1 x0 x3).toNat - 0) % Go.Extern.MathBitsCarry.m64) == 0 else Bool.false)
     (.leaf (some (.int .i64 (0))))
     (.node 21 (!ref04_times_2 x2 x1)
      (.leaf (some (.int .i64 (-1))))
      (.leaf (some (.int .i64 (1))))))
    (.node 59 (Int.ofNat (if (ref04_times_1 x2 x1).toNat < (ref04_times_1 x0 x3).toNat + 0 then 1 else 0) == ↑(0 + 1))
     (.node 18 (bif Int.ofNat (((ref04_times_0 x2 x1).toNat + Go.Extern.MathBitsCarry.m64 - (ref04_times_0 x0 x3).toNat - 1) % Go.Extern.MathBitsCarry.m64) == 0 then Int.ofNat (((ref04_times_1 x2 x1).toNat + Go.Extern.MathBitsCarry.m64 - (ref04_times_1 x0 x3).toNat - 0) % Go.Extern.MathBitsCarry.m64) == 0 else Bool.false)
      (.leaf (some (.int .i64 (0))))
      (.node 21 (!ref04_times_2 x2 x1)
       (.leaf (some (.int .i64 (-1))))
       (.leaf (some (.int .i64 (1))))))
     (.leaf none)))
   (.node 59 (Int.ofNat (if (ref04_times_1 x0 x3).toNat < (ref04_times_1 x2 x1).toNat + 0 then 1 else 0) == ↑0)
    (.node 18 (bif Int.ofNat (((ref04_times_0 x0 x3).toNat + Go.Extern.MathBitsCarry.m64 - (ref04_times_0 x2 x1).toNat - 0) % Go.Extern.MathBitsCarry.m64) == 0 then Int.ofNat (((ref04_times_1 x0 x3).toNat + Go.Extern.MathBitsCarry.m64 - (ref04_times_1 x2 x1).toNat - 0) % Go.Extern.MathBitsCarry.m64) == 0 else Bool.false)
     (.leaf (some (.int .i64 (0))))
     (.node 21 (ref04_times_2 x0 x3)
      (.leaf (some (.int .i64 (-1))))
      (.leaf (some (.int .i64 (1))))))
    (.node 59 (Int.ofNat (if (ref04_times_1 x0 x3).toNat < (ref04_times_1 x2 x1).toNat + 0 then 1 else 0) == ↑(0 + 1))
     (.node 18 (bif Int.ofNat (((ref04_times_0 x0 x3).toNat + Go.Extern.MathBitsCarry.m64 - (ref04_times_0 x2 x1).toNat - 1) % Go.Extern.MathBitsCarry.m64) == 0 then Int.ofNat (((ref04_times_1 x0 x3).toNat + Go.Extern.MathBitsCarry.m64 - (ref04_times_1 x2 x1).toNat - 0) % Go.Extern.MathBitsCarry.m64) == 0 else Bool.false)
      (.leaf (some (.int .i64 (0))))
      (.node 21 (ref04_times_2 x0 x3)
       (.leaf (some (.int .i64 (-1))))
       (.leaf (some (.int .i64 (1))))))
     (.leaf none))))
theorem tree28_eq (x0 x1 x2 x3 : Int) : vals (evFnT Tryd.prog (tb Tryd.prog tab21) (tbT Tryd.prog tab21) ⟨[(18, 0), (21, 0)], [], []⟩ noLoops 300 28 #[.agg #[.int .i64 x0, .int .i64 x1], .agg #[.int .i64 x2, .int .i64 x3]] []) = tree28 x0 x1 x2 x3 := by kernel_rfl
theorem tree28_res (x0 x1 x2 x3 : Int) : (tree28 x0 x1 x2 x3).res = if ref04_Cmp_ok x0 x1 x2 x3 = true then some (.int .i64 (ref04_Cmp_0 x0 x1 x2 x3)) else none := by
  unfold tree28 ref04_Cmp_ok ref04_Cmp_0
  simp only [Tr.res]
  generalize (ref04_times_2 x0 x3 == !ref04_times_2 x2 x1) = b0
  generalize (Int.ofNat (((ref04_times_1 x0 x3).toNat + (ref04_times_1 x2 x1).toNat + 0) / Go.Extern.MathBitsCarry.m64) == ↑0) = b1
  generalize (bif Int.ofNat (((ref04_times_0 x0 x3).toNat + (ref04_times_0 x2 x1).toNat + 0) % Go.Extern.MathBitsCarry.m64) == 0 then Int.ofNat (((ref04_times_1 x0 x3).toNat + (ref04_times_1 x2 x1).toNat + 0) % Go.Extern.MathBitsCarry.m64) == 0 else Bool.false) = b2
  generalize (ref04_times_2 x0 x3) = b3
  generalize (Int.ofNat (((ref04_times_1 x0 x3).toNat + (ref04_times_1 x2 x1).toNat + 0) / Go.Extern.MathBitsCarry.m64) == ↑(0 + 1)) = b4
  generalize (bif Int.ofNat (((ref04_times_0 x0 x3).toNat + (ref04_times_0 x2 x1).toNat + 1) % Go.Extern.MathBitsCarry.m64) == 0 then Int.ofNat (((ref04_times_1 x0 x3).toNat + (ref04_times_1 x2 x1).toNat + 0) % Go.Extern.MathBitsCarry.m64) == 0 else Bool.false) = b5
  generalize (bif Decidable.decide (ref04_times_0 x2 x1 > ref04_times_0 x0 x3) then Bool.true else bif ref04_times_0 x2 x1 == ref04_times_0 x0 x3 then Decidable.decide (ref04_times_1 x2 x1 > ref04_times_1 x0 x3) else Bool.false) = b6
  generalize (Int.ofNat (if (ref04_times_1 x2 x1).toNat < (ref04_times_1 x0 x3).toNat + 0 then 1 else 0) == ↑0) = b7
  generalize (bif Int.ofNat (((ref04_times_0 x2 x1).toNat + Go.Extern.MathBitsCarry.m64 - (ref04_times_0 x0 x3).toNat - 0) % Go.Extern.MathBitsCarry.m64) == 0 then Int.ofNat (((ref04_times_1 x2 x1).toNat + Go.Extern.MathBitsCarry.m64 - (ref04_times_1 x0 x3).toNat - 0) % Go.Extern.MathBitsCarry.m64) == 0 else Bool.false) = b8
  generalize (!ref04_times_2 x2 x1) = b9
  generalize (Int.ofNat (if (ref04_times_1 x2 x1).toNat < (ref04_times_1 x0 x3).toNat + 0 then 1 else 0) == ↑(0 + 1)) = b10
  generalize (bif Int.ofNat (((ref04_times_0 x2 x1).toNat + Go.Extern.MathBitsCarry.m64 - (ref04_times_0 x0 x3).toNat - 1) % Go.Extern.MathBitsCarry.m64) == 0 then Int.ofNat (((ref04_times_1 x2 x1).toNat + Go.Extern.MathBitsCarry.m64 - (ref04_times_1 x0 x3).toNat - 0) % Go.Extern.MathBitsCarry.m64) == 0 else Bool.false) = b11
  generalize (Int.ofNat (if (ref04_times_1 x0 x3).toNat < (ref04_times_1 x2 x1).toNat + 0 then 1 else 0) == ↑0) = b12
  generalize (bif Int.ofNat (((ref04_times_0 x0 x3).toNat + Go.Extern.MathBitsCarry.m64 - (ref04_times_0 x2 x1).toNat - 0) % Go.Extern.MathBitsCarry.m64) == 0 then Int.ofNat (((ref04_times_1 x0 x3).toNat + Go.Extern.MathBitsCarry.m64 - (ref04_times_1 x2 x1).toNat - 0) % Go.Extern.MathBitsCarry.m64) == 0 else Bool.false) = b13
  generalize (Int.ofNat (if (ref04_times_1 x0 x3).toNat < (ref04_times_1 x2 x1).toNat + 0 then 1 else 0) == ↑(0 + 1)) = b14
  generalize (bif Int.ofNat (((ref04_times_0 x0 x3).toNat + Go.Extern.MathBitsCarry.m64 - (ref04_times_0 x2 x1).toNat - 1) % Go.Extern.MathBitsCarry.m64) == 0 then Int.ofNat (((ref04_times_1 x0 x3).toNat + Go.Extern.MathBitsCarry.m64 - (ref04_times_1 x2 x1).toNat - 0) % Go.Extern.MathBitsCarry.m64) == 0 else Bool.false) = b15
  cases b0 with
  | true =>
   cases b1 with
   | true =>
    cases b2 with
    | true =>
     first | (simp only [if_true, Bool.false_eq_true, if_false]; done) | rfl
    | false =>
     cases b3 with
     | true =>
      first | (simp only [if_true, Bool.false_eq_true, if_false]; done) | rfl
     | false =>
      first | (simp only [if_true, Bool.false_eq_true, if_false]; done) | rfl
   | false =>
    cases b4 with
    | true =>
     cases b5 with
     | true =>
      first | (simp only [if_true, Bool.false_eq_true, if_false]; done) | rfl
     | false =>
      cases b3 with
      | true =>
       first | (simp only [if_true, Bool.false_eq_true, if_false]; done) | rfl
      | false =>
       first | (simp only [if_true, Bool.false_eq_true, if_false]; done) | rfl
    | false =>
     first | (simp only [if_true, Bool.false_eq_true, if_false]; done) | rfl
  | false =>
   cases b6 with
   | true =>
    cases b7 with
    | true =>
     cases b8 with
     | true =>
      first | (simp only [if_true, Bool.false_eq_true, if_false]; done) | rfl
     | false =>
      cases b9 with
      | true =>
       first | (simp only [if_true, Bool.false_eq_true, if_false]; done) | rfl
      | false =>
       first | (simp only [if_true, Bool.false_eq_true, if_false]; done) | rfl
    | false =>
     cases b10 with
     | true =>
      cases b11 with
      | true =>
       first | (simp only [if_true, Bool.false_eq_true, if_false]; done) | rfl
      | false =>
       cases b9 with
       | true =>
        first | (simp only [if_true, Bool.false_eq_true, if_false]; done) | rfl
       | false =>
        first | (simp only [if_true, Bool.false_eq_true, if_false]; done) | rfl
     | false =>
      first | (simp only [if_true, Bool.false_eq_true, if_false]; done) | rfl
   | false =>
    cases b12 with
    | true =>
     cases b13 with
     | true =>
      first | (simp only [if_true, Bool.false_eq_true, if_false]; done) | rfl
     | false =>
      cases b3 with
      | true =>
       first | (simp only [if_true, Bool.false_eq_true, if_false]; done) | rfl
      | false =>
       first | (simp only [if_true, Bool.false_eq_true, if_false]; done) | rfl
    | false =>
     cases b14 with
     | true =>
      cases b15 with
      | true =>
       first | (simp only [if_true, Bool.false_eq_true, if_false]; done) | rfl
      | false =>
       cases b3 with
       | true =>
        first | (simp only [if_true, Bool.false_eq_true, if_false]; done) | rfl
       | false =>
        first | (simp only [if_true, Bool.false_eq_true, if_false]; done) | rfl
     | false =>
      first | (simp only [if_true, Bool.false_eq_true, if_false]; done) | rfl
theorem tab22_ok : TabOk Tryd.prog tab22 := tab_cond mixed tab21_ok (by decide) fun args b v h hb => by
  unfold ans28 at h
  split at h
  · rename_i c0 c1 h0
    split at h
    · rename_i x0 x1 x2 x3 k1 k2
      injection h with h; injection h with h1 h2; subst h1 h2
      obtain rfl : c0 = #[.int .i64 x0, .int .i64 x1] := by rw [← Array.toArray_toList (xs := c0), k1]
      obtain rfl : c1 = #[.int .i64 x2, .int .i64 x3] := by rw [← Array.toArray_toList (xs := c1), k2]
      obtain rfl : args = #[.agg #[.int .i64 x0, .int .i64 x1], .agg #[.int .i64 x2, .int .i64 x3]] := by rw [← Array.toArray_toList (xs := args), h0]
      exact ⟨rfl, rfl, ⟨[(18, 0), (21, 0)], [], []⟩, 300, by rw [tree28_eq, tree28_res, if_pos hb]⟩
    · cases h
  · cases h

/- gangsaw/fraction.Floor -/
def fraction_Floor_ok (x0 x1 : Int) : Bool :=
  if !fraction_Valid_0 x0 x1 then (Bool.true) else if x1 == 0 then (Bool.false) else if x1 == 0 then (Bool.false) else (Bool.true)
def fraction_Floor_0 (x0 x1 : Int) : Int :=
  if !fraction_Valid_0 x0 x1 then (0) else if Decidable.decide (x0.tmod x1 < 0) then (IntKind.i64.wrap (IntKind.i64.wrap (x0.tdiv x1) - 1)) else (IntKind.i64.wrap (x0.tdiv x1))
def ans29 : Array Value → Option (Bool × Value) := fun args => match args.toList with
  | [.agg c0] => match c0.toList with
    | [.int .i64 x0, .int .i64 x1] => some (fraction_Floor_ok x0 x1, .int .i64 (fraction_Floor_0 x0 x1))
    | _ => none
  | _ => none
def tab23 : Tab := (29, .cond ans29) :: tab22
def tree29 (x0 x1 : Int) : Tr Value :=
  .node 6 (!fraction_Valid_0 x0 x1)
  (.leaf (some (.int .i64 (0))))
  (.node 11 (x1 == 0)
   (.leaf none)
   (.node 16 (x1 == 0)
    (.leaf none)
    (.node 17 (Decidable.decide (x0.tmod x1 < 0))
     (.leaf (some (.int .i64 (IntKind.i64.wrap (IntKind.i64.wrap (x0.tdiv x1) - 1)))))
     (.leaf (some (.int .i64 (IntKind.i64.wrap (x0.tdiv x1))))))))
theorem tree29_eq (x0 x1 : Int) : vals (evFnT Tryd.prog (tb Tryd.prog tab22) (tbT Tryd.prog tab22) ⟨[(6, 0), (11, 0), (16, 0), (17, 0)], [], []⟩ noLoops 300 29 #[.agg #[.int .i64 x0, .int .i64 x1]] []) = tree29 x0 x1 := by kernel_rfl
theorem tree29_res (x0 x1 : Int) : (tree29 x0 x1).res = if fraction_Floor_ok x0 x1 = true then some (.int .i64 (fraction_Floor_0 x0 x1)) else none := by
  unfold tree29 fraction_Floor_ok fraction_Floor_0
  simp only [Tr.res]
  generalize (!fraction_Valid_0 x0 x1) = b0
  generalize (x1 == 0) = b1
  generalize (Decidable.decide (x0.tmod x1 < 0)) = b2
  cases b0 with
  | true =>
   first | (simp only [if_true, Bool.false_eq_true, if_false]; done) | rfl
  | false =>
   cases b1 with
   | true =>
    first | (simp only [if_true, Bool.false_eq_true, if_false]; done) | rfl
   | false =>
    cases b2 with
    | true =>
     first | (simp only [if_true, Bool.false_eq_true, if_false]; done) | rfl
    | false =>
     first | (simp only [if_true, Bool.false_eq_true, if_false]; done) | rfl
theorem tab23_ok : TabOk Tryd.prog tab23 := tab_cond mixed tab22_ok (by decide) fun args b v h hb => by
  unfold ans29 at h
  split at h
  · rename_i c0 h0
    split at h
    · rename_i x0 x1 k1
      injection h with h; injection h with h1 h2; subst h1 h2
      obtain rfl : c0 = #[.int .i64 x0, .int .i64 x1] := by rw [← Array.toArray_toList (xs := c0), k1]
      obtain rfl : args = #[.agg #[.int .i64 x0, .int .i64 x1]] := by rw [← Array.toArray_toList (xs := args), h0]
      exact ⟨rfl, rfl, ⟨[(6, 0), (11, 0), (16, 0), (17, 0)], [], []⟩, 300, by rw [tree29_eq, tree29_res, if_pos hb]⟩
    · cases h
  · cases h

/- gangsaw/gangsawref04.Floor -/
def ref04_Floor_ok (_x0 x1 : Int) : Bool :=
  if x1 == 0 then (Bool.false) else if x1 == 0 then (Bool.false) else (Bool.true)
def ref04_Floor_0 (x0 x1 : Int) : Int :=
  if Decidable.decide (x0.tmod x1 < 0) then (IntKind.i64.wrap (IntKind.i64.wrap (x0.tdiv x1) - 1)) else (IntKind.i64.wrap (x0.tdiv x1))
def ans31 : Array Value → Option (Bool × Value) := fun args => match args.toList with
  | [.agg c0] => match c0.toList with
    | [.int .i64 x0, .int .i64 x1] => some (ref04_Floor_ok x0 x1, .int .i64 (ref04_Floor_0 x0 x1))
    | _ => none
  | _ => none
def tab24 : Tab := (31, .cond ans31) :: tab23
def tree31 (x0 x1 : Int) : Tr Value :=
  .node 8 (x1 == 0)
  (.leaf none)
  (.node 13 (x1 == 0)
   (.leaf none)
   (.node 14 (Decidable.decide (x0.tmod x1 < 0))
    (.leaf (some (.int .i64 (IntKind.i64.wrap (IntKind.i64.wrap (x0.tdiv x1) - 1)))))
    (.leaf (some (.int .i64 (IntKind.i64.wrap (x0.tdiv x1)))))))
theorem tree31_eq (x0 x1 : Int) : vals (evFnT Tryd.prog (tb Tryd.prog tab23) (tbT Tryd.prog tab23) ⟨[(8, 0), (13, 0), (14, 0)], [], []⟩ noLoops 300 31 #[.agg #[.int .i64 x0, .int .i64 x1]] []) = tree31 x0 x1 := by kernel_rfl
theorem tree31_res (x0 x1 : Int) : (tree31 x0 x1).res = if ref04_Floor_ok x0 x1 = true then some (.int .i64 (ref04_Floor_0 x0 x1)) else none := by
  unfold tree31 ref04_Floor_ok ref04_Floor_0
  simp only [Tr.res]
  generalize (x1 == 0) = b0
  generalize (Decidable.decide (x0.tmod x1 < 0)) = b1
  cases b0 with
  | true =>
   first | (simp only [if_true, Bool.false_eq_true, if_false]; done) | rfl
  | false =>
   cases b1 with
   | true =>
    first | (simp only [if_true, Bool.false_eq_true, if_false]; done) | rfl
   | false =>
    first | (simp only [if_true, Bool.false_eq_true, if_false]; done) | rfl
theorem tab24_ok : TabOk Tryd.prog tab24 := tab_cond mixed tab23_ok (by decide) fun args b v h hb => by
  unfold ans31 at h
  split at h
  · rename_i c0 h0
    split at h
    · rename_i x0 x1 k1
      injection h with h; injection h with h1 h2; subst h1 h2
      obtain rfl : c0 = #[.int .i64 x0, .int .i64 x1] := by rw [← Array.toArray_toList (xs := c0), k1]
      obtain rfl : args = #[.agg #[.int .i64 x0, .int .i64 x1]] := by rw [← Array.toArray_toList (xs := args), h0]
      exact ⟨rfl, rfl, ⟨[(8, 0), (13, 0), (14, 0)], [], []⟩, 300, by rw [tree31_eq, tree31_res, if_pos hb]⟩
    · cases h
  · cases h

/- gangsaw/fraction.Round -/
def fraction_Round_ok (x0 x1 : Int) : Bool :=
  if !fraction_Valid_0 x0 x1 then (Bool.true) else if x1 == 0 then (Bool.false) else if x1 == 0 then (Bool.false) else (Bool.true)
def fraction_Round_0 (x0 x1 : Int) : Int :=
  if !fraction_Valid_0 x0 x1 then (0) else if Decidable.decide (IntKind.i64.wrap (2 * x0.tmod x1) ≥ x1) then (IntKind.i64.wrap (IntKind.i64.wrap (x0.tdiv x1) + 1)) else if Decidable.decide (IntKind.i64.wrap (2 * x0.tmod x1) ≤ IntKind.i64.wrap (0 - x1)) then (IntKind.i64.wrap (IntKind.i64.wrap (x0.tdiv x1) - 1)) else (IntKind.i64.wrap (x0.tdiv x1))
def ans30 : Array Value → Option (Bool × Value) := fun args => match args.toList with
  | [.agg c0] => match c0.toList with
    | [.int .i64 x0, .int .i64 x1] => some (fraction_Round_ok x0 x1, .int .i64 (fraction_Round_0 x0 x1))
    | _ => none
  | _ => none
def tab25 : Tab := (30, .cond ans30) :: tab24
def tree30 (x0 x1 : Int) : Tr Value :=
  .node 7 (!fraction_Valid_0 x0 x1)
  (.leaf (some (.int .i64 (0))))
  (.node 12 (x1 == 0)
   (.leaf none)
   (.node 17 (x1 == 0)
    (.leaf none)
    (.node 18 (Decidable.decide (IntKind.i64.wrap (2 * x0.tmod x1) ≥ x1))
     (.leaf (some (.int .i64 (IntKind.i64.wrap (IntKind.i64.wrap (x0.tdiv x1) + 1)))))
     (.node 26 (Decidable.decide (IntKind.i64.wrap (2 * x0.tmod x1) ≤ IntKind.i64.wrap (0 - x1)))
      (.leaf (some (.int .i64 (IntKind.i64.wrap (IntKind.i64.wrap (x0.tdiv x1) - 1)))))
      (.leaf (some (.int .i64 (IntKind.i64.wrap (x0.tdiv x1)))))))))
theorem tree30_eq (x0 x1 : Int) : vals (evFnT Tryd.prog (tb Tryd.prog tab24) (tbT Tryd.prog tab24) ⟨[(7, 0), (12, 0), (17, 0), (18, 0), (26, 0)], [], []⟩ noLoops 300 30 #[.agg #[.int .i64 x0, .int .i64 x1]] []) = tree30 x0 x1 := by kernel_rfl
theorem tree30_res (x0 x1 : Int) : (tree30 x0 x1).res = if fraction_Round_ok x0 x1 = true then some (.int .i64 (fraction_Round_0 x0 x1)) else none := by
  unfold tree30 fraction_Round_ok fraction_Round_0
  simp only [Tr.res]
  generalize (!fraction_Valid_0 x0 x1) = b0
  generalize (x1 == 0) = b1
  generalize (Decidable.decide (IntKind.i64.wrap (2 * x0.tmod x1) ≥ x1)) = b2
  generalize (Decidable.decide (IntKind.i64.wrap (2 * x0.tmod x1) ≤ IntKind.i64.wrap (0 - x1))) = b3
  cases b0 with
  | true =>
   first | (simp only [if_true, Bool.false_eq_true, if_false]; done) | rfl
  | false =>
   cases b1 with
   | true =>
    first | (simp only [if_true, Bool.false_eq_true, if_false]; done) | rfl
   | false =>
    cases b2 with
    | true =>
     first | (simp only [if_true, Bool.false_eq_true, if_false]; done) | rfl
    | false =>
     cases b3 with
     | true =>
      first | (simp only [if_true, Bool.false_eq_true, if_false]; done) | rfl
     | false =>
      first | (simp only [if_true, Bool.false_eq_true, if_false]; done) | rfl
theorem tab25_ok : TabOk Tryd.prog tab25 := tab_cond mixed tab24_ok (by decide) fun args b v h hb => by
  unfold ans30 at h
  split at h
  · rename_i c0 h0
    split at h
    · rename_i x0 x1 k1
      injection h with h; injection h with h1 h2; subst h1 h2
      obtain rfl : c0 = #[.int .i64 x0, .int .i64 x1] := by rw [← Array.toArray_toList (xs := c0), k1]
      obtain rfl : args = #[.agg #[.int .i64 x0, .int .i64 x1]] := by rw [← Array.toArray_toList (xs := args), h0]
      exact ⟨rfl, rfl, ⟨[(7, 0), (12, 0), (17, 0), (18, 0), (26, 0)], [], []⟩, 300, by rw [tree30_eq, tree30_res, if_pos hb]⟩
    · cases h
  · cases h
end Go.Proofs.YtfpcmckachpnpaaDoor.Vx
