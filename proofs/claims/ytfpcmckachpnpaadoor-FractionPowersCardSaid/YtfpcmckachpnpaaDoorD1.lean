/- The answers of the reference's long division. -/
import Derived.Test.YtfpcmckachpnpaaDoorT4
import Derived.IntWalk
namespace Go.Proofs.YtfpcmckachpnpaaDoor.Vx
open Go Go.RowKit Go.Proofs
set_option maxRecDepth 100000
set_option linter.unusedVariables false
set_option linter.unusedSimpArgs false
def bitI (xh xl i : Int) : Int := IntKind.u64.wrap ↑(BitVec.ofInt IntKind.u64.bits (if 64 ≤ i then xh.fdiv (2 ^ Min.min (i - 64).toNat IntKind.u64.bits) else xl.fdiv (2 ^ Min.min i.toNat IntKind.u64.bits)) &&& BitVec.ofInt IntKind.u64.bits 1).toNat
def ans81 : Array Value → Option (Bool × Value) := fun args => match args.toList with
  | [.agg c0, .int .i64 i] => match c0.toList with
    | [.int .u64 xh, .int .u64 xl, .bool _] => some (decide (0 ≤ i) && decide (i < 128), .int .u64 (bitI xh xl i))
    | _ => none
  | _ => none
def tab33 : Tab := (81, .cond ans81) :: tab32
theorem b81_0 (xh xl : Int) (xn : Bool) : (vals (evFnT Tryd.prog (tb Tryd.prog tab32) (tbT Tryd.prog tab32) ⟨[], [], []⟩ noLoops 100 81 #[.agg #[.int .u64 xh, .int .u64 xl, .bool xn], .int .i64 ((0 : Nat) : Int)] [])) = .leaf (some (.int .u64 (bitI xh xl ((0 : Nat) : Int)))) := by kernel_rfl
theorem b81_1 (xh xl : Int) (xn : Bool) : (vals (evFnT Tryd.prog (tb Tryd.prog tab32) (tbT Tryd.prog tab32) ⟨[], [], []⟩ noLoops 100 81 #[.agg #[.int .u64 xh, .int .u64 xl, .bool xn], .int .i64 ((1 : Nat) : Int)] [])) = .leaf (some (.int .u64 (bitI xh xl ((1 : Nat) : Int)))) := by kernel_rfl
theorem b81_2 (xh xl : Int) (xn : Bool) : (vals (evFnT Tryd.prog (tb Tryd.prog tab32) (tbT Tryd.prog tab32) ⟨[], [], []⟩ noLoops 100 81 #[.agg #[.int .u64 xh, .int .u64 xl, .bool xn], .int .i64 ((2 : Nat) : Int)] [])) = .leaf (some (.int .u64 (bitI xh xl ((2 : Nat) : Int)))) := by kernel_rfl
theorem b81_3 (xh xl : Int) (xn : Bool) : (vals (evFnT Tryd.prog (tb Tryd.prog tab32) (tbT Tryd.prog tab32) ⟨[], [], []⟩ noLoops 100 81 #[.agg #[.int .u64 xh, .int .u64 xl, .bool xn], .int .i64 ((3 : Nat) : Int)] [])) = .leaf (some (.int .u64 (bitI xh xl ((3 : Nat) : Int)))) := by kernel_rfl
theorem b81_4 (xh xl : Int) (xn : Bool) : (vals (evFnT Tryd.prog (tb Tryd.prog tab32) (tbT Tryd.prog tab32) ⟨[], [], []⟩ noLoops 100 81 #[.agg #[.int .u64 xh, .int .u64 xl, .bool xn], .int .i64 ((4 : Nat) : Int)] [])) = .leaf (some (.int .u64 (bitI xh xl ((4 : Nat) : Int)))) := by kernel_rfl
theorem b81_5 (xh xl : Int) (xn : Bool) : (vals (evFnT Tryd.prog (tb Tryd.prog tab32) (tbT Tryd.prog tab32) ⟨[], [], []⟩ noLoops 100 81 #[.agg #[.int .u64 xh, .int .u64 xl, .bool xn], .int .i64 ((5 : Nat) : Int)] [])) = .leaf (some (.int .u64 (bitI xh xl ((5 : Nat) : Int)))) := by kernel_rfl
theorem b81_6 (xh xl : Int) (xn : Bool) : (vals (evFnT Tryd.prog (tb Tryd.prog tab32) (tbT Tryd.prog tab32) ⟨[], [], []⟩ noLoops 100 81 #[.agg #[.int .u64 xh, .int .u64 xl, .bool xn], .int .i64 ((6 : Nat) : Int)] [])) = .leaf (some (.int .u64 (bitI xh xl ((6 : Nat) : Int)))) := by kernel_rfl
theorem b81_7 (xh xl : Int) (xn : Bool) : (vals (evFnT Tryd.prog (tb Tryd.prog tab32) (tbT Tryd.prog tab32) ⟨[], [], []⟩ noLoops 100 81 #[.agg #[.int .u64 xh, .int .u64 xl, .bool xn], .int .i64 ((7 : Nat) : Int)] [])) = .leaf (some (.int .u64 (bitI xh xl ((7 : Nat) : Int)))) := by kernel_rfl
theorem b81_8 (xh xl : Int) (xn : Bool) : (vals (evFnT Tryd.prog (tb Tryd.prog tab32) (tbT Tryd.prog tab32) ⟨[], [], []⟩ noLoops 100 81 #[.agg #[.int .u64 xh, .int .u64 xl, .bool xn], .int .i64 ((8 : Nat) : Int)] [])) = .leaf (some (.int .u64 (bitI xh xl ((8 : Nat) : Int)))) := by kernel_rfl
theorem b81_9 (xh xl : Int) (xn : Bool) : (vals (evFnT Tryd.prog (tb Tryd.prog tab32) (tbT Tryd.prog tab32) ⟨[], [], []⟩ noLoops 100 81 #[.agg #[.int .u64 xh, .int .u64 xl, .bool xn], .int .i64 ((9 : Nat) : Int)] [])) = .leaf (some (.int .u64 (bitI xh xl ((9 : Nat) : Int)))) := by kernel_rfl
theorem b81_10 (xh xl : Int) (xn : Bool) : (vals (evFnT Tryd.prog (tb Tryd.prog tab32) (tbT Tryd.prog tab32) ⟨[], [], []⟩ noLoops 100 81 #[.agg #[.int .u64 xh, .int .u64 xl, .bool xn], .int .i64 ((10 : Nat) : Int)] [])) = .leaf (some (.int .u64 (bitI xh xl ((10 : Nat) : Int)))) := by kernel_rfl
theorem b81_11 (xh xl : Int) (xn : Bool) : (vals (evFnT Tryd.prog (tb Tryd.prog tab32) (tbT Tryd.prog tab32) ⟨[], [], []⟩ noLoops 100 81 #[.agg #[.int .u64 xh, .int .u64 xl, .bool xn], .int .i64 ((11 : Nat) : Int)] [])) = .leaf (some (.int .u64 (bitI xh xl ((11 : Nat) : Int)))) := by kernel_rfl
theorem b81_12 (xh xl : Int) (xn : Bool) : (vals (evFnT Tryd.prog (tb Tryd.prog tab32) (tbT Tryd.prog tab32) ⟨[], [], []⟩ noLoops 100 81 #[.agg #[.int .u64 xh, .int .u64 xl, .bool xn], .int .i64 ((12 : Nat) : Int)] [])) = .leaf (some (.int .u64 (bitI xh xl ((12 : Nat) : Int)))) := by kernel_rfl
theorem b81_13 (xh xl : Int) (xn : Bool) : (vals (evFnT Tryd.prog (tb Tryd.prog tab32) (tbT Tryd.prog tab32) ⟨[], [], []⟩ noLoops 100 81 #[.agg #[.int .u64 xh, .int .u64 xl, .bool xn], .int .i64 ((13 : Nat) : Int)] [])) = .leaf (some (.int .u64 (bitI xh xl ((13 : Nat) : Int)))) := by kernel_rfl
theorem b81_14 (xh xl : Int) (xn : Bool) : (vals (evFnT Tryd.prog (tb Tryd.prog tab32) (tbT Tryd.prog tab32) ⟨[], [], []⟩ noLoops 100 81 #[.agg #[.int .u64 xh, .int .u64 xl, .bool xn], .int .i64 ((14 : Nat) : Int)] [])) = .leaf (some (.int .u64 (bitI xh xl ((14 : Nat) : Int)))) := by kernel_rfl
theorem b81_15 (xh xl : Int) (xn : Bool) : (vals (evFnT Tryd.prog (tb Tryd.prog tab32) (tbT Tryd.prog tab32) ⟨[], [], []⟩ noLoops 100 81 #[.agg #[.int .u64 xh, .int .u64 xl, .bool xn], .int .i64 ((15 : Nat) : Int)] [])) = .leaf (some (.int .u64 (bitI xh xl ((15 : Nat) : Int)))) := by kernel_rfl
theorem b81_16 (xh xl : Int) (xn : Bool) : (vals (evFnT Tryd.prog (tb Tryd.prog tab32) (tbT Tryd.prog tab32) ⟨[], [], []⟩ noLoops 100 81 #[.agg #[.int .u64 xh, .int .u64 xl, .bool xn], .int .i64 ((16 : Nat) : Int)] [])) = .leaf (some (.int .u64 (bitI xh xl ((16 : Nat) : Int)))) := by kernel_rfl
theorem b81_17 (xh xl : Int) (xn : Bool) : (vals (evFnT Tryd.prog (tb Tryd.prog tab32) (tbT Tryd.prog tab32) ⟨[], [], []⟩ noLoops 100 81 #[.agg #[.int .u64 xh, .int .u64 xl, .bool xn], .int .i64 ((17 : Nat) : Int)] [])) = .leaf (some (.int .u64 (bitI xh xl ((17 : Nat) : Int)))) := by kernel_rfl
theorem b81_18 (xh xl : Int) (xn : Bool) : (vals (evFnT Tryd.prog (tb Tryd.prog tab32) (tbT Tryd.prog tab32) ⟨[], [], []⟩ noLoops 100 81 #[.agg #[.int .u64 xh, .int .u64 xl, .bool xn], .int .i64 ((18 : Nat) : Int)] [])) = .leaf (some (.int .u64 (bitI xh xl ((18 : Nat) : Int)))) := by kernel_rfl
theorem b81_19 (xh xl : Int) (xn : Bool) : (vals (evFnT Tryd.prog (tb Tryd.prog tab32) (tbT Tryd.prog tab32) ⟨[], [], []⟩ noLoops 100 81 #[.agg #[.int .u64 xh, .int .u64 xl, .bool xn], .int .i64 ((19 : Nat) : Int)] [])) = .leaf (some (.int .u64 (bitI xh xl ((19 : Nat) : Int)))) := by kernel_rfl
theorem b81_20 (xh xl : Int) (xn : Bool) : (vals (evFnT Tryd.prog (tb Tryd.prog tab32) (tbT Tryd.prog tab32) ⟨[], [], []⟩ noLoops 100 81 #[.agg #[.int .u64 xh, .int .u64 xl, .bool xn], .int .i64 ((20 : Nat) : Int)] [])) = .leaf (some (.int .u64 (bitI xh xl ((20 : Nat) : Int)))) := by kernel_rfl
theorem b81_21 (xh xl : Int) (xn : Bool) : (vals (evFnT Tryd.prog (tb Tryd.prog tab32) (tbT Tryd.prog tab32) ⟨[], [], []⟩ noLoops 100 81 #[.agg #[.int .u64 xh, .int .u64 xl, .bool xn], .int .i64 ((21 : Nat) : Int)] [])) = .leaf (some (.int .u64 (bitI xh xl ((21 : Nat) : Int)))) := by kernel_rfl
theorem b81_22 (xh xl : Int) (xn : Bool) : (vals (evFnT Tryd.prog (tb Tryd.prog tab32) (tbT Tryd.prog tab32) ⟨[], [], []⟩ noLoops 100 81 #[.agg #[.int .u64 xh, .int .u64 xl, .bool xn], .int .i64 ((22 : Nat) : Int)] [])) = .leaf (some (.int .u64 (bitI xh xl ((22 : Nat) : Int)))) := by kernel_rfl
theorem b81_23 (xh xl : Int) (xn : Bool) : (vals (evFnT Tryd.prog (tb Tryd.prog tab32) (tbT Tryd.prog tab32) ⟨[], [], []⟩ noLoops 100 81 #[.agg #[.int .u64 xh, .int .u64 xl, .bool xn], .int .i64 ((23 : Nat) : Int)] [])) = .leaf (some (.int .u64 (bitI xh xl ((23 : Nat) : Int)))) := by kernel_rfl
theorem b81_24 (xh xl : Int) (xn : Bool) : (vals (evFnT Tryd.prog (tb Tryd.prog tab32) (tbT Tryd.prog tab32) ⟨[], [], []⟩ noLoops 100 81 #[.agg #[.int .u64 xh, .int .u64 xl, .bool xn], .int .i64 ((24 : Nat) : Int)] [])) = .leaf (some (.int .u64 (bitI xh xl ((24 : Nat) : Int)))) := by kernel_rfl
theorem b81_25 (xh xl : Int) (xn : Bool) : (vals (evFnT Tryd.prog (tb Tryd.prog tab32) (tbT Tryd.prog tab32) ⟨[], [], []⟩ noLoops 100 81 #[.agg #[.int .u64 xh, .int .u64 xl, .bool xn], .int .i64 ((25 : Nat) : Int)] [])) = .leaf (some (.int .u64 (bitI xh xl ((25 : Nat) : Int)))) := by kernel_rfl
theorem b81_26 (xh xl : Int) (xn : Bool) : (vals (evFnT Tryd.prog (tb Tryd.prog tab32) (tbT Tryd.prog tab32) ⟨[], [], []⟩ noLoops 100 81 #[.agg #[.int .u64 xh, .int .u64 xl, .bool xn], .int .i64 ((26 : Nat) : Int)] [])) = .leaf (some (.int .u64 (bitI xh xl ((26 : Nat) : Int)))) := by kernel_rfl
theorem b81_27 (xh xl : Int) (xn : Bool) : (vals (evFnT Tryd.prog (tb Tryd.prog tab32) (tbT Tryd.prog tab32) ⟨[], [], []⟩ noLoops 100 81 #[.agg #[.int .u64 xh, .int .u64 xl, .bool xn], .int .i64 ((27 : Nat) : Int)] [])) = .leaf (some (.int .u64 (bitI xh xl ((27 : Nat) : Int)))) := by kernel_rfl
theorem b81_28 (xh xl : Int) (xn : Bool) : (vals (evFnT Tryd.prog (tb Tryd.prog tab32) (tbT Tryd.prog tab32) ⟨[], [], []⟩ noLoops 100 81 #[.agg #[.int .u64 xh, .int .u64 xl, .bool xn], .int .i64 ((28 : Nat) : Int)] [])) = .leaf (some (.int .u64 (bitI xh xl ((28 : Nat) : Int)))) := by kernel_rfl
theorem b81_29 (xh xl : Int) (xn : Bool) : (vals (evFnT Tryd.prog (tb Tryd.prog tab32) (tbT Tryd.prog tab32) ⟨[], [], []⟩ noLoops 100 81 #[.agg #[.int .u64 xh, .int .u64 xl, .bool xn], .int .i64 ((29 : Nat) : Int)] [])) = .leaf (some (.int .u64 (bitI xh xl ((29 : Nat) : Int)))) := by kernel_rfl
theorem b81_30 (xh xl : Int) (xn : Bool) : (vals (evFnT Tryd.prog (tb Tryd.prog tab32) (tbT Tryd.prog tab32) ⟨[], [], []⟩ noLoops 100 81 #[.agg #[.int .u64 xh, .int .u64 xl, .bool xn], .int .i64 ((30 : Nat) : Int)] [])) = .leaf (some (.int .u64 (bitI xh xl ((30 : Nat) : Int)))) := by kernel_rfl
theorem b81_31 (xh xl : Int) (xn : Bool) : (vals (evFnT Tryd.prog (tb Tryd.prog tab32) (tbT Tryd.prog tab32) ⟨[], [], []⟩ noLoops 100 81 #[.agg #[.int .u64 xh, .int .u64 xl, .bool xn], .int .i64 ((31 : Nat) : Int)] [])) = .leaf (some (.int .u64 (bitI xh xl ((31 : Nat) : Int)))) := by kernel_rfl
theorem b81_32 (xh xl : Int) (xn : Bool) : (vals (evFnT Tryd.prog (tb Tryd.prog tab32) (tbT Tryd.prog tab32) ⟨[], [], []⟩ noLoops 100 81 #[.agg #[.int .u64 xh, .int .u64 xl, .bool xn], .int .i64 ((32 : Nat) : Int)] [])) = .leaf (some (.int .u64 (bitI xh xl ((32 : Nat) : Int)))) := by kernel_rfl
theorem b81_33 (xh xl : Int) (xn : Bool) : (vals (evFnT Tryd.prog (tb Tryd.prog tab32) (tbT Tryd.prog tab32) ⟨[], [], []⟩ noLoops 100 81 #[.agg #[.int .u64 xh, .int .u64 xl, .bool xn], .int .i64 ((33 : Nat) : Int)] [])) = .leaf (some (.int .u64 (bitI xh xl ((33 : Nat) : Int)))) := by kernel_rfl
theorem b81_34 (xh xl : Int) (xn : Bool) : (vals (evFnT Tryd.prog (tb Tryd.prog tab32) (tbT Tryd.prog tab32) ⟨[], [], []⟩ noLoops 100 81 #[.agg #[.int .u64 xh, .int .u64 xl, .bool xn], .int .i64 ((34 : Nat) : Int)] [])) = .leaf (some (.int .u64 (bitI xh xl ((34 : Nat) : Int)))) := by kernel_rfl
theorem b81_35 (xh xl : Int) (xn : Bool) : (vals (evFnT Tryd.prog (tb Tryd.prog tab32) (tbT Tryd.prog tab32) ⟨[], [], []⟩ noLoops 100 81 #[.agg #[.int .u64 xh, .int .u64 xl, .bool xn], .int .i64 ((35 : Nat) : Int)] [])) = .leaf (some (.int .u64 (bitI xh xl ((35 : Nat) : Int)))) := by kernel_rfl
theorem b81_36 (xh xl : Int) (xn : Bool) : (vals (evFnT Tryd.prog (tb Tryd.prog tab32) (tbT Tryd.prog tab32) ⟨[], [], []⟩ noLoops 100 81 #[.agg #[.int .u64 xh, .int .u64 xl, .bool xn], .int .i64 ((36 : Nat) : Int)] [])) = .leaf (some (.int .u64 (bitI xh xl ((36 : Nat) : Int)))) := by kernel_rfl
theorem b81_37 (xh xl : Int) (xn : Bool) : (vals (evFnT Tryd.prog (tb Tryd.prog tab32) (tbT Tryd.prog tab32) ⟨[], [], []⟩ noLoops 100 81 #[.agg #[.int .u64 xh, .int .u64 xl, .bool xn], .int .i64 ((37 : Nat) : Int)] [])) = .leaf (some (.int .u64 (bitI xh xl ((37 : Nat) : Int)))) := by kernel_rfl
theorem b81_38 (xh xl : Int) (xn : Bool) : (vals (evFnT Tryd.prog (tb Tryd.prog tab32) (tbT Tryd.prog tab32) ⟨[], [], []⟩ noLoops 100 81 #[.agg #[.int .u64 xh, .int .u64 xl, .bool xn], .int .i64 ((38 : Nat) : Int)] [])) = .leaf (some (.int .u64 (bitI xh xl ((38 : Nat) : Int)))) := by kernel_rfl
theorem b81_39 (xh xl : Int) (xn : Bool) : (vals (evFnT Tryd.prog (tb Tryd.prog tab32) (tbT Tryd.prog tab32) ⟨[], [], []⟩ noLoops 100 81 #[.agg #[.int .u64 xh, .int .u64 xl, .bool xn], .int .i64 ((39 : Nat) : Int)] [])) = .leaf (some (.int .u64 (bitI xh xl ((39 : Nat) : Int)))) := by kernel_rfl
theorem b81_40 (xh xl : Int) (xn : Bool) : (vals (evFnT Tryd.prog (tb Tryd.prog tab32) (tbT Tryd.prog tab32) ⟨[], [], []⟩ noLoops 100 81 #[.agg #[.int .u64 xh, .int .u64 xl, .bool xn], .int .i64 ((40 : Nat) : Int)] [])) = .leaf (some (.int .u64 (bitI xh xl ((40 : Nat) : Int)))) := by kernel_rfl
theorem b81_41 (xh xl : Int) (xn : Bool) : (vals (evFnT Tryd.prog (tb Tryd.prog tab32) (tbT Tryd.prog tab32) ⟨[], [], []⟩ noLoops 100 81 #[.agg #[.int .u64 xh, .int .u64 xl, .bool xn], .int .i64 ((41 : Nat) : Int)] [])) = .leaf (some (.int .u64 (bitI xh xl ((41 : Nat) : Int)))) := by kernel_rfl
theorem b81_42 (xh xl : Int) (xn : Bool) : (vals (evFnT Tryd.prog (tb Tryd.prog tab32) (tbT Tryd.prog tab32) ⟨[], [], []⟩ noLoops 100 81 #[.agg #[.int .u64 xh, .int .u64 xl, .bool xn], .int .i64 ((42 : Nat) : Int)] [])) = .leaf (some (.int .u64 (bitI xh xl ((42 : Nat) : Int)))) := by kernel_rfl
theorem b81_43 (xh xl : Int) (xn : Bool) : (vals (evFnT Tryd.prog (tb Tryd.prog tab32) (tbT Tryd.prog tab32) ⟨[], [], []⟩ noLoops 100 81 #[.agg #[.int .u64 xh, .int .u64 xl, .bool xn], .int .i64 ((43 : Nat) : Int)] [])) = .leaf (some (.int .u64 (bitI xh xl ((43 : Nat) : Int)))) := by kernel_rfl
theorem b81_44 (xh xl : Int) (xn : Bool) : (vals (evFnT Tryd.prog (tb Tryd.prog tab32) (tbT Tryd.prog tab32) ⟨[], [], []⟩ noLoops 100 81 #[.agg #[.int .u64 xh, .int .u64 xl, .bool xn], .int .i64 ((44 : Nat) : Int)] [])) = .leaf (some (.int .u64 (bitI xh xl ((44 : Nat) : Int)))) := by kernel_rfl
theorem b81_45 (xh xl : Int) (xn : Bool) : (vals (evFnT Tryd.prog (tb Tryd.prog tab32) (tbT Tryd.prog tab32) ⟨[], [], []⟩ noLoops 100 81 #[.agg #[.int .u64 xh, .int .u64 xl, .bool xn], .int .i64 ((45 : Nat) : Int)] [])) = .leaf (some (.int .u64 (bitI xh xl ((45 : Nat) : Int)))) := by kernel_rfl
theorem b81_46 (xh xl : Int) (xn : Bool) : (vals (evFnT Tryd.prog (tb Tryd.prog tab32) (tbT Tryd.prog tab32) ⟨[], [], []⟩ noLoops 100 81 #[.agg #[.int .u64 xh, .int .u64 xl, .bool xn], .int .i64 ((46 : Nat) : Int)] [])) = .leaf (some (.int .u64 (bitI xh xl ((46 : Nat) : Int)))) := by kernel_rfl
theorem b81_47 (xh xl : Int) (xn : Bool) : (vals (evFnT Tryd.prog (tb Tryd.prog tab32) (tbT Tryd.prog tab32) ⟨[], [], []⟩ noLoops 100 81 #[.agg #[.int .u64 xh, .int .u64 xl, .bool xn], .int .i64 ((47 : Nat) : Int)] [])) = .leaf (some (.int .u64 (bitI xh xl ((47 : Nat) : Int)))) := by kernel_rfl
theorem b81_48 (xh xl : Int) (xn : Bool) : (vals (evFnT Tryd.prog (tb Tryd.prog tab32) (tbT Tryd.prog tab32) ⟨[], [], []⟩ noLoops 100 81 #[.agg #[.int .u64 xh, .int .u64 xl, .bool xn], .int .i64 ((48 : Nat) : Int)] [])) = .leaf (some (.int .u64 (bitI xh xl ((48 : Nat) : Int)))) := by kernel_rfl
theorem b81_49 (xh xl : Int) (xn : Bool) : (vals (evFnT Tryd.prog (tb Tryd.prog tab32) (tbT Tryd.prog tab32) ⟨[], [], []⟩ noLoops 100 81 #[.agg #[.int .u64 xh, .int .u64 xl, .bool xn], .int .i64 ((49 : Nat) : Int)] [])) = .leaf (some (.int .u64 (bitI xh xl ((49 : Nat) : Int)))) := by kernel_rfl
theorem b81_50 (xh xl : Int) (xn : Bool) : (vals (evFnT Tryd.prog (tb Tryd.prog tab32) (tbT Tryd.prog tab32) ⟨[], [], []⟩ noLoops 100 81 #[.agg #[.int .u64 xh, .int .u64 xl, .bool xn], .int .i64 ((50 : Nat) : Int)] [])) = .leaf (some (.int .u64 (bitI xh xl ((50 : Nat) : Int)))) := by kernel_rfl
theorem b81_51 (xh xl : Int) (xn : Bool) : (vals (evFnT Tryd.prog (tb Tryd.prog tab32) (tbT Tryd.prog tab32) ⟨[], [], []⟩ noLoops 100 81 #[.agg #[.int .u64 xh, .int .u64 xl, .bool xn], .int .i64 ((51 : Nat) : Int)] [])) = .leaf (some (.int .u64 (bitI xh xl ((51 : Nat) : Int)))) := by kernel_rfl
theorem b81_52 (xh xl : Int) (xn : Bool) : (vals (evFnT Tryd.prog (tb Tryd.prog tab32) (tbT Tryd.prog tab32) ⟨[], [], []⟩ noLoops 100 81 #[.agg #[.int .u64 xh, .int .u64 xl, .bool xn], .int .i64 ((52 : Nat) : Int)] [])) = .leaf (some (.int .u64 (bitI xh xl ((52 : Nat) : Int)))) := by kernel_rfl
theorem b81_53 (xh xl : Int) (xn : Bool) : (vals (evFnT Tryd.prog (tb Tryd.prog tab32) (tbT Tryd.prog tab32) ⟨[], [], []⟩ noLoops 100 81 #[.agg #[.int .u64 xh, .int .u64 xl, .bool xn], .int .i64 ((53 : Nat) : Int)] [])) = .leaf (some (.int .u64 (bitI xh xl ((53 : Nat) : Int)))) := by kernel_rfl
theorem b81_54 (xh xl : Int) (xn : Bool) : (vals (evFnT Tryd.prog (tb Tryd.prog tab32) (tbT Tryd.prog tab32) ⟨[], [], []⟩ noLoops 100 81 #[.agg #[.int .u64 xh, .int .u64 xl, .bool xn], .int .i64 ((54 : Nat) : Int)] [])) = .leaf (some (.int .u64 (bitI xh xl ((54 : Nat) : Int)))) := by kernel_rfl
theorem b81_55 (xh xl : Int) (xn : Bool) : (vals (evFnT Tryd.prog (tb Tryd.prog tab32) (tbT Tryd.prog tab32) ⟨[], [], []⟩ noLoops 100 81 #[.agg #[.int .u64 xh, .int .u64 xl, .bool xn], .int .i64 ((55 : Nat) : Int)] [])) = .leaf (some (.int .u64 (bitI xh xl ((55 : Nat) : Int)))) := by kernel_rfl
theorem b81_56 (xh xl : Int) (xn : Bool) : (vals (evFnT Tryd.prog (tb Tryd.prog tab32) (tbT Tryd.prog tab32) ⟨[], [], []⟩ noLoops 100 81 #[.agg #[.int .u64 xh, .int .u64 xl, .bool xn], .int .i64 ((56 : Nat) : Int)] [])) = .leaf (some (.int .u64 (bitI xh xl ((56 : Nat) : Int)))) := by kernel_rfl
theorem b81_57 (xh xl : Int) (xn : Bool) : (vals (evFnT Tryd.prog (tb Tryd.prog tab32) (tbT Tryd.prog tab32) ⟨[], [], []⟩ noLoops 100 81 #[.agg #[.int .u64 xh, .int .u64 xl, .bool xn], .int .i64 ((57 : Nat) : Int)] [])) = .leaf (some (.int .u64 (bitI xh xl ((57 : Nat) : Int)))) := by kernel_rfl
theorem b81_58 (xh xl : Int) (xn : Bool) : (vals (evFnT Tryd.prog (tb Tryd.prog tab32) (tbT Tryd.prog tab32) ⟨[], [], []⟩ noLoops 100 81 #[.agg #[.int .u64 xh, .int .u64 xl, .bool xn], .int .i64 ((58 : Nat) : Int)] [])) = .leaf (some (.int .u64 (bitI xh xl ((58 : Nat) : Int)))) := by kernel_rfl
theorem b81_59 (xh xl : Int) (xn : Bool) : (vals (evFnT Tryd.prog (tb Tryd.prog tab32) (tbT Tryd.prog tab32) ⟨[], [], []⟩ noLoops 100 81 #[.agg #[.int .u64 xh, .int .u64 xl, .bool xn], .int .i64 ((59 : Nat) : Int)] [])) = .leaf (some (.int .u64 (bitI xh xl ((59 : Nat) : Int)))) := by kernel_rfl
theorem b81_60 (xh xl : Int) (xn : Bool) : (vals (evFnT Tryd.prog (tb Tryd.prog tab32) (tbT Tryd.prog tab32) ⟨[], [], []⟩ noLoops 100 81 #[.agg #[.int .u64 xh, .int .u64 xl, .bool xn], .int .i64 ((60 : Nat) : Int)] [])) = .leaf (some (.int .u64 (bitI xh xl ((60 : Nat) : Int)))) := by kernel_rfl
theorem b81_61 (xh xl : Int) (xn : Bool) : (vals (evFnT Tryd.prog (tb Tryd.prog tab32) (tbT Tryd.prog tab32) ⟨[], [], []⟩ noLoops 100 81 #[.agg #[.int .u64 xh, .int .u64 xl, .bool xn], .int .i64 ((61 : Nat) : Int)] [])) = .leaf (some (.int .u64 (bitI xh xl ((61 : Nat) : Int)))) := by kernel_rfl
theorem b81_62 (xh xl : Int) (xn : Bool) : (vals (evFnT Tryd.prog (tb Tryd.prog tab32) (tbT Tryd.prog tab32) ⟨[], [], []⟩ noLoops 100 81 #[.agg #[.int .u64 xh, .int .u64 xl, .bool xn], .int .i64 ((62 : Nat) : Int)] [])) = .leaf (some (.int .u64 (bitI xh xl ((62 : Nat) : Int)))) := by kernel_rfl
theorem b81_63 (xh xl : Int) (xn : Bool) : (vals (evFnT Tryd.prog (tb Tryd.prog tab32) (tbT Tryd.prog tab32) ⟨[], [], []⟩ noLoops 100 81 #[.agg #[.int .u64 xh, .int .u64 xl, .bool xn], .int .i64 ((63 : Nat) : Int)] [])) = .leaf (some (.int .u64 (bitI xh xl ((63 : Nat) : Int)))) := by kernel_rfl
theorem b81_64 (xh xl : Int) (xn : Bool) : (vals (evFnT Tryd.prog (tb Tryd.prog tab32) (tbT Tryd.prog tab32) ⟨[], [], []⟩ noLoops 100 81 #[.agg #[.int .u64 xh, .int .u64 xl, .bool xn], .int .i64 ((64 : Nat) : Int)] [])) = .leaf (some (.int .u64 (bitI xh xl ((64 : Nat) : Int)))) := by kernel_rfl
theorem b81_65 (xh xl : Int) (xn : Bool) : (vals (evFnT Tryd.prog (tb Tryd.prog tab32) (tbT Tryd.prog tab32) ⟨[], [], []⟩ noLoops 100 81 #[.agg #[.int .u64 xh, .int .u64 xl, .bool xn], .int .i64 ((65 : Nat) : Int)] [])) = .leaf (some (.int .u64 (bitI xh xl ((65 : Nat) : Int)))) := by kernel_rfl
theorem b81_66 (xh xl : Int) (xn : Bool) : (vals (evFnT Tryd.prog (tb Tryd.prog tab32) (tbT Tryd.prog tab32) ⟨[], [], []⟩ noLoops 100 81 #[.agg #[.int .u64 xh, .int .u64 xl, .bool xn], .int .i64 ((66 : Nat) : Int)] [])) = .leaf (some (.int .u64 (bitI xh xl ((66 : Nat) : Int)))) := by kernel_rfl
theorem b81_67 (xh xl : Int) (xn : Bool) : (vals (evFnT Tryd.prog (tb Tryd.prog tab32) (tbT Tryd.prog tab32) ⟨[], [], []⟩ noLoops 100 81 #[.agg #[.int .u64 xh, .int .u64 xl, .bool xn], .int .i64 ((67 : Nat) : Int)] [])) = .leaf (some (.int .u64 (bitI xh xl ((67 : Nat) : Int)))) := by kernel_rfl
theorem b81_68 (xh xl : Int) (xn : Bool) : (vals (evFnT Tryd.prog (tb Tryd.prog tab32) (tbT Tryd.prog tab32) ⟨[], [], []⟩ noLoops 100 81 #[.agg #[.int .u64 xh, .int .u64 xl, .bool xn], .int .i64 ((68 : Nat) : Int)] [])) = .leaf (some (.int .u64 (bitI xh xl ((68 : Nat) : Int)))) := by kernel_rfl
theorem b81_69 (xh xl : Int) (xn : Bool) : (vals (evFnT Tryd.prog (tb Tryd.prog tab32) (tbT Tryd.prog tab32) ⟨[], [], []⟩ noLoops 100 81 #[.agg #[.int .u64 xh, .int .u64 xl, .bool xn], .int .i64 ((69 : Nat) : Int)] [])) = .leaf (some (.int .u64 (bitI xh xl ((69 : Nat) : Int)))) := by kernel_rfl
theorem b81_70 (xh xl : Int) (xn : Bool) : (vals (evFnT Tryd.prog (tb Tryd.prog tab32) (tbT Tryd.prog tab32) ⟨[], [], []⟩ noLoops 100 81 #[.agg #[.int .u64 xh, .int .u64 xl, .bool xn], .int .i64 ((70 : Nat) : Int)] [])) = .leaf (some (.int .u64 (bitI xh xl ((70 : Nat) : Int)))) := by kernel_rfl
theorem b81_71 (xh xl : Int) (xn : Bool) : (vals (evFnT Tryd.prog (tb Tryd.prog tab32) (tbT Tryd.prog tab32) ⟨[], [], []⟩ noLoops 100 81 #[.agg #[.int .u64 xh, .int .u64 xl, .bool xn], .int .i64 ((71 : Nat) : Int)] [])) = .leaf (some (.int .u64 (bitI xh xl ((71 : Nat) : Int)))) := by kernel_rfl
theorem b81_72 (xh xl : Int) (xn : Bool) : (vals (evFnT Tryd.prog (tb Tryd.prog tab32) (tbT Tryd.prog tab32) ⟨[], [], []⟩ noLoops 100 81 #[.agg #[.int .u64 xh, .int .u64 xl, .bool xn], .int .i64 ((72 : Nat) : Int)] [])) = .leaf (some (.int .u64 (bitI xh xl ((72 : Nat) : Int)))) := by kernel_rfl
theorem b81_73 (xh xl : Int) (xn : Bool) : (vals (evFnT Tryd.prog (tb Tryd.prog tab32) (tbT Tryd.prog tab32) ⟨[], [], []⟩ noLoops 100 81 #[.agg #[.int .u64 xh, .int .u64 xl, .bool xn], .int .i64 ((73 : Nat) : Int)] [])) = .leaf (some (.int .u64 (bitI xh xl ((73 : Nat) : Int)))) := by kernel_rfl
theorem b81_74 (xh xl : Int) (xn : Bool) : (vals (evFnT Tryd.prog (tb Tryd.prog tab32) (tbT Tryd.prog tab32) ⟨[], [], []⟩ noLoops 100 81 #[.agg #[.int .u64 xh, .int .u64 xl, .bool xn], .int .i64 ((74 : Nat) : Int)] [])) = .leaf (some (.int .u64 (bitI xh xl ((74 : Nat) : Int)))) := by kernel_rfl
theorem b81_75 (xh xl : Int) (xn : Bool) : (vals (evFnT Tryd.prog (tb Tryd.prog tab32) (tbT Tryd.prog tab32) ⟨[], [], []⟩ noLoops 100 81 #[.agg #[.int .u64 xh, .int .u64 xl, .bool xn], .int .i64 ((75 : Nat) : Int)] [])) = .leaf (some (.int .u64 (bitI xh xl ((75 : Nat) : Int)))) := by kernel_rfl
theorem b81_76 (xh xl : Int) (xn : Bool) : (vals (evFnT Tryd.prog (tb Tryd.prog tab32) (tbT Tryd.prog tab32) ⟨[], [], []⟩ noLoops 100 81 #[.agg #[.int .u64 xh, .int .u64 xl, .bool xn], .int .i64 ((76 : Nat) : Int)] [])) = .leaf (some (.int .u64 (bitI xh xl ((76 : Nat) : Int)))) := by kernel_rfl
theorem b81_77 (xh xl : Int) (xn : Bool) : (vals (evFnT Tryd.prog (tb Tryd.prog tab32) (tbT Tryd.prog tab32) ⟨[], [], []⟩ noLoops 100 81 #[.agg #[.int .u64 xh, .int .u64 xl, .bool xn], .int .i64 ((77 : Nat) : Int)] [])) = .leaf (some (.int .u64 (bitI xh xl ((77 : Nat) : Int)))) := by kernel_rfl
theorem b81_78 (xh xl : Int) (xn : Bool) : (vals (evFnT Tryd.prog (tb Tryd.prog tab32) (tbT Tryd.prog tab32) ⟨[], [], []⟩ noLoops 100 81 #[.agg #[.int .u64 xh, .int .u64 xl, .bool xn], .int .i64 ((78 : Nat) : Int)] [])) = .leaf (some (.int .u64 (bitI xh xl ((78 : Nat) : Int)))) := by kernel_rfl
theorem b81_79 (xh xl : Int) (xn : Bool) : (vals (evFnT Tryd.prog (tb Tryd.prog tab32) (tbT Tryd.prog tab32) ⟨[], [], []⟩ noLoops 100 81 #[.agg #[.int .u64 xh, .int .u64 xl, .bool xn], .int .i64 ((79 : Nat) : Int)] [])) = .leaf (some (.int .u64 (bitI xh xl ((79 : Nat) : Int)))) := by kernel_rfl
theorem b81_80 (xh xl : Int) (xn : Bool) : (vals (evFnT Tryd.prog (tb Tryd.prog tab32) (tbT Tryd.prog tab32) ⟨[], [], []⟩ noLoops 100 81 #[.agg #[.int .u64 xh, .int .u64 xl, .bool xn], .int .i64 ((80 : Nat) : Int)] [])) = .leaf (some (.int .u64 (bitI xh xl ((80 : Nat) : Int)))) := by kernel_rfl
theorem b81_81 (xh xl : Int) (xn : Bool) : (vals (evFnT Tryd.prog (tb Tryd.prog tab32) (tbT Tryd.prog tab32) ⟨[], [], []⟩ noLoops 100 81 #[.agg #[.int .u64 xh, .int .u64 xl, .bool xn], .int .i64 ((81 : Nat) : Int)] [])) = .leaf (some (.int .u64 (bitI xh xl ((81 : Nat) : Int)))) := by kernel_rfl
theorem b81_82 (xh xl : Int) (xn : Bool) : (vals (evFnT Tryd.prog (tb Tryd.prog tab32) (tbT Tryd.prog tab32) ⟨[], [], []⟩ noLoops 100 81 #[.agg #[.int .u64 xh, .int .u64 xl, .bool xn], .int .i64 ((82 : Nat) : Int)] [])) = .leaf (some (.int .u64 (bitI xh xl ((82 : Nat) : Int)))) := by kernel_rfl
theorem b81_83 (xh xl : Int) (xn : Bool) : (vals (evFnT Tryd.prog (tb Tryd.prog tab32) (tbT Tryd.prog tab32) ⟨[], [], []⟩ noLoops 100 81 #[.agg #[.int .u64 xh, .int .u64 xl, .bool xn], .int .i64 ((83 : Nat) : Int)] [])) = .leaf (some (.int .u64 (bitI xh xl ((83 : Nat) : Int)))) := by kernel_rfl
theorem b81_84 (xh xl : Int) (xn : Bool) : (vals (evFnT Tryd.prog (tb Tryd.prog tab32) (tbT Tryd.prog tab32) ⟨[], [], []⟩ noLoops 100 81 #[.agg #[.int .u64 xh, .int .u64 xl, .bool xn], .int .i64 ((84 : Nat) : Int)] [])) = .leaf (some (.int .u64 (bitI xh xl ((84 : Nat) : Int)))) := by kernel_rfl
theorem b81_85 (xh xl : Int) (xn : Bool) : (vals (evFnT Tryd.prog (tb Tryd.prog tab32) (tbT Tryd.prog tab32) ⟨[], [], []⟩ noLoops 100 81 #[.agg #[.int .u64 xh, .int .u64 xl, .bool xn], .int .i64 ((85 : Nat) : Int)] [])) = .leaf (some (.int .u64 (bitI xh xl ((85 : Nat) : Int)))) := by kernel_rfl
theorem b81_86 (xh xl : Int) (xn : Bool) : (vals (evFnT Tryd.prog (tb Tryd.prog tab32) (tbT Tryd.prog tab32) ⟨[], [], []⟩ noLoops 100 81 #[.agg #[.int .u64 xh, .int .u64 xl, .bool xn], .int .i64 ((86 : Nat) : Int)] [])) = .leaf (some (.int .u64 (bitI xh xl ((86 : Nat) : Int)))) := by kernel_rfl
theorem b81_87 (xh xl : Int) (xn : Bool) : (vals (evFnT Tryd.prog (tb Tryd.prog tab32) (tbT Tryd.prog tab32) ⟨[], [], []⟩ noLoops 100 81 #[.agg #[.int .u64 xh, .int .u64 xl, .bool xn], .int .i64 ((87 : Nat) : Int)] [])) = .leaf (some (.int .u64 (bitI xh xl ((87 : Nat) : Int)))) := by kernel_rfl
theorem b81_88 (xh xl : Int) (xn : Bool) : (vals (evFnT Tryd.prog (tb Tryd.prog tab32) (tbT Tryd.prog tab32) ⟨[], [], []⟩ noLoops 100 81 #[.agg #[.int .u64 xh, .int .u64 xl, .bool xn], .int .i64 ((88 : Nat) : Int)] [])) = .leaf (some (.int .u64 (bitI xh xl ((88 : Nat) : Int)))) := by kernel_rfl
theorem b81_89 (xh xl : Int) (xn : Bool) : (vals (evFnT Tryd.prog (tb Tryd.prog tab32) (tbT Tryd.prog tab32) ⟨[], [], []⟩ noLoops 100 81 #[.agg #[.int .u64 xh, .int .u64 xl, .bool xn], .int .i64 ((89 : Nat) : Int)] [])) = .leaf (some (.int .u64 (bitI xh xl ((89 : Nat) : Int)))) := by kernel_rfl
theorem b81_90 (xh xl : Int) (xn : Bool) : (vals (evFnT Tryd.prog (tb Tryd.prog tab32) (tbT Tryd.prog tab32) ⟨[], [], []⟩ noLoops 100 81 #[.agg #[.int .u64 xh, .int .u64 xl, .bool xn], .int .i64 ((90 : Nat) : Int)] [])) = .leaf (some (.int .u64 (bitI xh xl ((90 : Nat) : Int)))) := by kernel_rfl
theorem b81_91 (xh xl : Int) (xn : Bool) : (vals (evFnT Tryd.prog (tb Tryd.prog tab32) (tbT Tryd.prog tab32) ⟨[], [], []⟩ noLoops 100 81 #[.agg #[.int .u64 xh, .int .u64 xl, .bool xn], .int .i64 ((91 : Nat) : Int)] [])) = .leaf (some (.int .u64 (bitI xh xl ((91 : Nat) : Int)))) := by kernel_rfl
theorem b81_92 (xh xl : Int) (xn : Bool) : (vals (evFnT Tryd.prog (tb Tryd.prog tab32) (tbT Tryd.prog tab32) ⟨[], [], []⟩ noLoops 100 81 #[.agg #[.int .u64 xh, .int .u64 xl, .bool xn], .int .i64 ((92 : Nat) : Int)] [])) = .leaf (some (.int .u64 (bitI xh xl ((92 : Nat) : Int)))) := by kernel_rfl
theorem b81_93 (xh xl : Int) (xn : Bool) : (vals (evFnT Tryd.prog (tb Tryd.prog tab32) (tbT Tryd.prog tab32) ⟨[], [], []⟩ noLoops 100 81 #[.agg #[.int .u64 xh, .int .u64 xl, .bool xn], .int .i64 ((93 : Nat) : Int)] [])) = .leaf (some (.int .u64 (bitI xh xl ((93 : Nat) : Int)))) := by kernel_rfl
theorem b81_94 (xh xl : Int) (xn : Bool) : (vals (evFnT Tryd.prog (tb Tryd.prog tab32) (tbT Tryd.prog tab32) ⟨[], [], []⟩ noLoops 100 81 #[.agg #[.int .u64 xh, .int .u64 xl, .bool xn], .int .i64 ((94 : Nat) : Int)] [])) = .leaf (some (.int .u64 (bitI xh xl ((94 : Nat) : Int)))) := by kernel_rfl
theorem b81_95 (xh xl : Int) (xn : Bool) : (vals (evFnT Tryd.prog (tb Tryd.prog tab32) (tbT Tryd.prog tab32) ⟨[], [], []⟩ noLoops 100 81 #[.agg #[.int .u64 xh, .int .u64 xl, .bool xn], .int .i64 ((95 : Nat) : Int)] [])) = .leaf (some (.int .u64 (bitI xh xl ((95 : Nat) : Int)))) := by kernel_rfl
theorem b81_96 (xh xl : Int) (xn : Bool) : (vals (evFnT Tryd.prog (tb Tryd.prog tab32) (tbT Tryd.prog tab32) ⟨[], [], []⟩ noLoops 100 81 #[.agg #[.int .u64 xh, .int .u64 xl, .bool xn], .int .i64 ((96 : Nat) : Int)] [])) = .leaf (some (.int .u64 (bitI xh xl ((96 : Nat) : Int)))) := by kernel_rfl
theorem b81_97 (xh xl : Int) (xn : Bool) : (vals (evFnT Tryd.prog (tb Tryd.prog tab32) (tbT Tryd.prog tab32) ⟨[], [], []⟩ noLoops 100 81 #[.agg #[.int .u64 xh, .int .u64 xl, .bool xn], .int .i64 ((97 : Nat) : Int)] [])) = .leaf (some (.int .u64 (bitI xh xl ((97 : Nat) : Int)))) := by kernel_rfl
theorem b81_98 (xh xl : Int) (xn : Bool) : (vals (evFnT Tryd.prog (tb Tryd.prog tab32) (tbT Tryd.prog tab32) ⟨[], [], []⟩ noLoops 100 81 #[.agg #[.int .u64 xh, .int .u64 xl, .bool xn], .int .i64 ((98 : Nat) : Int)] [])) = .leaf (some (.int .u64 (bitI xh xl ((98 : Nat) : Int)))) := by kernel_rfl
theorem b81_99 (xh xl : Int) (xn : Bool) : (vals (evFnT Tryd.prog (tb Tryd.prog tab32) (tbT Tryd.prog tab32) ⟨[], [], []⟩ noLoops 100 81 #[.agg #[.int .u64 xh, .int .u64 xl, .bool xn], .int .i64 ((99 : Nat) : Int)] [])) = .leaf (some (.int .u64 (bitI xh xl ((99 : Nat) : Int)))) := by kernel_rfl
theorem b81_100 (xh xl : Int) (xn : Bool) : (vals (evFnT Tryd.prog (tb Tryd.prog tab32) (tbT Tryd.prog tab32) ⟨[], [], []⟩ noLoops 100 81 #[.agg #[.int .u64 xh, .int .u64 xl, .bool xn], .int .i64 ((100 : Nat) : Int)] [])) = .leaf (some (.int .u64 (bitI xh xl ((100 : Nat) : Int)))) := by kernel_rfl
theorem b81_101 (xh xl : Int) (xn : Bool) : (vals (evFnT Tryd.prog (tb Tryd.prog tab32) (tbT Tryd.prog tab32) ⟨[], [], []⟩ noLoops 100 81 #[.agg #[.int .u64 xh, .int .u64 xl, .bool xn], .int .i64 ((101 : Nat) : Int)] [])) = .leaf (some (.int .u64 (bitI xh xl ((101 : Nat) : Int)))) := by kernel_rfl
theorem b81_102 (xh xl : Int) (xn : Bool) : (vals (evFnT Tryd.prog (tb Tryd.prog tab32) (tbT Tryd.prog tab32) ⟨[], [], []⟩ noLoops 100 81 #[.agg #[.int .u64 xh, .int .u64 xl, .bool xn], .int .i64 ((102 : Nat) : Int)] [])) = .leaf (some (.int .u64 (bitI xh xl ((102 : Nat) : Int)))) := by kernel_rfl
theorem b81_103 (xh xl : Int) (xn : Bool) : (vals (evFnT Tryd.prog (tb Tryd.prog tab32) (tbT Tryd.prog tab32) ⟨[], [], []⟩ noLoops 100 81 #[.agg #[.int .u64 xh, .int .u64 xl, .bool xn], .int .i64 ((103 : Nat) : Int)] [])) = .leaf (some (.int .u64 (bitI xh xl ((103 : Nat) : Int)))) := by kernel_rfl
theorem b81_104 (xh xl : Int) (xn : Bool) : (vals (evFnT Tryd.prog (tb Tryd.prog tab32) (tbT Tryd.prog tab32) ⟨[], [], []⟩ noLoops 100 81 #[.agg #[.int .u64 xh, .int .u64 xl, .bool xn], .int .i64 ((104 : Nat) : Int)] [])) = .leaf (some (.int .u64 (bitI xh xl ((104 : Nat) : Int)))) := by kernel_rfl
theorem b81_105 (xh xl : Int) (xn : Bool) : (vals (evFnT Tryd.prog (tb Tryd.prog tab32) (tbT Tryd.prog tab32) ⟨[], [], []⟩ noLoops 100 81 #[.agg #[.int .u64 xh, .int .u64 xl, .bool xn], .int .i64 ((105 : Nat) : Int)] [])) = .leaf (some (.int .u64 (bitI xh xl ((105 : Nat) : Int)))) := by kernel_rfl
theorem b81_106 (xh xl : Int) (xn : Bool) : (vals (evFnT Tryd.prog (tb Tryd.prog tab32) (tbT Tryd.prog tab32) ⟨[], [], []⟩ noLoops 100 81 #[.agg #[.int .u64 xh, .int .u64 xl, .bool xn], .int .i64 ((106 : Nat) : Int)] [])) = .leaf (some (.int .u64 (bitI xh xl ((106 : Nat) : Int)))) := by kernel_rfl
theorem b81_107 (xh xl : Int) (xn : Bool) : (vals (evFnT Tryd.prog (tb Tryd.prog tab32) (tbT Tryd.prog tab32) ⟨[], [], []⟩ noLoops 100 81 #[.agg #[.int .u64 xh, .int .u64 xl, .bool xn], .int .i64 ((107 : Nat) : Int)] [])) = .leaf (some (.int .u64 (bitI xh xl ((107 : Nat) : Int)))) := by kernel_rfl
theorem b81_108 (xh xl : Int) (xn : Bool) : (vals (evFnT Tryd.prog (tb Tryd.prog tab32) (tbT Tryd.prog tab32) ⟨[], [], []⟩ noLoops 100 81 #[.agg #[.int .u64 xh, .int .u64 xl, .bool xn], .int .i64 ((108 : Nat) : Int)] [])) = .leaf (some (.int .u64 (bitI xh xl ((108 : Nat) : Int)))) := by kernel_rfl
theorem b81_109 (xh xl : Int) (xn : Bool) : (vals (evFnT Tryd.prog (tb Tryd.prog tab32) (tbT Tryd.prog tab32) ⟨[], [], []⟩ noLoops 100 81 #[.agg #[.int .u64 xh, .int .u64 xl, .bool xn], .int .i64 ((109 : Nat) : Int)] [])) = .leaf (some (.int .u64 (bitI xh xl ((109 : Nat) : Int)))) := by kernel_rfl
theorem b81_110 (xh xl : Int) (xn : Bool) : (vals (evFnT Tryd.prog (tb Tryd.prog tab32) (tbT Tryd.prog tab32) ⟨[], [], []⟩ noLoops 100 81 #[.agg #[.int .u64 xh, .int .u64 xl, .bool xn], .int .i64 ((110 : Nat) : Int)] [])) = .leaf (some (.int .u64 (bitI xh xl ((110 : Nat) : Int)))) := by kernel_rfl
theorem b81_111 (xh xl : Int) (xn : Bool) : (vals (evFnT Tryd.prog (tb Tryd.prog tab32) (tbT Tryd.prog tab32) ⟨[], [], []⟩ noLoops 100 81 #[.agg #[.int .u64 xh, .int .u64 xl, .bool xn], .int .i64 ((111 : Nat) : Int)] [])) = .leaf (some (.int .u64 (bitI xh xl ((111 : Nat) : Int)))) := by kernel_rfl
theorem b81_112 (xh xl : Int) (xn : Bool) : (vals (evFnT Tryd.prog (tb Tryd.prog tab32) (tbT Tryd.prog tab32) ⟨[], [], []⟩ noLoops 100 81 #[.agg #[.int .u64 xh, .int .u64 xl, .bool xn], .int .i64 ((112 : Nat) : Int)] [])) = .leaf (some (.int .u64 (bitI xh xl ((112 : Nat) : Int)))) := by kernel_rfl
theorem b81_113 (xh xl : Int) (xn : Bool) : (vals (evFnT Tryd.prog (tb Tryd.prog tab32) (tbT Tryd.prog tab32) ⟨[], [], []⟩ noLoops 100 81 #[.agg #[.int .u64 xh, .int .u64 xl, .bool xn], .int .i64 ((113 : Nat) : Int)] [])) = .leaf (some (.int .u64 (bitI xh xl ((113 : Nat) : Int)))) := by kernel_rfl
theorem b81_114 (xh xl : Int) (xn : Bool) : (vals (evFnT Tryd.prog (tb Tryd.prog tab32) (tbT Tryd.prog tab32) ⟨[], [], []⟩ noLoops 100 81 #[.agg #[.int .u64 xh, .int .u64 xl, .bool xn], .int .i64 ((114 : Nat) : Int)] [])) = .leaf (some (.int .u64 (bitI xh xl ((114 : Nat) : Int)))) := by kernel_rfl
theorem b81_115 (xh xl : Int) (xn : Bool) : (vals (evFnT Tryd.prog (tb Tryd.prog tab32) (tbT Tryd.prog tab32) ⟨[], [], []⟩ noLoops 100 81 #[.agg #[.int .u64 xh, .int .u64 xl, .bool xn], .int .i64 ((115 : Nat) : Int)] [])) = .leaf (some (.int .u64 (bitI xh xl ((115 : Nat) : Int)))) := by kernel_rfl
theorem b81_116 (xh xl : Int) (xn : Bool) : (vals (evFnT Tryd.prog (tb Tryd.prog tab32) (tbT Tryd.prog tab32) ⟨[], [], []⟩ noLoops 100 81 #[.agg #[.int .u64 xh, .int .u64 xl, .bool xn], .int .i64 ((116 : Nat) : Int)] [])) = .leaf (some (.int .u64 (bitI xh xl ((116 : Nat) : Int)))) := by kernel_rfl
theorem b81_117 (xh xl : Int) (xn : Bool) : (vals (evFnT Tryd.prog (tb Tryd.prog tab32) (tbT Tryd.prog tab32) ⟨[], [], []⟩ noLoops 100 81 #[.agg #[.int .u64 xh, .int .u64 xl, .bool xn], .int .i64 ((117 : Nat) : Int)] [])) = .leaf (some (.int .u64 (bitI xh xl ((117 : Nat) : Int)))) := by kernel_rfl
theorem b81_118 (xh xl : Int) (xn : Bool) : (vals (evFnT Tryd.prog (tb Tryd.prog tab32) (tbT Tryd.prog tab32) ⟨[], [], []⟩ noLoops 100 81 #[.agg #[.int .u64 xh, .int .u64 xl, .bool xn], .int .i64 ((118 : Nat) : Int)] [])) = .leaf (some (.int .u64 (bitI xh xl ((118 : Nat) : Int)))) := by kernel_rfl
theorem b81_119 (xh xl : Int) (xn : Bool) : (vals (evFnT Tryd.prog (tb Tryd.prog tab32) (tbT Tryd.prog tab32) ⟨[], [], []⟩ noLoops 100 81 #[.agg #[.int .u64 xh, .int .u64 xl, .bool xn], .int .i64 ((119 : Nat) : Int)] [])) = .leaf (some (.int .u64 (bitI xh xl ((119 : Nat) : Int)))) := by kernel_rfl
theorem b81_120 (xh xl : Int) (xn : Bool) : (vals (evFnT Tryd.prog (tb Tryd.prog tab32) (tbT Tryd.prog tab32) ⟨[], [], []⟩ noLoops 100 81 #[.agg #[.int .u64 xh, .int .u64 xl, .bool xn], .int .i64 ((120 : Nat) : Int)] [])) = .leaf (some (.int .u64 (bitI xh xl ((120 : Nat) : Int)))) := by kernel_rfl
theorem b81_121 (xh xl : Int) (xn : Bool) : (vals (evFnT Tryd.prog (tb Tryd.prog tab32) (tbT Tryd.prog tab32) ⟨[], [], []⟩ noLoops 100 81 #[.agg #[.int .u64 xh, .int .u64 xl, .bool xn], .int .i64 ((121 : Nat) : Int)] [])) = .leaf (some (.int .u64 (bitI xh xl ((121 : Nat) : Int)))) := by kernel_rfl
theorem b81_122 (xh xl : Int) (xn : Bool) : (vals (evFnT Tryd.prog (tb Tryd.prog tab32) (tbT Tryd.prog tab32) ⟨[], [], []⟩ noLoops 100 81 #[.agg #[.int .u64 xh, .int .u64 xl, .bool xn], .int .i64 ((122 : Nat) : Int)] [])) = .leaf (some (.int .u64 (bitI xh xl ((122 : Nat) : Int)))) := by kernel_rfl
theorem b81_123 (xh xl : Int) (xn : Bool) : (vals (evFnT Tryd.prog (tb Tryd.prog tab32) (tbT Tryd.prog tab32) ⟨[], [], []⟩ noLoops 100 81 #[.agg #[.int .u64 xh, .int .u64 xl, .bool xn], .int .i64 ((123 : Nat) : Int)] [])) = .leaf (some (.int .u64 (bitI xh xl ((123 : Nat) : Int)))) := by kernel_rfl
theorem b81_124 (xh xl : Int) (xn : Bool) : (vals (evFnT Tryd.prog (tb Tryd.prog tab32) (tbT Tryd.prog tab32) ⟨[], [], []⟩ noLoops 100 81 #[.agg #[.int .u64 xh, .int .u64 xl, .bool xn], .int .i64 ((124 : Nat) : Int)] [])) = .leaf (some (.int .u64 (bitI xh xl ((124 : Nat) : Int)))) := by kernel_rfl
theorem b81_125 (xh xl : Int) (xn : Bool) : (vals (evFnT Tryd.prog (tb Tryd.prog tab32) (tbT Tryd.prog tab32) ⟨[], [], []⟩ noLoops 100 81 #[.agg #[.int .u64 xh, .int .u64 xl, .bool xn], .int .i64 ((125 : Nat) : Int)] [])) = .leaf (some (.int .u64 (bitI xh xl ((125 : Nat) : Int)))) := by kernel_rfl
theorem b81_126 (xh xl : Int) (xn : Bool) : (vals (evFnT Tryd.prog (tb Tryd.prog tab32) (tbT Tryd.prog tab32) ⟨[], [], []⟩ noLoops 100 81 #[.agg #[.int .u64 xh, .int .u64 xl, .bool xn], .int .i64 ((126 : Nat) : Int)] [])) = .leaf (some (.int .u64 (bitI xh xl ((126 : Nat) : Int)))) := by kernel_rfl
theorem b81_127 (xh xl : Int) (xn : Bool) : (vals (evFnT Tryd.prog (tb Tryd.prog tab32) (tbT Tryd.prog tab32) ⟨[], [], []⟩ noLoops 100 81 #[.agg #[.int .u64 xh, .int .u64 xl, .bool xn], .int .i64 ((127 : Nat) : Int)] [])) = .leaf (some (.int .u64 (bitI xh xl ((127 : Nat) : Int)))) := by kernel_rfl
theorem bit81 (xh xl : Int) (xn : Bool) : ∀ k : Nat, k < 128 → (vals (evFnT Tryd.prog (tb Tryd.prog tab32) (tbT Tryd.prog tab32) ⟨[], [], []⟩ noLoops 100 81 #[.agg #[.int .u64 xh, .int .u64 xl, .bool xn], .int .i64 (k : Int)] [])) = .leaf (some (.int .u64 (bitI xh xl (k : Int))))
  | 0, _ => b81_0 xh xl xn
  | 1, _ => b81_1 xh xl xn
  | 2, _ => b81_2 xh xl xn
  | 3, _ => b81_3 xh xl xn
  | 4, _ => b81_4 xh xl xn
  | 5, _ => b81_5 xh xl xn
  | 6, _ => b81_6 xh xl xn
  | 7, _ => b81_7 xh xl xn
  | 8, _ => b81_8 xh xl xn
  | 9, _ => b81_9 xh xl xn
  | 10, _ => b81_10 xh xl xn
  | 11, _ => b81_11 xh xl xn
  | 12, _ => b81_12 xh xl xn
  | 13, _ => b81_13 xh xl xn
  | 14, _ => b81_14 xh xl xn
  | 15, _ => b81_15 xh xl xn
  | 16, _ => b81_16 xh xl xn
  | 17, _ => b81_17 xh xl xn
  | 18, _ => b81_18 xh xl xn
  | 19, _ => b81_19 xh xl xn
  | 20, _ => b81_20 xh xl xn
  | 21, _ => b81_21 xh xl xn
  | 22, _ => b81_22 xh xl xn
  | 23, _ => b81_23 xh xl xn
  | 24, _ => b81_24 xh xl xn
  | 25, _ => b81_25 xh xl xn
  | 26, _ => b81_26 xh xl xn
  | 27, _ => b81_27 xh xl xn
  | 28, _ => b81_28 xh xl xn
  | 29, _ => b81_29 xh xl xn
  | 30, _ => b81_30 xh xl xn
  | 31, _ => b81_31 xh xl xn
  | 32, _ => b81_32 xh xl xn
  | 33, _ => b81_33 xh xl xn
  | 34, _ => b81_34 xh xl xn
  | 35, _ => b81_35 xh xl xn
  | 36, _ => b81_36 xh xl xn
  | 37, _ => b81_37 xh xl xn
  | 38, _ => b81_38 xh xl xn
  | 39, _ => b81_39 xh xl xn
  | 40, _ => b81_40 xh xl xn
  | 41, _ => b81_41 xh xl xn
  | 42, _ => b81_42 xh xl xn
  | 43, _ => b81_43 xh xl xn
  | 44, _ => b81_44 xh xl xn
  | 45, _ => b81_45 xh xl xn
  | 46, _ => b81_46 xh xl xn
  | 47, _ => b81_47 xh xl xn
  | 48, _ => b81_48 xh xl xn
  | 49, _ => b81_49 xh xl xn
  | 50, _ => b81_50 xh xl xn
  | 51, _ => b81_51 xh xl xn
  | 52, _ => b81_52 xh xl xn
  | 53, _ => b81_53 xh xl xn
  | 54, _ => b81_54 xh xl xn
  | 55, _ => b81_55 xh xl xn
  | 56, _ => b81_56 xh xl xn
  | 57, _ => b81_57 xh xl xn
  | 58, _ => b81_58 xh xl xn
  | 59, _ => b81_59 xh xl xn
  | 60, _ => b81_60 xh xl xn
  | 61, _ => b81_61 xh xl xn
  | 62, _ => b81_62 xh xl xn
  | 63, _ => b81_63 xh xl xn
  | 64, _ => b81_64 xh xl xn
  | 65, _ => b81_65 xh xl xn
  | 66, _ => b81_66 xh xl xn
  | 67, _ => b81_67 xh xl xn
  | 68, _ => b81_68 xh xl xn
  | 69, _ => b81_69 xh xl xn
  | 70, _ => b81_70 xh xl xn
  | 71, _ => b81_71 xh xl xn
  | 72, _ => b81_72 xh xl xn
  | 73, _ => b81_73 xh xl xn
  | 74, _ => b81_74 xh xl xn
  | 75, _ => b81_75 xh xl xn
  | 76, _ => b81_76 xh xl xn
  | 77, _ => b81_77 xh xl xn
  | 78, _ => b81_78 xh xl xn
  | 79, _ => b81_79 xh xl xn
  | 80, _ => b81_80 xh xl xn
  | 81, _ => b81_81 xh xl xn
  | 82, _ => b81_82 xh xl xn
  | 83, _ => b81_83 xh xl xn
  | 84, _ => b81_84 xh xl xn
  | 85, _ => b81_85 xh xl xn
  | 86, _ => b81_86 xh xl xn
  | 87, _ => b81_87 xh xl xn
  | 88, _ => b81_88 xh xl xn
  | 89, _ => b81_89 xh xl xn
  | 90, _ => b81_90 xh xl xn
  | 91, _ => b81_91 xh xl xn
  | 92, _ => b81_92 xh xl xn
  | 93, _ => b81_93 xh xl xn
  | 94, _ => b81_94 xh xl xn
  | 95, _ => b81_95 xh xl xn
  | 96, _ => b81_96 xh xl xn
  | 97, _ => b81_97 xh xl xn
  | 98, _ => b81_98 xh xl xn
  | 99, _ => b81_99 xh xl xn
  | 100, _ => b81_100 xh xl xn
  | 101, _ => b81_101 xh xl xn
  | 102, _ => b81_102 xh xl xn
  | 103, _ => b81_103 xh xl xn
  | 104, _ => b81_104 xh xl xn
  | 105, _ => b81_105 xh xl xn
  | 106, _ => b81_106 xh xl xn
  | 107, _ => b81_107 xh xl xn
  | 108, _ => b81_108 xh xl xn
  | 109, _ => b81_109 xh xl xn
  | 110, _ => b81_110 xh xl xn
  | 111, _ => b81_111 xh xl xn
  | 112, _ => b81_112 xh xl xn
  | 113, _ => b81_113 xh xl xn
  | 114, _ => b81_114 xh xl xn
  | 115, _ => b81_115 xh xl xn
  | 116, _ => b81_116 xh xl xn
  | 117, _ => b81_117 xh xl xn
  | 118, _ => b81_118 xh xl xn
  | 119, _ => b81_119 xh xl xn
  | 120, _ => b81_120 xh xl xn
  | 121, _ => b81_121 xh xl xn
  | 122, _ => b81_122 xh xl xn
  | 123, _ => b81_123 xh xl xn
  | 124, _ => b81_124 xh xl xn
  | 125, _ => b81_125 xh xl xn
  | 126, _ => b81_126 xh xl xn
  | 127, _ => b81_127 xh xl xn
  | n + 128, h => absurd h (by omega)
theorem tab33_ok : TabOk Tryd.prog tab33 := tab_cond mixed tab32_ok (by decide) fun args b v h hb => by
  unfold ans81 at h
  split at h
  · rename_i c0 i h0
    split at h
    · rename_i xh xl xn h1
      injection h with h; injection h with h1' h2; subst h1' h2
      simp only [Bool.and_eq_true, decide_eq_true_eq] at hb
      obtain rfl : c0 = #[.int .u64 xh, .int .u64 xl, .bool xn] := by rw [← Array.toArray_toList (xs := c0), h1]
      obtain rfl : args = #[.agg #[.int .u64 xh, .int .u64 xl, .bool xn], .int .i64 i] := by rw [← Array.toArray_toList (xs := args), h0]
      obtain ⟨k, rfl⟩ := Int.eq_ofNat_of_zero_le hb.1
      exact ⟨rfl, rfl, ⟨[], [], []⟩, 100, by rw [bit81 xh xl xn k (by omega)]; rfl⟩
    · cases h
  · cases h
end Go.Proofs.YtfpcmckachpnpaaDoor.Vx
