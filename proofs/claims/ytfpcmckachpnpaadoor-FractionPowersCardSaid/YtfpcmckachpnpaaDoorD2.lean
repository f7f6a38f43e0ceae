/- The answers of the reference's long division. -/
import Derived.Test.YtfpcmckachpnpaaDoorD1
import Derived.IntWalk
namespace Go.Proofs.YtfpcmckachpnpaaDoor.Vx
open Go Go.RowKit Go.Proofs
set_option maxRecDepth 100000
set_option linter.unusedVariables false
set_option linter.unusedSimpArgs false
def aboveB (yh yl rh rl : Int) : Bool := bif decide (yh > rh) then true else bif yh == rh then decide (yl > rl) else false
def w128 (h l : Int) : Int := h * 18446744073709551616 + l
def wideV (x : Int) (n : Bool) : Value := .agg #[.int .u64 (x / 18446744073709551616), .int .u64 (x % 18446744073709551616), .bool n]
def ans51s : Array Value → Option (Bool × Value) := fun args => match args.toList with
  | [.agg c0, .agg c1] => match c0.toList, c1.toList with
    | [.int .u64 rh, .int .u64 rl, .bool false], [.int .u64 yh, .int .u64 yl, .bool true] => some (inU rh && (inU rl && (inU yh && (inU yl && !aboveB yh yl rh rl))), wideV (w128 rh rl - w128 yh yl) false)
    | _, _ => none
  | _ => none
def tab34 : Tab := (51, .cond ans51s) :: tab33
def o51 : Opts := ⟨[(42, 0), (59, 2)], [], []⟩
def leaf51 (a b c d : Int) (k : Nat) (n : Bool) : Tr Value := .leaf (some (.agg #[.int .u64 (Int.ofNat ((a.toNat + Go.Extern.MathBitsCarry.m64 - c.toNat - k) % Go.Extern.MathBitsCarry.m64)), .int .u64 (Int.ofNat ((b.toNat + Go.Extern.MathBitsCarry.m64 - d.toNat - 0) % Go.Extern.MathBitsCarry.m64)), .bool n]))
theorem tree51s (rh rl yh yl : Int) : vals (evFnT Tryd.prog (tb Tryd.prog tab33) (tbT Tryd.prog tab33) o51 noLoops 300 51 #[.agg #[.int .u64 rh, .int .u64 rl, .bool false], .agg #[.int .u64 yh, .int .u64 yl, .bool true]] []) =
    .node 42 (aboveB yh yl rh rl)
      (.node 59 (Int.ofNat (if yl.toNat < rl.toNat + 0 then 1 else 0) == ((0 : Nat) : Int)) (leaf51 yh yl rh rl 0 true) (.node 59 (Int.ofNat (if yl.toNat < rl.toNat + 0 then 1 else 0) == ((0 + 1 : Nat) : Int)) (leaf51 yh yl rh rl 1 true) (.leaf none)))
      (.node 59 (Int.ofNat (if rl.toNat < yl.toNat + 0 then 1 else 0) == ((0 : Nat) : Int)) (leaf51 rh rl yh yl 0 false) (.node 59 (Int.ofNat (if rl.toNat < yl.toNat + 0 then 1 else 0) == ((0 + 1 : Nat) : Int)) (leaf51 rh rl yh yl 1 false) (.leaf none))) := by kernel_rfl
theorem tree51s_res (rh rl yh yl : Int) (h : (inU rh && (inU rl && (inU yh && (inU yl && !aboveB yh yl rh rl)))) = true) : (vals (evFnT Tryd.prog (tb Tryd.prog tab33) (tbT Tryd.prog tab33) o51 noLoops 300 51 #[.agg #[.int .u64 rh, .int .u64 rl, .bool false], .agg #[.int .u64 yh, .int .u64 yl, .bool true]] [])).res = some (wideV (w128 rh rl - w128 yh yl) false) := by
  rw [tree51s]
  simp only [inU, Bool.and_eq_true, decide_eq_true_eq, Bool.not_eq_true'] at h
  obtain ⟨⟨a1, a2⟩, ⟨b1, b2⟩, ⟨c1, c2⟩, ⟨d1, d2⟩, h⟩ := h
  simp only [Tr.res, h, Bool.false_eq_true, if_false]
  obtain ⟨RH, rfl⟩ := Int.eq_ofNat_of_zero_le a1
  obtain ⟨RL, rfl⟩ := Int.eq_ofNat_of_zero_le b1
  obtain ⟨YH, rfl⟩ := Int.eq_ofNat_of_zero_le c1
  obtain ⟨YL, rfl⟩ := Int.eq_ofNat_of_zero_le d1
  have hab : ¬ (YH > RH ∨ YH = RH ∧ YL > RL) := by
    intro hc
    unfold aboveB at h
    rcases hc with hc | ⟨hc, hd⟩
    · simp [hc] at h
    · subst hc; simp [hd] at h
  have two : ∀ a b c d : Int, a = c → b = d → some (Value.agg #[.int .u64 a, .int .u64 b, .bool false]) = some (Value.agg #[.int .u64 c, .int .u64 d, .bool false]) := by rintro _ _ _ _ rfl rfl; rfl
  have m : Go.Extern.MathBitsCarry.m64 = 18446744073709551616 := rfl
  by_cases hb : RL < YL
  · have e1 : (RL : Int).toNat < (YL : Int).toNat + 0 := by omega
    rw [if_pos e1]
    simp only [Int.ofNat_eq_natCast, leaf51, wideV, w128, m, Tr.res]
    rw [if_neg (by decide), if_pos (by decide)]
    exact two _ _ _ _ (by omega) (by omega)
  · have e1 : ¬ (RL : Int).toNat < (YL : Int).toNat + 0 := by omega
    rw [if_neg e1]
    simp only [Int.ofNat_eq_natCast, leaf51, wideV, w128, m, Tr.res]
    rw [if_pos (by decide)]
    exact two _ _ _ _ (by omega) (by omega)
theorem tab34_ok : TabOk Tryd.prog tab34 := tab_cond mixed tab33_ok (by decide) fun args b v h hb => by
  unfold ans51s at h
  split at h
  · rename_i c0 c1 h0
    split at h
    · rename_i rh rl yh yl h1 h2
      injection h with h; injection h with h1' h2'; subst h1' h2'
      obtain rfl : c0 = #[.int .u64 rh, .int .u64 rl, .bool false] := by rw [← Array.toArray_toList (xs := c0), h1]
      obtain rfl : c1 = #[.int .u64 yh, .int .u64 yl, .bool true] := by rw [← Array.toArray_toList (xs := c1), h2]
      obtain rfl : args = #[.agg #[.int .u64 rh, .int .u64 rl, .bool false], .agg #[.int .u64 yh, .int .u64 yl, .bool true]] := by rw [← Array.toArray_toList (xs := args), h0]
      exact ⟨rfl, rfl, o51, 300, tree51s_res rh rl yh yl hb⟩
    · cases h
  · cases h
end Go.Proofs.YtfpcmckachpnpaaDoor.Vx
