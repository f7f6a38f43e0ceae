/- The answers of fraction.bounded. -/
import Derived.Test.YtfpcmckachpnpaaDoorD4
namespace Go.Proofs.YtfpcmckachpnpaaDoor.Vx
open Go Go.RowKit Go.Proofs
set_option maxRecDepth 100000
set_option linter.unusedVariables false
set_option linter.unusedSimpArgs false

/- gangsaw/fraction.negative -/
def ans49 : Ans := fun args => match args.toList with
  | [.agg c0] => match c0.toList with
    | [.int .i64 x0, .int .i64 x1] => some (.agg #[.int .i64 (IntKind.i64.wrap (0 - x0)), .int .i64 (x1)])
    | _ => none
  | _ => none
def tab37 : Tab := (49, .ans ans49) :: tab36
def tree49 (x0 x1 : Int) : Tr Value :=
  .leaf (some (.agg #[.int .i64 (IntKind.i64.wrap (0 - x0)), .int .i64 (x1)]))
theorem tree49_eq (x0 x1 : Int) : vals (evFnT Tryd.prog (tb Tryd.prog tab36) (tbT Tryd.prog tab36) ⟨[], [], []⟩ noLoops 300 49 #[.agg #[.int .i64 x0, .int .i64 x1]] []) = tree49 x0 x1 := by kernel_rfl
theorem tree49_res (x0 x1 : Int) : (tree49 x0 x1).res = some (.agg #[.int .i64 (IntKind.i64.wrap (0 - x0)), .int .i64 (x1)]) := by
  rfl
theorem tab37_ok : TabOk Tryd.prog tab37 := tab_cons mixed tab36_ok (by decide) fun args v h => by
  unfold ans49 at h
  split at h
  · rename_i c0 h0
    split at h
    · rename_i x0 x1 h1
      injection h with h; subst h
      obtain rfl : c0 = #[.int .i64 x0, .int .i64 x1] := by rw [← Array.toArray_toList (xs := c0), h1]
      obtain rfl : args = #[.agg #[.int .i64 x0, .int .i64 x1]] := by rw [← Array.toArray_toList (xs := args), h0]
      exact ⟨rfl, rfl, ⟨[], [], []⟩, 300, by rw [tree49_eq]; exact tree49_res _ _⟩
    · cases h
  · cases h

/- (gangsaw/fraction.wide).less -/
def ans63 : Ans := fun args => match args.toList with
  | [.agg c0, .agg c1] => match c0.toList, c1.toList with
    | [.int .u64 x0, .int .u64 x1], [.int .u64 x2, .int .u64 x3] => some (.bool (Decidable.decide (_fraction_wide_compare_0 x0 x1 x2 x3 < 0)))
    | _, _ => none
  | _ => none
def tab38 : Tab := (63, .ans ans63) :: tab37
def tree63 (x0 x1 x2 x3 : Int) : Tr Value :=
  .leaf (some (.bool (Decidable.decide (_fraction_wide_compare_0 x0 x1 x2 x3 < 0))))
theorem tree63_eq (x0 x1 x2 x3 : Int) : vals (evFnT Tryd.prog (tb Tryd.prog tab37) (tbT Tryd.prog tab37) ⟨[], [], []⟩ noLoops 300 63 #[.agg #[.int .u64 x0, .int .u64 x1], .agg #[.int .u64 x2, .int .u64 x3]] []) = tree63 x0 x1 x2 x3 := by kernel_rfl
theorem tree63_res (x0 x1 x2 x3 : Int) : (tree63 x0 x1 x2 x3).res = some (.bool (Decidable.decide (_fraction_wide_compare_0 x0 x1 x2 x3 < 0))) := by
  rfl
theorem tab38_ok : TabOk Tryd.prog tab38 := tab_cons mixed tab37_ok (by decide) fun args v h => by
  unfold ans63 at h
  split at h
  · rename_i c0 c1 h0
    split at h
    · rename_i x0 x1 x2 x3 h1 h2
      injection h with h; subst h
      obtain rfl : c0 = #[.int .u64 x0, .int .u64 x1] := by rw [← Array.toArray_toList (xs := c0), h1]
      obtain rfl : c1 = #[.int .u64 x2, .int .u64 x3] := by rw [← Array.toArray_toList (xs := c1), h2]
      obtain rfl : args = #[.agg #[.int .u64 x0, .int .u64 x1], .agg #[.int .u64 x2, .int .u64 x3]] := by rw [← Array.toArray_toList (xs := args), h0]
      exact ⟨rfl, rfl, ⟨[], [], []⟩, 300, by rw [tree63_eq]; exact tree63_res _ _ _ _⟩
    · cases h
  · cases h

def lessB (a b c d : Int) : Bool := Decidable.decide (_fraction_wide_compare_0 a b c d < 0)
def bigB (nh nl dh dl : Int) : Bool := bif !lessB nh nl 0 1000000000000000000 then true else !lessB dh dl 0 1000000000000000000
def bounded_0 (b : Bool) (nh nl dh dl : Int) : Int := if bigB nh nl dh dl then 0 else if b then IntKind.i64.wrap (0 - IntKind.i64.wrap nl) else IntKind.i64.wrap nl
def bounded_1 (nh nl dh dl : Int) : Int := if bigB nh nl dh dl then 0 else IntKind.i64.wrap dl
def bounded_2 (nh nl dh dl : Int) : Int := if bigB nh nl dh dl then 6 else 0
def ans41 : Ans := fun args => match args.toList with
  | [.bool b, .agg c0, .agg c1] => match c0.toList, c1.toList with
    | [.int .u64 nh, .int .u64 nl], [.int .u64 dh, .int .u64 dl] => some (.tuple #[.agg #[.int .i64 (bounded_0 b nh nl dh dl), .int .i64 (bounded_1 nh nl dh dl)], .int .i64 (bounded_2 nh nl dh dl)])
    | _, _ => none
  | _ => none
def tab39 : Tab := (41, .ans ans41) :: tab38
def o41 : Opts := ⟨[(20, 0), (29, 0), (2000002, 0)], [], []⟩
theorem tree41 (b : Bool) (nh nl dh dl : Int) : vals (evFnT Tryd.prog (tb Tryd.prog tab38) (tbT Tryd.prog tab38) o41 noLoops 300 41 #[.bool b, .agg #[.int .u64 nh, .int .u64 nl], .agg #[.int .u64 dh, .int .u64 dl]] []) =
    .node 20 (bigB nh nl dh dl) (.leaf (some (.tuple #[.agg #[.int .i64 0, .int .i64 0], .int .i64 6])))
      (.node 29 b (.leaf (some (.tuple #[.agg #[.int .i64 (IntKind.i64.wrap (0 - IntKind.i64.wrap nl)), .int .i64 (IntKind.i64.wrap dl)], .int .i64 0])))
        (.leaf (some (.tuple #[.agg #[.int .i64 (IntKind.i64.wrap nl), .int .i64 (IntKind.i64.wrap dl)], .int .i64 0])))) := by kernel_rfl
theorem tab39_ok : TabOk Tryd.prog tab39 := tab_cons mixed tab38_ok (by decide) fun args v h => by
  unfold ans41 at h
  split at h
  · rename_i b c0 c1 h0
    split at h
    · rename_i nh nl dh dl h1 h2
      injection h with h; subst h
      obtain rfl : c0 = #[.int .u64 nh, .int .u64 nl] := by rw [← Array.toArray_toList (xs := c0), h1]
      obtain rfl : c1 = #[.int .u64 dh, .int .u64 dl] := by rw [← Array.toArray_toList (xs := c1), h2]
      obtain rfl : args = #[.bool b, .agg #[.int .u64 nh, .int .u64 nl], .agg #[.int .u64 dh, .int .u64 dl]] := by rw [← Array.toArray_toList (xs := args), h0]
      refine ⟨rfl, rfl, o41, 300, ?_⟩
      rw [tree41]
      unfold bounded_0 bounded_1 bounded_2
      simp only [Tr.res]
      cases bigB nh nl dh dl <;> cases b <;> rfl
    · cases h
  · cases h
end Go.Proofs.YtfpcmckachpnpaaDoor.Vx
