/- The answers of the reference's long division. -/
import Derived.Test.YtfpcmckachpnpaaDoorD5
import Derived.IntWalk
namespace Go.Proofs.YtfpcmckachpnpaaDoor.Vx
open Go Go.RowKit Go.Proofs
set_option maxRecDepth 100000
set_option linter.unusedVariables false
set_option linter.unusedSimpArgs false
def gW (dh dl nh nl : Int) : Int := ((Nat.gcd (w128 dh dl).toNat (w128 nh nl).toNat : Nat) : Int)
def gW2 (dh dl nh nl : Int) : Int := w128 (gW dh dl nh nl / 18446744073709551616) (gW dh dl nh nl % 18446744073709551616)
def bigL (n d : Int) : Bool := bif (bif (bif decide (n / 18446744073709551616 > 0) then true else decide (n % 18446744073709551616 ≥ 1000000000000000000)) then true else decide (d / 18446744073709551616 > 0)) then true else decide (d % 18446744073709551616 ≥ 1000000000000000000)
def lowest_0 (n d : Int) (b : Bool) : Int := if bigL n d then 0 else if b then IntKind.i64.wrap (0 - IntKind.i64.wrap (n % 18446744073709551616)) else IntKind.i64.wrap (n % 18446744073709551616)
def lowest_1 (n d : Int) : Int := if bigL n d then 0 else IntKind.i64.wrap (d % 18446744073709551616)
def lowest_2 (n d : Int) : Int := if bigL n d then 6 else 0
def ans43 : Array Value → Option (Bool × Value) := fun args => match args.toList with
  | [.agg c0, .agg c1] => match c0.toList, c1.toList with
    | [.int .u64 nh, .int .u64 nl, .bool b], [.int .u64 dh, .int .u64 dl, .bool _] => some (inU nh && (inU nl && (inU dh && (inU dl && decide (w128 dh dl > 0)))), .tuple #[.agg #[.int .i64 (lowest_0 (w128 nh nl / gW dh dl nh nl) (w128 dh dl / gW dh dl nh nl) b), .int .i64 (lowest_1 (w128 nh nl / gW dh dl nh nl) (w128 dh dl / gW dh dl nh nl))], .int .i64 (lowest_2 (w128 nh nl / gW dh dl nh nl) (w128 dh dl / gW dh dl nh nl))])
    | _, _ => none
  | _ => none
def tab40 : Tab := (43, .cond ans43) :: tab39
def o43 : Opts := ⟨[(48, 0), (58, 0), (2000004, 0)], [], []⟩
theorem tree43 (nh nl : Int) (b : Bool) (dh dl : Int) (c : Bool) : vals (evFnT Tryd.prog (tb Tryd.prog tab39) (tbT Tryd.prog tab39) o43 noLoops 300 43 #[.agg #[.int .u64 nh, .int .u64 nl, .bool b], .agg #[.int .u64 dh, .int .u64 dl, .bool c]] []) =
    .node 0 (ok64 dh dl nh nl)
      (.node 0 (ok65 nh nl (gW dh dl nh nl / 18446744073709551616) (gW dh dl nh nl % 18446744073709551616))
        (.node 0 (ok65 dh dl (gW dh dl nh nl / 18446744073709551616) (gW dh dl nh nl % 18446744073709551616))
          (.node 48 (bigL (w128 nh nl / gW2 dh dl nh nl) (w128 dh dl / gW2 dh dl nh nl))
            (.leaf (some (.tuple #[.agg #[.int .i64 0, .int .i64 0], .int .i64 6])))
            (.node 58 b
              (.leaf (some (.tuple #[.agg #[.int .i64 (IntKind.i64.wrap (0 - IntKind.i64.wrap (w128 nh nl / gW2 dh dl nh nl % 18446744073709551616))), .int .i64 (IntKind.i64.wrap (w128 dh dl / gW2 dh dl nh nl % 18446744073709551616))], .int .i64 0])))
              (.leaf (some (.tuple #[.agg #[.int .i64 (IntKind.i64.wrap (w128 nh nl / gW2 dh dl nh nl % 18446744073709551616)), .int .i64 (IntKind.i64.wrap (w128 dh dl / gW2 dh dl nh nl % 18446744073709551616))], .int .i64 0])))))
          (.leaf none))
        (.leaf none))
      (.leaf none) := by kernel_rfl
theorem gW2_eq (dh dl nh nl : Int) : gW2 dh dl nh nl = gW dh dl nh nl := by unfold gW2 w128; omega
theorem tab40_ok : TabOk Tryd.prog tab40 := tab_cond mixed tab39_ok (by decide) fun args v u h hb => by
  unfold ans43 at h
  split at h
  · rename_i c0 c1 h0
    split at h
    · rename_i nh nl b dh dl c h1 h2
      injection h with h; injection h with h1' h2'; subst h1' h2'
      obtain rfl : c0 = #[.int .u64 nh, .int .u64 nl, .bool b] := by rw [← Array.toArray_toList (xs := c0), h1]
      obtain rfl : c1 = #[.int .u64 dh, .int .u64 dl, .bool c] := by rw [← Array.toArray_toList (xs := c1), h2]
      obtain rfl : args = #[.agg #[.int .u64 nh, .int .u64 nl, .bool b], .agg #[.int .u64 dh, .int .u64 dl, .bool c]] := by rw [← Array.toArray_toList (xs := args), h0]
      refine ⟨rfl, rfl, o43, 300, ?_⟩
      rw [tree43]
      simp only [Bool.and_eq_true] at hb
      obtain ⟨i1, i2, i3, i4, hD⟩ := hb
      have hD := of_decide_eq_true hD
      have k64 : ok64 dh dl nh nl = true := by unfold ok64; rw [i1, i2, i3, i4]; rfl
      have b4 : 0 ≤ dl ∧ dl < 18446744073709551616 := by simpa [inU] using i4
      have b3 : 0 ≤ dh ∧ dh < 18446744073709551616 := by simpa [inU] using i3
      have gpos : gW dh dl nh nl > 0 := by
        unfold gW
        exact Int.natCast_pos.2 (Nat.gcd_pos_of_pos_left _ (by omega))
      have gle : gW dh dl nh nl ≤ w128 dh dl := by
        unfold gW
        have := Nat.gcd_le_left (w128 nh nl).toNat (show 0 < (w128 dh dl).toNat by omega)
        omega
      have gmax : gW dh dl nh nl / 18446744073709551616 < 18446744073709551616 := by
        have : w128 dh dl < 340282366920938463463374607431768211456 := by unfold w128; omega
        omega
      have j1 : inU (gW dh dl nh nl / 18446744073709551616) = true := inU_of (by omega) gmax
      have j2 : inU (gW dh dl nh nl % 18446744073709551616) = true := inU_of (by omega) (by omega)
      have e := gW2_eq dh dl nh nl
      have k1 : ok65 nh nl (gW dh dl nh nl / 18446744073709551616) (gW dh dl nh nl % 18446744073709551616) = true := by
        unfold ok65
        unfold gW2 at e
        rw [i1, i2, j1, j2, e, decide_eq_true gpos]; rfl
      have k2 : ok65 dh dl (gW dh dl nh nl / 18446744073709551616) (gW dh dl nh nl % 18446744073709551616) = true := by
        unfold ok65
        unfold gW2 at e
        rw [i3, i4, j1, j2, e, decide_eq_true gpos]; rfl
      rw [k64, k1, k2, e]
      unfold lowest_0 lowest_1 lowest_2
      simp only [Tr.res, if_true]
      cases bigL (w128 nh nl / gW dh dl nh nl) (w128 dh dl / gW dh dl nh nl) <;> cases b <;> rfl
    · cases h
  · cases h
end Go.Proofs.YtfpcmckachpnpaaDoor.Vx
