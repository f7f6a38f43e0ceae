/- Proves the statement FractionPowers: Power returns the product of n factors, or the first error. -/
import Derived.Test.YtfpcmckachpnpaaDoorRows
import Derived.Test.YtfpcmckachpnpaaDoorM5
import Derived.ProofKit
import Derived.OpenShut
import Derived.ChangeOld
import Derived.Lib.SmallJoins
import Derived.LaidMore
import Derived.MakeChecks
import Derived.Stop.Joined
import Derived.Lib.LaidTab
import Derived.Lib.LaidU8
import Derived.Test.YtfpcmckachpnpaaDoorCards
import Derived.Test.YtfpcmckachpnpaaDoorTie
import Derived.SevenTiedAt
namespace Go.Proofs.YtfpcmckachpnpaaDoor.fractionPowers
open Go.ChangeShapes Go.WideShapes Go.ChangeAt Go.RowKit Go.Joins
open Go.WideMaps Go.WideElems
set_option linter.unusedVariables false

theorem own : ownKnob Tryd.prog.godebug = none := by kernel_rfl
theorem laidOut : laidOutB Tryd.prog = true := by kernel_rfl
theorem cells_frac : Tryd.prog.cellsOf 23 = 2 := by kernel_rfl

/-- The variables that the row lists. -/
noncomputable abbrev listed : List (String × DataW Unit) := [("math/bits.deBruijn32tab", Rows.laid_math_bits_deBruijn32tab), ("math/bits.deBruijn64tab", Rows.laid_math_bits_deBruijn64tab), ("internal/strconv.uint64pow10", Rows.laid_internal_strconv_uint64pow10), ("strconv.ErrRange", Rows.laid_strconv_ErrRange), ("strconv.ErrSyntax", Rows.laid_strconv_ErrSyntax)]
theorem gP : Tryd.prog.globalNamed "internal/strconv.uint64pow10" = some 5 := by kernel_rfl
theorem tP : (Tryd.prog.globals[5]?).map (·.type) = some 111 := by kernel_rfl
theorem uP : Tryd.prog.underlying 111 = some (.array 20 45) := by kernel_rfl
theorem eP : Tryd.prog.underlying 45 = some (.int .u64) := by kernel_rfl
theorem cP : Tryd.prog.cellsOf 45 = 1 := by kernel_rfl
theorem c5P : Tryd.prog.cellsOf 111 = 20 := by kernel_rfl
def pows : List Int := [1, 10, 100, 1000, 10000, 100000, 1000000, 10000000, 100000000, 1000000000, 10000000000, 100000000000, 1000000000000, 10000000000000, 100000000000000, 1000000000000000, 10000000000000000, 100000000000000000, 1000000000000000000, 10000000000000000000]
theorem globs_eq : Vx.globs = [(5, pows.map fun z => Value.int .u64 z)] := rfl
/-- What the row's condition gives the run: the table's cells. -/
theorem glob_of_laid {W : World} (h : laidMetH Tryd.prog listed W) : Vx.GlobOk W := by
  rw [MakeChecks.laidMetH_plain _ _ _ (by kernel_rfl)] at h
  obtain ⟨g, t, cs, fuel, p, hg, ht, hv, hd⟩ := Lib.laidMet.reads h (n := "internal/strconv.uint64pow10") (d := Rows.laid_internal_strconv_uint64pow10) (by simp [listed])
  obtain rfl := Option.some.inj (gP.symm.trans hg)
  obtain rfl := Option.some.inj (tP.symm.trans ht)
  have hcs : cs.toList = pows.map fun z => Value.int .u64 z := Lib.cells_of_tab uP eP cP c5P (show DataW.trod _ _ _ _ _ _ _ _ _ = some (Lib.tabData .u64 pows, p) from hd)
  have cell : ∀ j, W.cell? ⟨5, j, none⟩ = cs[j]? := fun j => World.var?_cell gP hv j
  intro k c hk
  rw [globs_eq] at hk
  simp only [List.mem_singleton, Prod.mk.injEq] at hk
  obtain ⟨rfl, rfl⟩ := hk
  have at' : ∀ j, cs[j]? = (pows.map fun z => Value.int .u64 z)[j]? := fun j => by rw [← hcs, Array.getElem?_toList]
  refine ⟨?_, fun j v hj => ⟨?_, ?_⟩⟩
  · have h0 := cell 0
    rw [at' 0] at h0
    have h0 : W.cell? ⟨5, 0, none⟩ = some (.int .u64 1) := h0
    rcases Nat.lt_or_ge 5 W.heap.size with h1 | h1
    · exact h1
    · exfalso
      simp only [World.cell?, Array.getElem?_eq_none h1] at h0
      cases h0
  · rw [List.getElem?_map] at hj
    cases hq : pows[j]? with
    | none => rw [hq] at hj; cases hj
    | some z => rw [hq] at hj; simp only [Option.map_some, Option.some.injEq] at hj; subst hj; rfl
  · rw [cell j, at' j]; exact hj
/-- The door's own heap meets the condition. -/
theorem door_met (os : Os) (args : Array Value) : laidMetH Tryd.prog listed ((World.doorLaid Tryd.prog 400 os).forCall (fun _ _ => 0) ⟨#[], args, []⟩).memory :=
  laidMetH_of_parts3 (fuel := 8) (laidMet_of_run' 8 (by kernel_rfl) (by kernel_rfl)) (by kernel_rfl) (by kernel_rfl)

set_option maxRecDepth 100000 in
theorem lifted (os : Os) (started : os.Started) (H : Type) (enc : TypeId × Value → H) :
    ReturnsInHanded {} Tryd.checked os 5 .any (fun w args => (Rows.fractionPowersSpec.pre enc Tryd.prog Tryd.f5 [] false w args ∧ laidMetH Tryd.prog listed w) ∧ sizedMet enc Tryd.prog Tryd.f5 (OpenSpec.ofChange Rows.fractionPowersSpec) false w args)
      (Rows.fractionPowersSpec.post enc Tryd.prog Tryd.f5 false true false false) := by
  refine returnsInHanded_of_change_and (C := Tryd.checked) (X := fun w _ => laidMetH Tryd.prog listed w) (fun _ _ _ hh h => h.of_heap hh) own started (by kernel_rfl) Tryd.func5
    (ChangeSpec.witness_shaped (enc := enc) (C := Tryd.checked) (os := os) (X := fun w _ => laidMetH Tryd.prog listed w) false (World.doorLaid Tryd.prog 400 os) #[.agg #[.int .i64 0, .int .i64 0], .int .i64 0] 8 rfl (World.shaped_of_RefB (by kernel_rfl) (by kernel_rfl)) (by kernel_rfl) (by kernel_rfl) (by kernel_rfl) (door_met os _)) ?_
  intro W base args ds gs before hval0 hW _ _ hL _
  have hval : ∀ (j : Nat) t v, Tryd.f5.params[j]? = some t → args[j]? = some v → Value.okWide Tryd.prog W .any base t v := hval0
  have hW' := hW
  obtain ⟨p, q, hA0, hV, rfl, hfz, hnd⟩ := hW
  have hA : DataW.TrodAll enc Tryd.prog W 0 (fun _ => true) true Tryd.f5.params.toList args.toList ds p := hA0
  rw [Tryd.params5] at hA hval
  obtain ⟨v0, vs0, d0, ds0, p0, q0, hargs, rfl, rfl, h0, r0⟩ := trodAll_cons hA
  obtain ⟨v1, vs1, d1, ds1, p1, q1, rfl, rfl, rfl, h1, r1⟩ := trodAll_cons r0
  obtain ⟨rfl, rfl, rfl⟩ := trodAll_nil r1
  obtain rfl : args = #[v0, v1] := by cases args; simp_all
  obtain ⟨rfl, rfl⟩ := trodVars_none hV
  have k0 := h0
  have lt0 : ∀ x ∈ p0, x.block < W.heap.size := by obtain ⟨m, hm⟩ := k0; exact DataW.trod_lt m _ _ _ hm
  obtain ⟨c0a, c0b, y0a, y0b, m0, e0, _, _, g0a, g0b⟩ := open_agg2 Tryd.underlying23 (by kernel_rfl) cells_frac (hval 0 23 v0 rfl rfl) h0
  obtain ⟨x0a, f0a, _, w0a⟩ := DataW.trod_int Tryd.underlying2 g0a
  obtain ⟨x0b, f0b, _, w0b⟩ := DataW.trod_int Tryd.underlying2 g0b
  simp at f0a f0b
  subst f0a f0b e0
  obtain ⟨x1, rfl, rfl, rfl, wn1⟩ := open_int Tryd.underlying3 (hval 1 3 v1 rfl rfl) h1
  clear hA0 hval0
  refine (Vx.fractionPowers_any x0a x0b x1 W (glob_of_laid hL)).mono fun e W' ⟨he, bel⟩ => ?_
  subst he
  exact ⟨_, rfl, _, _, _, [], _, [], hW', trodAll_mk1 (shut_bool Tryd.underlying4 _), (trodAll_cons_mk (Below.trod laidOut (by kernel_rfl) (of_decide_eq_true (by kernel_rfl)) k0 bel lt0) (trodAll_cons_mk (shut_int Tryd.underlying3 wn1) trodAll_mk0)), rfl, bel.frame _, fun h => by cases h⟩

theorem over : Rows.fractionPowersRow.holds Tryd.pinned (OpenSpec.ofChange Rows.fractionPowersSpec) :=
  OpenClaim.holds_of_wide 5 Tryd.f5 rfl rfl rfl rfl rfl rfl rfl ⟨rfl, rfl, rfl, rfl, rfl⟩ rfl rfl rfl rfl rfl (by kernel_rfl) Tryd.func5 (by kernel_rfl)
    (of_decide_eq_true (by kernel_rfl)) (by unfold Func.isWrapper; rw [if_neg (of_decide_eq_false (by kernel_rfl))]; exact ⟨rfl, rfl⟩)
    (fun os started H enc _ => lifted os started H enc)

/-- The tied card. -/
theorem card : Rows.FractionPowersCardSaid :=
  Claim7.holds_tied_plain_at .later [] [.data, .data, .data, .sentinel, .sentinel] true (true, "958ad749b030b0ef404a45a017a022b3194299cac0b12df21306e7b9902f5177") true
    over (fun _ h => by cases h) (by kernel_rfl) (fun _ h => by cases h) fractionPowers_row_tie rfl ⟨rfl, rfl⟩ (by kernel_rfl) rfl
    (fun f fn hf hfn => by
      obtain rfl : f = 5 := Option.some.inj ((show Tryd.prog.funcNamed "gangsaw/gangsawlaw04.FractionPowers" = some 5 by kernel_rfl).symm.trans hf) |>.symm
      obtain rfl : fn = Tryd.f5 := (Option.some.inj (Tryd.func5.symm.trans hfn)).symm
      exact ⟨by kernel_rfl, fun j t ht => by
        rw [Tryd.params5] at ht
        rcases j with _ | _ | j
        · obtain rfl : t = 23 := by simpa using ht.symm
          exact (show Tryd.prog.wantsStandIn 23 = false by kernel_rfl)
        · obtain rfl : t = 3 := by simpa using ht.symm
          exact (show Tryd.prog.wantsStandIn 3 = false by kernel_rfl)
        · simp at ht⟩)
    (by kernel_rfl)

end Go.Proofs.YtfpcmckachpnpaaDoor.fractionPowers
namespace Go.Proofs.YtfpcmckachpnpaaDoor
theorem fractionPowers_proved : Rows.FractionPowersCardSaid := fractionPowers.card
end Go.Proofs.YtfpcmckachpnpaaDoor
