/- Proves the statement PolygonOrients: for all inputs, without conditions. -/
import Derived.Test.YtklkkehhmmipeaaRows
import Derived.Test.YtklkkehhmmipeaaL1
import Derived.ProofKit
import Derived.OpenShut
import Derived.ChangeOld
import Derived.Lib.SmallJoins
namespace Go.Proofs.Ytklkkehhmmipeaa.polygonOrients
open Go.ChangeShapes Go.WideShapes Go.ChangeAt Go.RowKit Go.Joins
set_option linter.unusedVariables false

theorem own : ownKnob Try.prog.godebug = none := by kernel_rfl
theorem laidOut : laidOutB Try.prog = true := by kernel_rfl
theorem cells_pt : Try.prog.cellsOf 31 = 2 := by kernel_rfl

set_option maxRecDepth 100000 in
theorem lifted (os : Os) (started : os.Started) (H : Type) (enc : TypeId × Value → H) :
    ReturnsInHanded {} Try.checked os 4 .any (Rows.polygonOrientsSpec.pre6 enc Try.prog Try.f4 Rows.polygonOrientsRow.domain false) (Rows.polygonOrientsSpec.post enc Try.prog Try.f4 false true false false) := by
  refine returnsInHanded_of_change (C := Try.checked) own started (by kernel_rfl) Try.func4
    (ChangeSpec.witness6 (enc := enc) (C := Try.checked) false ⟨#[], #[.agg #[.int .i64 0, .int .i64 0], .agg #[.int .i64 0, .int .i64 0], .agg #[.int .i64 0, .int .i64 0]], []⟩ 8 (by kernel_rfl) (by kernel_rfl) (by kernel_rfl) (by kernel_rfl)) ?_
  intro W base args ds gs before hval0 hW hcnd _
  have hval : ∀ (j : Nat) t v, Try.f4.params[j]? = some t → args[j]? = some v → Value.okWide Try.prog W .any base t v := hval0
  have hW' := hW
  obtain ⟨p, q, hA0, hV, rfl, hfz, hnd⟩ := hW
  have hA : DataW.TrodAll enc Try.prog W 0 (fun _ => true) true Try.f4.params.toList args.toList ds p := hA0
  rw [Try.params4] at hA hval
  obtain ⟨v0, vs0, d0, ds0, p0, q0, hargs, rfl, rfl, h0, r0⟩ := trodAll_cons hA
  obtain ⟨v1, vs1, d1, ds1, p1, q1, rfl, rfl, rfl, h1, r1⟩ := trodAll_cons r0
  obtain ⟨v2, vs2, d2, ds2, p2, q2, rfl, rfl, rfl, h2, r2⟩ := trodAll_cons r1
  obtain ⟨rfl, rfl, rfl⟩ := trodAll_nil r2
  obtain rfl : args = #[v0, v1, v2] := by cases args; simp_all
  obtain ⟨rfl, rfl⟩ := trodVars_none hV
  have k0 := h0
  have lt0 : ∀ x ∈ p0, x.block < W.heap.size := by obtain ⟨m, hm⟩ := k0; exact DataW.trod_lt m _ _ _ hm
  obtain ⟨c0a, c0b, y0a, y0b, m0, e0, _, _, g0a, g0b⟩ := open_agg2 Try.underlying31 (by kernel_rfl) cells_pt (hval 0 31 v0 rfl rfl) h0
  obtain ⟨x0a, f0a, _, w0a⟩ := DataW.trod_int Try.underlying3 g0a
  obtain ⟨x0b, f0b, _, w0b⟩ := DataW.trod_int Try.underlying3 g0b
  simp at f0a f0b
  subst f0a f0b e0
  have k1 := h1
  have lt1 : ∀ x ∈ p1, x.block < W.heap.size := by obtain ⟨m, hm⟩ := k1; exact DataW.trod_lt m _ _ _ hm
  obtain ⟨c1a, c1b, y1a, y1b, m1, e1, _, _, g1a, g1b⟩ := open_agg2 Try.underlying31 (by kernel_rfl) cells_pt (hval 1 31 v1 rfl rfl) h1
  obtain ⟨x1a, f1a, _, w1a⟩ := DataW.trod_int Try.underlying3 g1a
  obtain ⟨x1b, f1b, _, w1b⟩ := DataW.trod_int Try.underlying3 g1b
  simp at f1a f1b
  subst f1a f1b e1
  have k2 := h2
  have lt2 : ∀ x ∈ p2, x.block < W.heap.size := by obtain ⟨m, hm⟩ := k2; exact DataW.trod_lt m _ _ _ hm
  obtain ⟨c2a, c2b, y2a, y2b, m2, e2, _, _, g2a, g2b⟩ := open_agg2 Try.underlying31 (by kernel_rfl) cells_pt (hval 2 31 v2 rfl rfl) h2
  obtain ⟨x2a, f2a, _, w2a⟩ := DataW.trod_int Try.underlying3 g2a
  obtain ⟨x2b, f2b, _, w2b⟩ := DataW.trod_int Try.underlying3 g2b
  simp at f2a f2b
  subst f2a f2b e2
  clear hA0 hval0
  refine (polygonOrients_any x0a x0b x1a x1b x2a x2b W).mono fun e W' ⟨he, bel⟩ => ?_
  subst he
  exact ⟨_, rfl, _, _, _, [], _, [], hW', trodAll_mk1 (shut_bool Try.underlying4 _), (trodAll_cons_mk (Below.trod laidOut (by kernel_rfl) (of_decide_eq_true (by kernel_rfl)) k0 bel lt0) (trodAll_cons_mk (Below.trod laidOut (by kernel_rfl) (of_decide_eq_true (by kernel_rfl)) k1 bel lt1) (trodAll_cons_mk (Below.trod laidOut (by kernel_rfl) (of_decide_eq_true (by kernel_rfl)) k2 bel lt2) trodAll_mk0))), rfl, bel.frame _, fun h => by cases h⟩

theorem over : Rows.polygonOrientsRow.holds Try.pinned (OpenSpec.ofChange Rows.polygonOrientsSpec) :=
  OpenClaim.holds_of_wide 4 Try.f4 rfl rfl rfl rfl rfl rfl rfl ⟨rfl, rfl, rfl, rfl, rfl⟩ rfl rfl rfl rfl rfl (by kernel_rfl) Try.func4 (by kernel_rfl)
    (of_decide_eq_true (by kernel_rfl)) (by unfold Func.isWrapper; rw [if_neg (of_decide_eq_false (by kernel_rfl))]; exact ⟨rfl, rfl⟩)
    (fun os started H enc _ => lifted os started H enc)

end Go.Proofs.Ytklkkehhmmipeaa.polygonOrients
namespace Go.Proofs.Ytklkkehhmmipeaa
theorem polygonOrients_proved : Rows.PolygonOrientsSaid := polygonOrients.over
end Go.Proofs.Ytklkkehhmmipeaa
