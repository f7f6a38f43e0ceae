/- Proves the statement PlaneCells: cells and the hull of a half-space and a box. -/
import Derived.Test.YtkllldhkikmbbaaRows
import Derived.Test.YtkllldhkikmbbaaM10
import Derived.ProofKit
import Derived.OpenShut
import Derived.ChangeOld
import Derived.Lib.SmallJoins
import Derived.Test.YtkllldhkikmbbaaOpenBox
namespace Go.Proofs.Ytkllldhkikmbbaa.planeCells
open Go.ChangeShapes Go.WideShapes Go.ChangeAt Go.RowKit Go.Joins
set_option linter.unusedVariables false

theorem own : ownKnob Try.prog.godebug = none := by kernel_rfl
theorem laidOut : laidOutB Try.prog = true := by kernel_rfl
theorem cells_box : Try.prog.cellsOf 35 = 6 := by kernel_rfl
theorem cells_vec : Try.prog.cellsOf 25 = 3 := by kernel_rfl
theorem cells_half : Try.prog.cellsOf 23 = 4 := by kernel_rfl

set_option maxRecDepth 100000 in
theorem lifted (os : Os) (started : os.Started) (H : Type) (enc : TypeId × Value → H) :
    ReturnsInHanded {} Try.checked os 10 .any (Rows.planeCellsSpec.pre6 enc Try.prog Try.f10 Rows.planeCellsRow.domain false) (Rows.planeCellsSpec.post enc Try.prog Try.f10 false true false false) := by
  refine returnsInHanded_of_change (C := Try.checked) own started (by kernel_rfl) Try.func10
    (ChangeSpec.witness6 (enc := enc) (C := Try.checked) false ⟨#[], #[.agg #[.int .i64 0, .int .i64 0, .int .i64 0, .int .i64 0], .agg #[.int .i64 0, .int .i64 0, .int .i64 0, .int .i64 0, .int .i64 0, .int .i64 0], .agg #[.int .i64 0, .int .i64 0, .int .i64 0]], []⟩ 8 (by kernel_rfl) (by kernel_rfl) (by kernel_rfl) (by kernel_rfl)) ?_
  intro W base args ds gs before hval0 hW hcnd _
  have hval : ∀ (j : Nat) t v, Try.f10.params[j]? = some t → args[j]? = some v → Value.okWide Try.prog W .any base t v := hval0
  have hW' := hW
  obtain ⟨p, q, hA0, hV, rfl, hfz, hnd⟩ := hW
  have hA : DataW.TrodAll enc Try.prog W 0 (fun _ => true) true Try.f10.params.toList args.toList ds p := hA0
  rw [Try.params10] at hA hval
  obtain ⟨v0, vs0, d0, ds0, p0, q0, hargs, rfl, rfl, h0, r0⟩ := trodAll_cons hA
  obtain ⟨v1, vs1, d1, ds1, p1, q1, rfl, rfl, rfl, h1, r1⟩ := trodAll_cons r0
  obtain ⟨v2, vs2, d2, ds2, p2, q2, rfl, rfl, rfl, h2, r2⟩ := trodAll_cons r1
  obtain ⟨rfl, rfl, rfl⟩ := trodAll_nil r2
  obtain rfl : args = #[v0, v1, v2] := by cases args; simp_all
  obtain ⟨rfl, rfl⟩ := trodVars_none hV
  have k0 := h0
  have lt0 : ∀ x ∈ p0, x.block < W.heap.size := by obtain ⟨m, hm⟩ := k0; exact DataW.trod_lt m _ _ _ hm
  obtain ⟨c0a, c0b, c0c, c0d, y0a, y0b, y0c, y0d, m0, e0, _, _, g0a, g0b, g0c, g0d⟩ := open_agg4 Try.underlying23 (by kernel_rfl) cells_half (hval 0 23 v0 rfl rfl) h0
  obtain ⟨x0a, f0a, _, w0a⟩ := DataW.trod_int Try.underlying3 g0a
  obtain ⟨x0b, f0b, _, w0b⟩ := DataW.trod_int Try.underlying3 g0b
  obtain ⟨x0c, f0c, _, w0c⟩ := DataW.trod_int Try.underlying3 g0c
  obtain ⟨x0d, f0d, _, w0d⟩ := DataW.trod_int Try.underlying2 g0d
  simp at f0a f0b f0c f0d
  subst f0a f0b f0c f0d e0
  have k1 := h1
  have lt1 : ∀ x ∈ p1, x.block < W.heap.size := by obtain ⟨m, hm⟩ := k1; exact DataW.trod_lt m _ _ _ hm
  obtain ⟨c1a, c1b, c1c, c1d, c1e, c1f, y1a, y1b, y1c, y1d, y1e, y1f, m1, n1, e1, g1a, g1b, g1c, g1d, g1e, g1f⟩ := open_two Try.underlying35 rfl rfl cells_box cells_vec cells_vec Try.underlying25 Try.underlying25 (by kernel_rfl) (hval 1 35 v1 rfl rfl) h1
  obtain ⟨x1a, f1a, _, w1a⟩ := DataW.trod_int Try.underlying3 g1a
  obtain ⟨x1b, f1b, _, w1b⟩ := DataW.trod_int Try.underlying3 g1b
  obtain ⟨x1c, f1c, _, w1c⟩ := DataW.trod_int Try.underlying3 g1c
  obtain ⟨x1d, f1d, _, w1d⟩ := DataW.trod_int Try.underlying3 g1d
  obtain ⟨x1e, f1e, _, w1e⟩ := DataW.trod_int Try.underlying3 g1e
  obtain ⟨x1f, f1f, _, w1f⟩ := DataW.trod_int Try.underlying3 g1f
  simp at f1a f1b f1c f1d f1e f1f
  subst f1a f1b f1c f1d f1e f1f e1
  have k2 := h2
  have lt2 : ∀ x ∈ p2, x.block < W.heap.size := by obtain ⟨m, hm⟩ := k2; exact DataW.trod_lt m _ _ _ hm
  obtain ⟨c2a, c2b, c2c, y2a, y2b, y2c, m2, e2, _, _, g2a, g2b, g2c⟩ := open_agg3 Try.underlying25 (by kernel_rfl) cells_vec (hval 2 25 v2 rfl rfl) h2
  obtain ⟨x2a, f2a, _, w2a⟩ := DataW.trod_int Try.underlying3 g2a
  obtain ⟨x2b, f2b, _, w2b⟩ := DataW.trod_int Try.underlying3 g2b
  obtain ⟨x2c, f2c, _, w2c⟩ := DataW.trod_int Try.underlying3 g2c
  simp at f2a f2b f2c
  subst f2a f2b f2c e2
  clear hA0 hval0
  refine (Vx.planeCells_any x0a x0b x0c x0d x1a x1b x1c x1d x1e x1f x2a x2b x2c W).mono fun e W' ⟨he, bel⟩ => ?_
  subst he
  exact ⟨_, rfl, _, _, _, [], _, [], hW', trodAll_mk1 (shut_bool Try.underlying4 _), (trodAll_cons_mk (Below.trod laidOut (by kernel_rfl) (of_decide_eq_true (by kernel_rfl)) k0 bel lt0) (trodAll_cons_mk (Below.trod laidOut (by kernel_rfl) (of_decide_eq_true (by kernel_rfl)) k1 bel lt1) (trodAll_cons_mk (Below.trod laidOut (by kernel_rfl) (of_decide_eq_true (by kernel_rfl)) k2 bel lt2) trodAll_mk0))), rfl, bel.frame _, fun h => by cases h⟩

theorem over : Rows.planeCellsRow.holds Try.pinned (OpenSpec.ofChange Rows.planeCellsSpec) :=
  OpenClaim.holds_of_wide 10 Try.f10 rfl rfl rfl rfl rfl rfl rfl ⟨rfl, rfl, rfl, rfl, rfl⟩ rfl rfl rfl rfl rfl (by kernel_rfl) Try.func10 (by kernel_rfl)
    (of_decide_eq_true (by kernel_rfl)) (by unfold Func.isWrapper; rw [if_neg (of_decide_eq_false (by kernel_rfl))]; exact ⟨rfl, rfl⟩)
    (fun os started H enc _ => lifted os started H enc)

end Go.Proofs.Ytkllldhkikmbbaa.planeCells
namespace Go.Proofs.Ytkllldhkikmbbaa
theorem planeCells_proved : Rows.PlaneCellsSaid := planeCells.over
end Go.Proofs.Ytkllldhkikmbbaa
