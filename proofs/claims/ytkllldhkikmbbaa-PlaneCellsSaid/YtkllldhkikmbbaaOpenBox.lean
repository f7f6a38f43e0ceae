/- A struct of two structs of three one-cell fields (a box), by value, opened. -/
import Derived.Test.YtkllldhkikmbbaaRows
import Derived.ProofKit
import Derived.Lib.SmallJoins
namespace Go.Proofs.Ytkllldhkikmbbaa
open Go Go.ChangeShapes Go.WideShapes Go.ChangeAt Go.RowKit Go.Joins Go.Deep Go.WideElems

theorem array6 {α : Type} {cs : Array α} (h : cs.size = 6) : ∃ c0 c1 c2 c3 c4 c5, cs = #[c0, c1, c2, c3, c4, c5] := by
  obtain ⟨l⟩ := cs
  match l, h with
  | [c0, c1, c2, c3, c4, c5], _ => exact ⟨c0, c1, c2, c3, c4, c5, rfl⟩

theorem open_two {H : Type} {enc : TypeId × Value → H} {P : Program} {w : World} {base : Nat} {spare : Nat → Bool} {held : Bool} {r : Reach} {b0 : Nat} {t : TypeId} {f0 f1 g0 g1 g2 : Field} {v : Value} {d : DataW H} {p : List MemPlace}
    (hs : P.underlying t = some (.struct #[f0, f1])) (o0 : f0.offset = 0) (o1 : f1.offset = 3) (hC : P.cellsOf t = 6)
    (k0 : P.cellsOf f0.type = 3) (k1 : P.cellsOf f1.type = 3) (s0 : P.underlying f0.type = some (.struct #[g0, g1, g2])) (s1 : P.underlying f1.type = some (.struct #[g0, g1, g2])) (hone : oneCellFields P #[g0, g1, g2] = true)
    (hv : Value.okWide P w r b0 t v) (h : DataW.Trod enc P w base spare held t v d p) :
    ∃ (v0 v1 v2 v3 v4 v5 : Value) (y0 y1 y2 y3 y4 y5 : DataW H × List MemPlace) (n m : Nat), v = .agg #[v0, v1, v2, v3, v4, v5] ∧
      DataW.trod enc P w base spare held n g0.type [v0] = some y0 ∧ DataW.trod enc P w base spare held n g1.type [v1] = some y1 ∧ DataW.trod enc P w base spare held n g2.type [v2] = some y2 ∧
      DataW.trod enc P w base spare held m g0.type [v3] = some y3 ∧ DataW.trod enc P w base spare held m g1.type [v4] = some y4 ∧ DataW.trod enc P w base spare held m g2.type [v5] = some y5 := by
  obtain ⟨cs, rfl, hsz⟩ := okWide_struct hs hv
  obtain ⟨c0, c1, c2, c3, c4, c5, rfl⟩ := array6 (hsz.trans hC)
  obtain ⟨fuel, hf⟩ := h
  obtain ⟨z0, z1, n, hx, _, h0, h1⟩ := trod_struct2 hs hf
  rw [o0, k0] at h0
  rw [o1, k1] at h1
  obtain ⟨y0, y1, y2, n', _, _, a0, a1, a2⟩ := trod_struct3 s0 h0
  obtain ⟨y3, y4, y5, m', _, _, a3, a4, a5⟩ := trod_struct3 s1 h1
  obtain ⟨p0, q0⟩ := hone_of hone 0 g0 rfl
  obtain ⟨p1, q1⟩ := hone_of hone 1 g1 rfl
  obtain ⟨p2, q2⟩ := hone_of hone 2 g2 rfl
  exact ⟨c0, c1, c2, c3, c4, c5, y0, y1, y2, y3, y4, y5, n', m', rfl, by simpa [Value.cells, p0, q0] using a0, by simpa [Value.cells, p1, q1] using a1, by simpa [Value.cells, p2, q2] using a2,
    by simpa [Value.cells, p0, q0] using a3, by simpa [Value.cells, p1, q1] using a4, by simpa [Value.cells, p2, q2] using a5⟩
end Go.Proofs.Ytkllldhkikmbbaa
