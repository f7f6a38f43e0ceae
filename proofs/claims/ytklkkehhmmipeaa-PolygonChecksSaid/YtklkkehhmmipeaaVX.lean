/- Variables of the call's own that lie in memory: what their blocks hold, and that it stays. -/
import Derived.Below
import Derived.Laws.OwnMore
import Derived.Deep.AppendLies
import Derived.Deep.Draws
import Derived.OwnWalk
import Derived.WalkKit
import Derived.Deep.QuietTactic
namespace Go.Proofs.Ytklkkehhmmipeaa
open Go.RowKit

/-- Block g is a variable that holds these cells. -/
structure Blk (w : World) (g : Nat) (cs : List Value) (t : TypeId) : Prop where
  at_ : w.heap[g]? = some (.cells cs.toArray t (0, 0))
section
variable {w w' : World} {g B : Nat} {cs : List Value} {t : TypeId}
theorem Blk.lt (h : Blk w g cs t) : g < w.heap.size := by
  rcases Nat.lt_or_ge g w.heap.size with hlt | hge
  · exact hlt
  · have h := h.at_; rw [Array.getElem?_eq_none hge] at h; cases h
theorem Blk.cell (h : Blk w g cs t) (k : Nat) {v : Value} (hv : cs[k]? = some v) : w.cell? ⟨g, k, none⟩ = some v := by
  obtain ⟨hk, hv⟩ := List.getElem?_eq_some_iff.1 hv
  have h := h.at_
  simp [World.cell?, h, hk, hv]
theorem Blk.free (h : Blk w g cs t) (k : Nat) : w.frozen? ⟨g, k, none⟩ = false := by have h := h.at_; simp [World.frozen?, h]
theorem Blk.two {u v : Value} (h : Blk w g [u, v] t) : w.cell? ⟨g, 0, none⟩ = some u ∧ w.cell? ⟨g, 1, none⟩ = some v ∧ w.frozen? ⟨g, 0, none⟩ = false ∧ w.frozen? ⟨g, 1, none⟩ = false :=
  ⟨h.cell 0 rfl, h.cell 1 rfl, h.free 0, h.free 1⟩
theorem Blk.three {u v x : Value} (h : Blk w g [u, v, x] t) : w.cell? ⟨g, 0, none⟩ = some u ∧ w.cell? ⟨g, 1, none⟩ = some v ∧ w.cell? ⟨g, 2, none⟩ = some x ∧ w.frozen? ⟨g, 0, none⟩ = false ∧ w.frozen? ⟨g, 1, none⟩ = false ∧ w.frozen? ⟨g, 2, none⟩ = false :=
  ⟨h.cell 0 rfl, h.cell 1 rfl, h.cell 2 rfl, h.free 0, h.free 1, h.free 2⟩
theorem Blk.new (w : World) (cs : List Value) (t : TypeId) (hg : w.heap.size = g) : Blk (w.alloc (.cells cs.toArray t)) g cs t := ⟨hg ▸ heap_alloc_new w _⟩
theorem Blk.alloc (h : Blk w g cs t) (o : Obj) : Blk (w.alloc o) g cs t := ⟨(Below.heap_alloc w o g h.lt).trans h.at_⟩
theorem Blk.kept (h : Blk w g cs t) (hb : Below w.heap.size w w') : Blk w' g cs t := ⟨(hb.block g h.lt).trans h.at_⟩
theorem Blk.go {p : Prop} (hb : Below w.heap.size w w') (h : Blk w g cs t) (k : Blk w' g cs t → p) : p := k (h.kept hb)
theorem Blk.below (h : Blk w g cs t) (hb : Below B w w') (hg : g < B) : Blk w' g cs t := ⟨(hb.block g hg).trans h.at_⟩
theorem Blk.drew (h : Blk w g cs t) : Blk w.drew g cs t := ⟨h.at_⟩
theorem Blk.drewN (h : Blk w g cs t) (n : Nat) : Blk (w.drewN n) g cs t := ⟨h.at_⟩
theorem Blk.drew_iff : Blk w.drew g cs t ↔ Blk w g cs t := ⟨fun h => ⟨h.at_⟩, fun h => ⟨h.at_⟩⟩
theorem Blk.drewN_iff {n : Nat} : Blk (w.drewN n) g cs t ↔ Blk w g cs t := ⟨fun h => ⟨h.at_⟩, fun h => ⟨h.at_⟩⟩
theorem Below.drewN_iff {a : World} {n : Nat} : Below B a (w.drewN n) ↔ Below B a w := ⟨fun h => ⟨h.os, h.tape, h.output, h.size, h.block⟩, fun h => ⟨h.os, h.tape, h.output, h.size, h.block⟩⟩
theorem Below.drew_iff {a : World} : Below B a w.drew ↔ Below B a w := ⟨fun h => ⟨h.os, h.tape, h.output, h.size, h.block⟩, fun h => h.drew⟩
theorem Blk.far (h : Blk w g cs t) {p : Addr} (hp : g ≠ p.block) (u : Value) : Blk (w.setCell p u) g cs t := ⟨(Below.heap_setCell w p u g hp).trans h.at_⟩
theorem Blk.set2 {u v : Value} (h : Blk w g [u, v] t) (u' v' : Value) : Blk ((w.setCell ⟨g, 0, none⟩ u').setCell ⟨g, 1, none⟩ v') g [u', v'] t := by
  have h := h.at_
  constructor
  simp [World.setCell, Array.getElem?_modify, h]
theorem Blk.set3 {u v x : Value} (h : Blk w g [u, v, x] t) (u' v' x' : Value) : Blk (((w.setCell ⟨g, 0, none⟩ u').setCell ⟨g, 1, none⟩ v').setCell ⟨g, 2, none⟩ x') g [u', v', x'] t := by
  have h := h.at_
  constructor
  simp [World.setCell, Array.getElem?_modify, h]
theorem below_new (h : B ≤ w.heap.size) (o : Obj) : Below B w (w.alloc o) := (Below.refl _ _).alloc h _
theorem below_step {w W w1 : World} (h : Below w.heap.size w W) (hb : Below W.heap.size W w1) : Below w.heap.size w w1 := h.trans (hb.mono h.size)
theorem below_drewN {B : Nat} {a w : World} (h : Below B a w) (n : Nat) : Below B a (w.drewN n) := ⟨h.os, h.tape, h.output, h.size, h.block⟩
theorem quiet_left {P : Program} {f : FuncId} {args : Array Value} {w : World} {n : Nat} {v : Value}
    (h : Calls P f args (w.drewN n) fun e w' => e = .returned v ∧ w.drewN n = w') : Calls P f args (w.drewN n) fun e w'' => e = .returned v ∧ ∃ m, w'' = w.drewN m :=
  h.mono fun _ _ ⟨he, hm⟩ => ⟨he, n, hm.symm⟩
end
end Go.Proofs.Ytklkkehhmmipeaa
