/- Package polygon: a half of the hull. -/
import Derived.Test.YtklkkehhmmipeaaPW
namespace Go.Proofs.Ytklkkehhmmipeaa
open Go.RowKit
attribute [local go_sem ↓] Go.wp_at_zero Go.wp_at_succ

/-- Corners that are no corners behind p are struck. -/
def popF : Nat → Nat → List P2 → P2 → List P2
  | 0, _, h, _ => h
  | f + 1, fr, h, p => if fr + 2 ≤ h.length ∧ orV (cor h (h.length - 2)) (cor h (h.length - 1)) p ≠ 1 then popF f fr h.dropLast p else h
def pushM (fr : Nat) (h : List P2) (p : P2) : List P2 := popF h.length fr h p ++ [p]
def halfL (fr : Nat) (h ps : List P2) : List P2 := ps.foldl (pushM fr) h
theorem popF_stop {fr : Nat} {h : List P2} {p : P2} (hs : ¬ (fr + 2 ≤ h.length ∧ orV (cor h (h.length - 2)) (cor h (h.length - 1)) p ≠ 1)) : ∀ f, popF f fr h p = h
  | 0 => rfl
  | f + 1 => by unfold popF; rw [if_neg hs]
theorem popF_go {fr : Nat} {h : List P2} {p : P2} (hs : fr + 2 ≤ h.length ∧ orV (cor h (h.length - 2)) (cor h (h.length - 1)) p ≠ 1) : popF h.length fr h p = popF h.dropLast.length fr h.dropLast p := by
  rw [List.length_dropLast]
  cases e : h.length with
  | zero => omega
  | succ f =>
    conv => lhs; unfold popF
    rw [if_pos hs]; rfl
theorem popF_len : ∀ (f fr : Nat) (h : List P2) (p : P2), fr ≤ h.length → fr ≤ (popF f fr h p).length ∧ (popF f fr h p).length ≤ h.length
  | 0, fr, h, p, hl => ⟨hl, Nat.le_refl _⟩
  | f + 1, fr, h, p, hl => by
    unfold popF
    split
    · have := popF_len f fr h.dropLast p (by simp; omega)
      simp at this
      omega
    · exact ⟨hl, Nat.le_refl _⟩
theorem halfL_next {fr k : Nat} {h ps : List P2} {x y : Int} (hx : ps[k]? = some (x, y)) : halfL fr h (ps.take (k + 1)) = pushM fr (halfL fr h (ps.take k)) (x, y) := by
  unfold halfL
  rw [List.take_succ_eq_append_getElem (List.getElem?_eq_some_iff.1 hx).1, (List.getElem?_eq_some_iff.1 hx).2, List.foldl_append]
  rfl

/-- Nothing below B has turned but block g. -/
structure Kp (B g : Nat) (w w' : World) : Prop where
  os : w'.os = w.os
  tape : w'.tape = w.tape
  output : w'.output = w.output
  size : w.heap.size ≤ w'.heap.size
  block : ∀ k, k < B → k ≠ g → w'.heap[k]? = w.heap[k]?
section
variable {g B : Nat} {w w' w'' : World}
theorem Kp.refl (B g : Nat) (w : World) : Kp B g w w := ⟨rfl, rfl, rfl, Nat.le_refl _, fun _ _ _ => rfl⟩
theorem Kp.trans (h : Kp B g w w') (k : Kp B g w' w'') : Kp B g w w'' := ⟨k.os.trans h.os, k.tape.trans h.tape, k.output.trans h.output, Nat.le_trans h.size k.size, fun i hi hg => (k.block i hi hg).trans (h.block i hi hg)⟩
theorem Kp.step (h : Kp B g w w') (k : Below w'.heap.size w' w'') (hB : B ≤ w'.heap.size) : Kp B g w w'' := h.trans ⟨k.os, k.tape, k.output, k.size, fun i hi _ => k.block i (by omega)⟩
theorem Kp.drew_iff : Kp B g w w'.drew ↔ Kp B g w w' := ⟨fun h => ⟨h.os, h.tape, h.output, h.size, h.block⟩, fun h => ⟨h.os, h.tape, h.output, h.size, h.block⟩⟩
theorem Kp.drewN_iff {n : Nat} : Kp B g w (w'.drewN n) ↔ Kp B g w w' := ⟨fun h => ⟨h.os, h.tape, h.output, h.size, h.block⟩, fun h => ⟨h.os, h.tape, h.output, h.size, h.block⟩⟩
theorem Kp.setCell (h : Kp B g w w') (o : Nat) (u : Value) : Kp B g w (w'.setCell ⟨g, o, none⟩ u) :=
  ⟨h.os, h.tape, h.output, by simpa using h.size, fun k hk hg => (Below.heap_setCell w' ⟨g, o, none⟩ u k hg).trans (h.block k hk hg)⟩
theorem Kp.grown {row : Option Nat} (h : Kp B g w w') (k : w'.grownBy w'' row) (hr : ∀ q, row = some q → B ≤ q) (hB : B ≤ w'.heap.size) : Kp B g w w'' :=
  h.trans ⟨k.os, k.tape, k.output, k.size, fun i hi _ => k.block i (by omega) (fun e => by have := hr i e.symm; omega)⟩
theorem Kp.blk {k : Nat} {cs : List Value} {t : TypeId} (h : Kp B g w w') (b : Blk w k cs t) (hk : k < B) (hg : k ≠ g) : Blk w' k cs t := ⟨(h.block k hk hg).trans b.at_⟩
theorem Kp.row {C n : Nat} {A : Option Addr} {xs : List P2} (h : Kp B g w w') (r : Row w C A n xs) (hC : C ≤ B) (hg : ∀ b off, A = some ⟨b, off, none⟩ → b ≠ g) : Row w' C A n xs := ⟨r.1, fun hn => by
  obtain ⟨b, off, e, hb, hc⟩ := r.2 hn
  refine ⟨b, off, e, hb, fun k x hx => ?_⟩
  have hq := h.block b (by omega) (hg b off e)
  exact ⟨(World.cell?_of_block (a := ⟨b, _, none⟩) hq).trans (hc k x hx).1, (World.cell?_of_block (a := ⟨b, _, none⟩) hq).trans (hc k x hx).2⟩⟩
theorem Blk.grown {k : Nat} {cs : List Value} {t : TypeId} {row : Option Nat} (b : Blk w k cs t) (h : w.grownBy w' row) (hr : row ≠ some k) : Blk w' k cs t := ⟨(h.block k b.lt (fun e => hr e.symm)).trans b.at_⟩
theorem Blk.one {u : Value} {k : Nat} {t : TypeId} (h : Blk w k [u] t) : w.cell? ⟨k, 0, none⟩ = some u ∧ w.frozen? ⟨k, 0, none⟩ = false := ⟨h.cell 0 rfl, h.free 0⟩
theorem Blk.set1 {u : Value} {k : Nat} {t : TypeId} (h : Blk w k [u] t) (u' : Value) : Blk (w.setCell ⟨k, 0, none⟩ u') k [u'] t := by
  have h := h.at_
  constructor
  simp [World.setCell, Array.getElem?_modify, h]
theorem flat_take (xs : List P2) (k : Nat) : flat (xs.take k) = (flat xs).take (k * 2) := by
  induction xs generalizing k with
  | nil => simp [flat]
  | cons x xs ih =>
    cases k with
    | zero => simp [flat]
    | succ k => rw [show (k + 1) * 2 = k * 2 + 1 + 1 from by omega]; simp [flat, ih]
theorem Own.cut {base k n c g0 : Nat} {xs : List P2} (h : Own w base (.slice (some ⟨g0, 0, none⟩) n c) xs) (hk : k ≤ xs.length) : Own w base (.slice (some ⟨g0, 0, none⟩) k c) (xs.take k) := by
  have hlen : (xs.take k).length = k := by simp; omega
  unfold Own
  rw [hlen]
  rcases h.2 with ⟨e, _⟩ | ⟨g, cap, cur, hv, hb, hg, hnc, hcm, hcs, htake⟩
  · cases e
  · injection hv with e1 e2 e3
    obtain rfl : g0 = g := by injection e1 with e1; injection e1
    subst e3
    refine ⟨by rw [flat_len, hlen], .inr ⟨g0, c, cur, rfl, hb, hg, by omega, hcm, hcs, ?_⟩⟩
    rw [flat_take, ← htake, List.take_take, Nat.min_eq_left (by omega)]
theorem Own.set {base : Nat} {v : Value} {xs : List P2} (h : Own w base v xs) {k : Nat} (hk : k < base) (u : Value) : Own (w.setCell ⟨k, 0, none⟩ u) base v xs := ownsRow_setCell_below h (a := ⟨k, 0, none⟩) hk u
end
def lenAt (w : World) (g : Nat) : Nat := match w.cell? ⟨g, 0, none⟩ with | some (.slice _ n _) => n | _ => 0
theorem lenAt_eq {w : World} {g n c : Nat} {A : Option Addr} (h : w.cell? ⟨g, 0, none⟩ = some (.slice A n c)) : lenAt w g = n := by unfold lenAt; rw [h]
end Go.Proofs.Ytklkkehhmmipeaa
