/- Package slices: the sort of at most twelve points by insertion. -/
import Derived.Test.YtklkkehhmmipeaaPO
namespace Go.Proofs.Ytklkkehhmmipeaa
open Go.RowKit
attribute [local go_sem ↓] Go.wp_at_zero Go.wp_at_succ

set_option maxHeartbeats 800000 in
theorem pcompare_any (ax ay bx by' v : Int) (w : World) (h : cmpP (ax, ay) (bx, by') = v) :
    Calls Try.prog 47 #[v2 ax ay, v2 bx by'] w fun e w' => e = .returned (.int .i64 v) ∧ Below w.heap.size w w' := by
  have hc : ∀ W, Calls Try.prog 64 #[v3 ax ay 0, v3 bx by' 0] W fun e w' => e = .returned (.int .i64 v) ∧ Below W.heap.size W w' := fun W => compare_flat (ax, ay) (bx, by') v W h
  have Hc := Lib.hid hc
  clear hc h
  go_enter Try.func47, Try.ntmps47
  go_wp2_with fail
  go_region_held3 (fun w' => w'.cell? ⟨w.heap.size, 0, none⟩ = some (.int .i64 ax) ∧ w'.cell? ⟨w.heap.size, 1, none⟩ = some (.int .i64 ay) ∧ w'.cell? ⟨w.heap.size + 1, 0, none⟩ = some (.int .i64 bx) ∧ w'.cell? ⟨w.heap.size + 1, 1, none⟩ = some (.int .i64 by'))
    (first | (refine ⟨?_, ?_, ?_, ?_⟩ <;> with_reducible assumption) | (refine ⟨Blk.cell (cs := [.int .i64 ax, .int .i64 ay]) (t := 31) ?_ 0 rfl, Blk.cell (cs := [.int .i64 ax, .int .i64 ay]) (t := 31) ?_ 1 rfl, Blk.cell (cs := [.int .i64 bx, .int .i64 by']) (t := 31) ?_ 0 rfl, Blk.cell (cs := [.int .i64 bx, .int .i64 by']) (t := 31) ?_ 1 rfl⟩ <;> ((try simp only [Blk.drew_iff]); (try simp only [Blk.drewN_iff]); (try simp only [Blk.drew_iff]); repeat (first | with_reducible assumption | with_reducible exact Blk.new _ _ _ (by first | rfl | (simp; done) | (simp; omega)) | with_reducible refine Blk.alloc ?_ _ | with_reducible refine Blk.far ?_ (by first | (simp; done) | (simp; omega) | omega) _))) | go_keep | (refine ⟨?_, ?_, ?_, ?_⟩ <;> go_keep))
    (first
      | (go_at_call 64; (have tok := hb2; clear tok); (fail_if_success (have tok := hb3)); refine (Hc.out _).mono ?_; rintro e w3 ⟨rfl, hb3⟩; have acc3 : Below w.heap.size w w3 := below_step (by (repeat (first | with_reducible assumption | with_reducible exact Below.refl _ _ | simp only [Below.drew_iff] | simp only [Below.drewN_iff] | with_reducible refine Below.setCell ?_ (by first | omega | (simp; done) | (simp; omega)) _ | with_reducible refine Below.alloc ?_ (by first | omega | (simp; done) | (simp; omega)) _))) hb3; have zz3 := acc3.size; have A0_3 : Blk w3 (w.heap.size) [.int .i64 ax, .int .i64 ay] 31 := Blk.kept (by ((try simp only [Blk.drew_iff]); (try simp only [Blk.drewN_iff]); (try simp only [Blk.drew_iff]); first | with_reducible assumption | with_reducible exact Blk.new _ _ _ (by first | rfl | (simp; done) | (simp; omega)) | (with_reducible refine Blk.alloc ?_ _; first | with_reducible assumption | with_reducible exact Blk.new _ _ _ (by first | rfl | (simp; done) | (simp; omega)) | (with_reducible refine Blk.alloc ?_ _; with_reducible assumption)))) hb3; obtain ⟨a0_3_0, a0_3_1, a0_3_2, a0_3_3⟩ := A0_3.two; have lA0_3 := A0_3.lt; have A1_3 : Blk w3 (w.heap.size + 1) [.int .i64 bx, .int .i64 by'] 31 := Blk.kept (by ((try simp only [Blk.drew_iff]); (try simp only [Blk.drewN_iff]); (try simp only [Blk.drew_iff]); first | with_reducible assumption | with_reducible exact Blk.new _ _ _ (by first | rfl | (simp; done) | (simp; omega)) | (with_reducible refine Blk.alloc ?_ _; first | with_reducible assumption | with_reducible exact Blk.new _ _ _ (by first | rfl | (simp; done) | (simp; omega)) | (with_reducible refine Blk.alloc ?_ _; with_reducible assumption)))) hb3; obtain ⟨a1_3_0, a1_3_1, a1_3_2, a1_3_3⟩ := A1_3.two; have lA1_3 := A1_3.lt)
      | (go_at_call 65; (have tok := hb1; clear tok); (fail_if_success (have tok := hb2)); refine (pflat_any _ _ _).mono ?_; rintro e w2 ⟨rfl, hb2⟩; have acc2 : Below w.heap.size w w2 := below_step (by (repeat (first | with_reducible assumption | with_reducible exact Below.refl _ _ | simp only [Below.drew_iff] | simp only [Below.drewN_iff] | with_reducible refine Below.setCell ?_ (by first | omega | (simp; done) | (simp; omega)) _ | with_reducible refine Below.alloc ?_ (by first | omega | (simp; done) | (simp; omega)) _))) hb2; have zz2 := acc2.size; have A0_2 : Blk w2 (w.heap.size) [.int .i64 ax, .int .i64 ay] 31 := Blk.kept (by ((try simp only [Blk.drew_iff]); (try simp only [Blk.drewN_iff]); (try simp only [Blk.drew_iff]); first | with_reducible assumption | with_reducible exact Blk.new _ _ _ (by first | rfl | (simp; done) | (simp; omega)) | (with_reducible refine Blk.alloc ?_ _; first | with_reducible assumption | with_reducible exact Blk.new _ _ _ (by first | rfl | (simp; done) | (simp; omega)) | (with_reducible refine Blk.alloc ?_ _; with_reducible assumption)))) hb2; obtain ⟨a0_2_0, a0_2_1, a0_2_2, a0_2_3⟩ := A0_2.two; have lA0_2 := A0_2.lt; have A1_2 : Blk w2 (w.heap.size + 1) [.int .i64 bx, .int .i64 by'] 31 := Blk.kept (by ((try simp only [Blk.drew_iff]); (try simp only [Blk.drewN_iff]); (try simp only [Blk.drew_iff]); first | with_reducible assumption | with_reducible exact Blk.new _ _ _ (by first | rfl | (simp; done) | (simp; omega)) | (with_reducible refine Blk.alloc ?_ _; first | with_reducible assumption | with_reducible exact Blk.new _ _ _ (by first | rfl | (simp; done) | (simp; omega)) | (with_reducible refine Blk.alloc ?_ _; with_reducible assumption)))) hb2; obtain ⟨a1_2_0, a1_2_1, a1_2_2, a1_2_3⟩ := A1_2.two; have lA1_2 := A1_2.lt)
      | (go_at_call 65; (fail_if_success (have tok := hb1)); refine (pflat_any _ _ _).mono ?_; rintro e w1 ⟨rfl, hb1⟩; have acc1 : Below w.heap.size w w1 := below_step (by (repeat (first | with_reducible assumption | with_reducible exact Below.refl _ _ | simp only [Below.drew_iff] | simp only [Below.drewN_iff] | with_reducible refine Below.setCell ?_ (by first | omega | (simp; done) | (simp; omega)) _ | with_reducible refine Below.alloc ?_ (by first | omega | (simp; done) | (simp; omega)) _))) hb1; have zz1 := acc1.size; have A0_1 : Blk w1 (w.heap.size) [.int .i64 ax, .int .i64 ay] 31 := Blk.kept (by ((try simp only [Blk.drew_iff]); (try simp only [Blk.drewN_iff]); (try simp only [Blk.drew_iff]); first | with_reducible assumption | with_reducible exact Blk.new _ _ _ (by first | rfl | (simp; done) | (simp; omega)) | (with_reducible refine Blk.alloc ?_ _; first | with_reducible assumption | with_reducible exact Blk.new _ _ _ (by first | rfl | (simp; done) | (simp; omega)) | (with_reducible refine Blk.alloc ?_ _; with_reducible assumption)))) hb1; obtain ⟨a0_1_0, a0_1_1, a0_1_2, a0_1_3⟩ := A0_1.two; have lA0_1 := A0_1.lt; have A1_1 : Blk w1 (w.heap.size + 1) [.int .i64 bx, .int .i64 by'] 31 := Blk.kept (by ((try simp only [Blk.drew_iff]); (try simp only [Blk.drewN_iff]); (try simp only [Blk.drew_iff]); first | with_reducible assumption | with_reducible exact Blk.new _ _ _ (by first | rfl | (simp; done) | (simp; omega)) | (with_reducible refine Blk.alloc ?_ _; first | with_reducible assumption | with_reducible exact Blk.new _ _ _ (by first | rfl | (simp; done) | (simp; omega)) | (with_reducible refine Blk.alloc ?_ _; with_reducible assumption)))) hb1; obtain ⟨a1_1_0, a1_1_1, a1_1_2, a1_1_3⟩ := A1_1.two; have lA1_1 := A1_1.lt))
  go_wp2
  go_ret
  exact ⟨rfl, (by (repeat (first | with_reducible assumption | with_reducible exact Below.refl _ _ | simp only [Below.drew_iff] | simp only [Below.drewN_iff] | with_reducible refine Below.setCell ?_ (by first | omega | (simp; done) | (simp; omega)) _ | with_reducible refine Below.alloc ?_ (by first | omega | (simp; done) | (simp; omega)) _)))⟩

/-- Nothing has turned but block g. -/
structure But (g : Nat) (w w' : World) : Prop where
  os : w'.os = w.os
  tape : w'.tape = w.tape
  output : w'.output = w.output
  size : w.heap.size ≤ w'.heap.size
  block : ∀ k, k < w.heap.size → k ≠ g → w'.heap[k]? = w.heap[k]?
section
variable {g B : Nat} {w w' w'' : World}
theorem But.refl (g : Nat) (w : World) : But g w w := ⟨rfl, rfl, rfl, Nat.le_refl _, fun _ _ _ => rfl⟩
theorem But.of (h : Below w.heap.size w w') : But g w w' := ⟨h.os, h.tape, h.output, h.size, fun k hk _ => h.block k hk⟩
theorem But.trans (h : But g w w') (k : But g w' w'') : But g w w'' := ⟨k.os.trans h.os, k.tape.trans h.tape, k.output.trans h.output, Nat.le_trans h.size k.size, fun i hi hg => (k.block i (Nat.lt_of_lt_of_le hi h.size) hg).trans (h.block i hi hg)⟩
theorem But.step (h : But g w w') (k : Below w'.heap.size w' w'') : But g w w'' := h.trans (But.of k)
theorem But.drew_iff : But g w w'.drew ↔ But g w w' := ⟨fun h => ⟨h.os, h.tape, h.output, h.size, h.block⟩, fun h => ⟨h.os, h.tape, h.output, h.size, h.block⟩⟩
theorem But.drewN_iff {n : Nat} : But g w (w'.drewN n) ↔ But g w w' := ⟨fun h => ⟨h.os, h.tape, h.output, h.size, h.block⟩, fun h => ⟨h.os, h.tape, h.output, h.size, h.block⟩⟩
theorem But.setCell (h : But g w w') (o : Nat) (u : Value) : But g w (w'.setCell ⟨g, o, none⟩ u) :=
  ⟨h.os, h.tape, h.output, by simpa using h.size, fun k hk hg => (Below.heap_setCell w' ⟨g, o, none⟩ u k hg).trans (h.block k hk hg)⟩
theorem But.below (h : But g w w') (hg : B ≤ g) (hB : B ≤ w.heap.size) : Below B w w' := ⟨h.os, h.tape, h.output, h.size, fun k hk => h.block k (by omega) (by omega)⟩
theorem But.blk {k : Nat} {cs : List Value} {t : TypeId} (h : But g w w') (b : Blk w k cs t) (hk : k ≠ g) : Blk w' k cs t := ⟨(h.block k b.lt hk).trans b.at_⟩
end

/-- Block g begins with the points ys, which may be written. -/
def Mem (w : World) (g : Nat) (ys : List P2) : Prop := ∀ k x, ys[k]? = some x →
  w.cell? ⟨g, k * 2, none⟩ = some (.int .i64 x.1) ∧ w.cell? ⟨g, k * 2 + 1, none⟩ = some (.int .i64 x.2) ∧ w.frozen? ⟨g, k * 2, none⟩ = false ∧ w.frozen? ⟨g, k * 2 + 1, none⟩ = false
section
variable {g : Nat} {w w' : World} {ys : List P2}
theorem Mem.kept (h : Mem w g ys) (hb : Below w.heap.size w w') (hg : g < w.heap.size) : Mem w' g ys := fun k x hx => by
  obtain ⟨h1, h2, h3, h4⟩ := h k x hx
  exact ⟨(hb.cell (p := ⟨g, _, none⟩) hg).trans h1, (hb.cell (p := ⟨g, _, none⟩) hg).trans h2, (hb.frozen (p := ⟨g, _, none⟩) hg).trans h3, (hb.frozen (p := ⟨g, _, none⟩) hg).trans h4⟩
theorem Mem.drew_iff : Mem w.drew g ys ↔ Mem w g ys := Iff.rfl
theorem Mem.drewN_iff {n : Nat} : Mem (w.drewN n) g ys ↔ Mem w g ys := Iff.rfl
theorem Mem.row {n B : Nat} (h : Mem w g ys) (hn : ys.length = n) (hg : g < B) : Row w B (some ⟨g, 0, none⟩) n ys := ⟨hn, fun _ => ⟨g, 0, rfl, hg, fun k x hx => by
  obtain ⟨h1, h2, _, _⟩ := h k x hx
  rw [Nat.zero_add]
  exact ⟨h1, h2⟩⟩⟩
theorem Mem.put (h : Mem w g ys) {j : Nat} (hj : j < ys.length) (x : P2) : Mem ((w.setCell ⟨g, j * 2, none⟩ (.int .i64 x.1)).setCell ⟨g, j * 2 + 1, none⟩ (.int .i64 x.2)) g (ys.set j x) := by
  intro k z hz
  obtain ⟨c1, c2, _, _⟩ := h j ys[j] (List.getElem?_eq_getElem hj)
  simp only [World.frozen?_setCell]
  by_cases hk : k = j
  · subst hk
    rw [List.getElem?_set_self hj] at hz
    obtain rfl := Option.some.inj hz
    obtain ⟨_, _, f1, f2⟩ := h k ys[k] (List.getElem?_eq_getElem hj)
    refine ⟨?_, ?_, f1, f2⟩
    · rw [World.cell?_setCell_other _ _ _ _ (by simp)]
      exact World.cell?_setCell_same _ _ _ c1
    · exact World.cell?_setCell_same _ _ _ ((World.cell?_setCell_other _ _ _ _ (by simp)).trans c2)
  · rw [List.getElem?_set_ne (fun e => hk e.symm)] at hz
    obtain ⟨d1, d2, f1, f2⟩ := h k z hz
    refine ⟨?_, ?_, f1, f2⟩
    · rw [World.cell?_setCell_other _ _ _ _ (by first | (simp; done) | (simp; omega)), World.cell?_setCell_other _ _ _ _ (by first | (simp; done) | (simp; omega))]; exact d1
    · rw [World.cell?_setCell_other _ _ _ _ (by first | (simp; done) | (simp; omega)), World.cell?_setCell_other _ _ _ _ (by first | (simp; done) | (simp; omega))]; exact d2
theorem Own.mem {base n cap : Nat} {A : Option Addr} {xs : List P2} (h : Own w base (.slice A n cap) xs) (h0 : 0 < xs.length) : ∃ g, A = some ⟨g, 0, none⟩ ∧ n = xs.length ∧ xs.length ≤ cap ∧ base ≤ g ∧ g < w.heap.size ∧ Mem w g xs := by
  have hlt := World.ownsRow.lt h
  have h' := h
  rcases h.2 with ⟨_, hz⟩ | ⟨g, cap', cur, hv, hb, hg, hnc, hcm, hcs, htake⟩
  · omega
  · injection hv with e1 e2 e3
    subst e1 e2 e3
    refine ⟨g, rfl, rfl, hnc, hb, (hlt g rfl).2, fun k x hx => ?_⟩
    obtain ⟨f0, f1⟩ := flat_at xs k x hx
    have hk : k < xs.length := (List.getElem?_eq_some_iff.1 hx).1
    refine ⟨?_, ?_, World.ownsRow.frozenAt h' _, World.ownsRow.frozenAt h' _⟩
    · rw [World.ownsRow.cellAt h' _ (by omega), f0]
    · rw [World.ownsRow.cellAt h' _ (by omega), f1]
end
end Go.Proofs.Ytklkkehhmmipeaa
