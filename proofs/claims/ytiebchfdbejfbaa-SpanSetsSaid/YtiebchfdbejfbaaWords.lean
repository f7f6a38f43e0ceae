/- Words for slices of intervals: what a slice value reads as, and how that is kept. -/
import Derived.Below
import Derived.Laws.OwnMore
import Derived.Deep.AppendLies
import Derived.Deep.Draws
import Derived.OwnWalk
namespace Go.Proofs.Ytiebchfdbejfbaa
open Go.RowKit

/-- The slice value '.slice A n c' reads as the intervals xs and lies below block B. -/
def Ivs (w : World) (B : Nat) (A : Option Addr) (n : Nat) (xs : List (Int × Int)) : Prop :=
  xs.length = n ∧ (0 < n → ∃ b off, A = some ⟨b, off, none⟩ ∧ b < B ∧ ∀ k x, xs[k]? = some x → w.cell? ⟨b, off + k * 2, none⟩ = some (.int .i64 x.1) ∧ w.cell? ⟨b, off + k * 2 + 1, none⟩ = some (.int .i64 x.2))

section
variable {w w' : World} {B B' n : Nat} {A : Option Addr} {xs : List (Int × Int)}
theorem Ivs.len (h : Ivs w B A n xs) : xs.length = n := h.1
theorem Ivs.nil : Ivs w B A 0 [] := ⟨rfl, fun h => absurd h (by omega)⟩
theorem Ivs.at_ {k : Nat} (h : Ivs w B A n xs) (hk : k < n) : ∃ b off lo hi, A = some ⟨b, off, none⟩ ∧ b < B ∧ xs[k]? = some (lo, hi) ∧ w.cell? ⟨b, off + k * 2, none⟩ = some (.int .i64 lo) ∧ w.cell? ⟨b, off + k * 2 + 1, none⟩ = some (.int .i64 hi) := by
  obtain ⟨b, off, e, hb, hc⟩ := h.2 (by omega)
  have hl : k < xs.length := by have := h.1; omega
  have hx : xs[k]? = some xs[k] := List.getElem?_eq_getElem hl
  exact ⟨b, off, xs[k].1, xs[k].2, e, hb, hx, (hc k _ hx).1, (hc k _ hx).2⟩
theorem Ivs.keep (h : Ivs w B A n xs) (hk : ∀ b o, b < B → w'.cell? ⟨b, o, none⟩ = w.cell? ⟨b, o, none⟩) : Ivs w' B A n xs :=
  ⟨h.1, fun hn => by
    obtain ⟨b, off, e, hb, hc⟩ := h.2 hn
    exact ⟨b, off, e, hb, fun k x hx => ⟨(hk _ _ hb).trans (hc k x hx).1, (hk _ _ hb).trans (hc k x hx).2⟩⟩⟩
theorem Ivs.more (h : Ivs w B A n xs) (hB : B ≤ B') : Ivs w B' A n xs :=
  ⟨h.1, fun hn => by
    obtain ⟨b, off, e, hb, hc⟩ := h.2 hn
    exact ⟨b, off, e, by omega, hc⟩⟩
theorem Ivs.below (h : Ivs w B A n xs) (hb : Below B w w') : Ivs w' B A n xs := h.keep fun b o hp => hb.cell (p := ⟨b, o, none⟩) hp
theorem Ivs.in_ (h : Ivs w B A n xs) (hb : Below B w w') (hB : B ≤ B') : Ivs w' B' A n xs := (h.below hb).more hB
/-- Block g is a variable that holds an interval. -/
def IvBox (w : World) (g : Nat) (lo hi : Int) : Prop := w.heap[g]? = some (.cells #[.int .i64 lo, .int .i64 hi] 23 (0, 0))
theorem IvBox.lt {g : Nat} {lo hi : Int} (h : IvBox w g lo hi) : g < w.heap.size := by
  rcases Nat.lt_or_ge g w.heap.size with hlt | hge
  · exact hlt
  · unfold IvBox at h; rw [Array.getElem?_eq_none hge] at h; cases h
theorem IvBox.facts {g : Nat} {lo hi : Int} (h : IvBox w g lo hi) : w.cell? ⟨g, 0, none⟩ = some (.int .i64 lo) ∧ w.cell? ⟨g, 1, none⟩ = some (.int .i64 hi) ∧ w.frozen? ⟨g, 0, none⟩ = false ∧ w.frozen? ⟨g, 1, none⟩ = false := by
  unfold IvBox at h
  exact ⟨cell_of_row w g 0 _ _ (0, 0) h, cell_of_row w g 1 _ _ (0, 0) h, by simp [World.frozen?, h], by simp [World.frozen?, h]⟩
theorem IvBox.new (w : World) (lo hi : Int) : IvBox (w.alloc (.cells #[.int .i64 lo, .int .i64 hi] 23)) w.heap.size lo hi := heap_alloc_new w _
theorem IvBox.alloc {g : Nat} {lo hi : Int} (h : IvBox w g lo hi) (o : Obj) : IvBox (w.alloc o) g lo hi := (Below.heap_alloc w o g h.lt).trans h
theorem IvBox.new' {g : Nat} (w : World) (lo hi : Int) (hg : w.heap.size = g) : IvBox (w.alloc (.cells #[.int .i64 lo, .int .i64 hi] 23)) g lo hi := hg ▸ IvBox.new w lo hi
theorem IvBox.kept {g : Nat} {lo hi : Int} (h : IvBox w g lo hi) (hb : Below w.heap.size w w') : IvBox w' g lo hi := (hb.block g h.lt).trans h
theorem IvBox.below {g : Nat} {lo hi : Int} (h : IvBox w g lo hi) (hb : Below B w w') (hg : g < B) : IvBox w' g lo hi := (hb.block g hg).trans h
theorem IvBox.set {g : Nat} {lo hi : Int} (h : IvBox w g lo hi) (lo' hi' : Int) : IvBox ((w.setCell ⟨g, 0, none⟩ (.int .i64 lo')).setCell ⟨g, 1, none⟩ (.int .i64 hi')) g lo' hi' := by
  unfold IvBox at h ⊢
  simp [World.setCell, Array.getElem?_modify, h]
theorem IvBox.far {g : Nat} {lo hi : Int} (h : IvBox w g lo hi) {p : Addr} (hp : g ≠ p.block) (u : Value) : IvBox (w.setCell p u) g lo hi := (Below.heap_setCell w p u g hp).trans h
/-- Two intervals, laid side by side by the call itself. -/
theorem two_new {g : Nat} (w : World) (a b c d : Int) (t : TypeId) (hg : w.heap.size = g) (hB : g < B) : Ivs (w.alloc (.cells #[.int .i64 a, .int .i64 b, .int .i64 c, .int .i64 d] t)) B (some ⟨g, 0, none⟩) 2 [(a, b), (c, d)] := by
  subst hg
  refine ⟨rfl, fun _ => ⟨_, _, rfl, hB, fun k x hx => ?_⟩⟩
  match k, hx with
  | 0, hx => simp at hx; subst hx; simp
  | 1, hx => simp at hx; subst hx; simp
/-- One interval, laid by the call itself. -/
theorem one_new {g : Nat} (w : World) (a b : Int) (t : TypeId) (hg : w.heap.size = g) (hB : g < B) : Ivs (w.alloc (.cells #[.int .i64 a, .int .i64 b] t)) B (some ⟨g, 0, none⟩) 1 [(a, b)] := by
  subst hg
  refine ⟨rfl, fun _ => ⟨_, _, rfl, hB, fun k x hx => ?_⟩⟩
  match k, hx with
  | 0, hx => simp at hx; subst hx; simp
theorem below_new {B : Nat} {w : World} (hB : B ≤ w.heap.size) (o : Obj) : Below B w (w.alloc o) := (Below.refl _ _).alloc hB o
end
end Go.Proofs.Ytiebchfdbejfbaa
