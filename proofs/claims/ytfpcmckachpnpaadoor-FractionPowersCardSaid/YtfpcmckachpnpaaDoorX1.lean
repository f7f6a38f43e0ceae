/- Values and worlds seen through a naming of blocks: what a memory with names of its own has to do with the model's. -/
import Derived.Orders
import Derived.Below
import Derived.KernelRfl
import Derived.Laws.CopyRow
import Derived.Laws.Cells
namespace Go.Proofs.YtfpcmckachpnpaaDoor.Vx
open Go Go.RowKit

/-- Where a named block lies: its number, the cell at which it begins, how many cells the block has in all, the cells of an element (for slices that grow), whether it is the call's own. -/
structure Rb where
  blk : Nat
  base : Nat
  room : Nat
  esz : Nat
  own : Bool

abbrev Ren := Nat → Option Rb
def Ext (p q : Ren) : Prop := ∀ id r, p id = some r → q id = some r
theorem Ext.refl (p : Ren) : Ext p p := fun _ _ h => h
theorem Ext.trans {p q s : Ren} (h : Ext p q) (k : Ext q s) : Ext p s := fun id r hr => k id r (h id r hr)

/-- A value of one cell that holds no address. -/
def flat1 : Value → Bool
  | .bool _ | .int _ _ | .float _ _ | .complex _ _ _ | .string _ | .pointer none | .slice none _ _ | .map none | .chan none | .nilFunc | .nilIface => true
  | _ => false
/-- A value that holds no address, to the depth n. -/
def flatN : Nat → Value → Bool
  | n + 1, .agg cs => cs.toList.all (flatN n)
  | n + 1, .tuple cs => cs.toList.all (flatN n)
  | n + 1, .func _ a b => a.toList.all (flatN n) && b.toList.all (flatN n)
  | _, v => flat1 v
def flat (v : Value) : Bool := flatN 4 v

/-- How a value of the memory with names stands for one of the model's. An empty slice that begins behind the last element stands for one wherever it lies; '.chan (some 0)' and '.tuple #[.chan (some 1)]' are values that have been forgotten, of one cell and of any kind. -/
inductive VR (p : Ren) : Value → Value → Prop
  | same {v : Value} : flat1 v = true → VR p v v
  | ptr {id off : Nat} {r : Rb} : p id = some r → VR p (.pointer (some ⟨id, off, none⟩)) (.pointer (some ⟨r.blk, r.base + off, none⟩))
  | sl {id off n c c' : Nat} {r : Rb} : p id = some r → n ≤ c' → (c ≠ 0 → c = c') → (c = 0 → r.own = true → r.base + off + c' * r.esz ≤ r.room) →
      VR p (.slice (some ⟨id, off, none⟩) n c) (.slice (some ⟨r.blk, r.base + off, none⟩) n c')
  | agg {xs ys : Array Value} : xs.size = ys.size → (∀ i (h : i < xs.size) (h' : i < ys.size), VR p xs[i] ys[i]) → VR p (.agg xs) (.agg ys)
  | tup {xs ys : Array Value} : xs.size = ys.size → (∀ i (h : i < xs.size) (h' : i < ys.size), VR p xs[i] ys[i]) → VR p (.tuple xs) (.tuple ys)
  | emp {a : Addr} {c' : Nat} : VR p (.slice (some ⟨0, 0, some 0⟩) 0 0) (.slice (some a) 0 c')
  | any {v' : Value} : v'.oneCell' = true → VR p (.chan (some 0)) v'
  | junk {v' : Value} : VR p (.tuple #[.chan (some 1)]) v'
  | glob {g off : Nat} : VR p (.pointer (some ⟨g, off, some 0⟩)) (.pointer (some ⟨g, off, none⟩))
  | fn {f : Fn} {xs ys us vs : Array Value} : xs.size = ys.size → (∀ i (h : i < xs.size) (h' : i < ys.size), VR p xs[i] ys[i]) →
      us.size = vs.size → (∀ i (h : i < us.size) (h' : i < vs.size), VR p us[i] vs[i]) → VR p (.func f xs us) (.func f ys vs)

theorem VR.mono {p q : Ren} (h : Ext p q) {v v' : Value} (k : VR p v v') : VR q v v' := by
  induction k with
  | same hf => exact .same hf
  | ptr hr => exact .ptr (h _ _ hr)
  | sl hr hn hc ho => exact .sl (h _ _ hr) hn hc ho
  | agg hs _ ih => exact .agg hs ih
  | tup hs _ ih => exact .tup hs ih
  | emp => exact .emp
  | any h1 => exact .any h1
  | junk => exact .junk
  | glob => exact .glob
  | fn hs _ ht _ ih ih2 => exact .fn hs ih ht ih2

/-- A value that has been forgotten. -/
def lost : Value := .tuple #[.chan (some 1)]

/-- Rows of values, item by item. -/
def AR (p : Ren) (xs ys : Array Value) : Prop := xs.size = ys.size ∧ ∀ i (h : i < xs.size) (h' : i < ys.size), VR p xs[i] ys[i]
def LR (p : Ren) (xs ys : List Value) : Prop := xs.length = ys.length ∧ ∀ i (h : i < xs.length) (h' : i < ys.length), VR p xs[i] ys[i]
theorem AR.mono {p q : Ren} (h : Ext p q) {xs ys : Array Value} (k : AR p xs ys) : AR q xs ys := ⟨k.1, fun i a b => (k.2 i a b).mono h⟩
theorem LR.mono {p q : Ren} (h : Ext p q) {xs ys : List Value} (k : LR p xs ys) : LR q xs ys := ⟨k.1, fun i a b => (k.2 i a b).mono h⟩
theorem AR.list {p : Ren} {xs ys : Array Value} (k : AR p xs ys) : LR p xs.toList ys.toList := ⟨by simpa using k.1, fun i a b => by have := k.2 i (by simpa using a) (by simpa using b); rwa [Array.getElem_toList, Array.getElem_toList]⟩
theorem LR.array {p : Ren} {xs ys : List Value} (k : LR p xs ys) : AR p xs.toArray ys.toArray := ⟨by simpa using k.1, fun i a b => by simpa using k.2 i (by simpa using a) (by simpa using b)⟩
theorem AR.of_list {p : Ren} {xs ys : Array Value} (k : LR p xs.toList ys.toList) : AR p xs ys := ⟨by simpa using k.1, fun i a b => by have := k.2 i (by simpa using a) (by simpa using b); rwa [Array.getElem_toList, Array.getElem_toList] at this⟩
theorem LR.get {p : Ren} {xs ys : List Value} (k : LR p xs ys) {i : Nat} {v : Value} (h : xs[i]? = some v) : ∃ v', ys[i]? = some v' ∧ VR p v v' := by
  obtain ⟨hi, rfl⟩ := List.getElem?_eq_some_iff.1 h
  have hi' : i < ys.length := k.1 ▸ hi
  exact ⟨ys[i], List.getElem?_eq_getElem hi', k.2 i hi hi'⟩
theorem AR.get {p : Ren} {xs ys : Array Value} (k : AR p xs ys) {i : Nat} {v : Value} (h : xs[i]? = some v) : ∃ v', ys[i]? = some v' ∧ VR p v v' := by
  obtain ⟨hi, rfl⟩ := Array.getElem?_eq_some_iff.1 h
  have hi' : i < ys.size := k.1 ▸ hi
  exact ⟨ys[i], Array.getElem?_eq_getElem hi', k.2 i hi hi'⟩
theorem LR.none {p : Ren} {xs ys : List Value} (k : LR p xs ys) {i : Nat} (h : xs[i]? = none) : ys[i]? = none := by
  rw [List.getElem?_eq_none_iff] at h ⊢; have := k.1; omega
theorem AR.none {p : Ren} {xs ys : Array Value} (k : AR p xs ys) {i : Nat} (h : xs[i]? = none) : ys[i]? = none := by
  rw [Array.getElem?_eq_none_iff] at h ⊢; have := k.1; omega
theorem LR.nil {p : Ren} : LR p [] [] := ⟨rfl, fun i h => by simp at h⟩
theorem LR.cons {p : Ren} {x y : Value} {xs ys : List Value} (h : VR p x y) (k : LR p xs ys) : LR p (x :: xs) (y :: ys) :=
  ⟨by simp [k.1], fun i a b => by cases i with
    | zero => exact h
    | succ i => exact k.2 i (by simpa using a) (by simpa using b)⟩
theorem LR.uncons {p : Ren} {x : Value} {xs zs : List Value} (k : LR p (x :: xs) zs) : ∃ y ys, zs = y :: ys ∧ VR p x y ∧ LR p xs ys := by
  cases zs with
  | nil => exact absurd k.1 (by simp)
  | cons y ys => exact ⟨y, ys, rfl, k.2 0 (by simp) (by simp), by simpa using k.1, fun i a b => k.2 (i + 1) (by simpa using a) (by simpa using b)⟩
theorem LR.unnil {p : Ren} {zs : List Value} (k : LR p [] zs) : zs = [] := by cases zs with
  | nil => rfl
  | cons y ys => exact absurd k.1 (by simp)
theorem LR.append {p : Ren} {xs ys us vs : List Value} (h : LR p xs ys) (k : LR p us vs) : LR p (xs ++ us) (ys ++ vs) := by
  refine ⟨by simp [h.1, k.1], fun i a b => ?_⟩
  have hl := h.1
  by_cases hi : i < xs.length
  · rw [List.getElem_append_left hi, List.getElem_append_left (hl ▸ hi)]; exact h.2 _ _ _
  · rw [List.getElem_append_right (by omega), List.getElem_append_right (by omega)]
    have e : i - xs.length = i - ys.length := by omega
    simp only [e]
    exact k.2 _ (by simp at a; omega) _
theorem LR.drop {p : Ren} {xs ys : List Value} (h : LR p xs ys) (n : Nat) : LR p (xs.drop n) (ys.drop n) :=
  ⟨by simp [h.1], fun i a b => by simpa using h.2 (n + i) (by simp at a; omega) (by simp at b; omega)⟩
theorem LR.take {p : Ren} {xs ys : List Value} (h : LR p xs ys) (n : Nat) : LR p (xs.take n) (ys.take n) :=
  ⟨by simp [h.1], fun i a b => by simpa using h.2 i (by simp at a; omega) (by simp at b; omega)⟩
theorem LR.set {p : Ren} {xs ys : List Value} (h : LR p xs ys) (k : Nat) {v v' : Value} (hv : VR p v v') : LR p (xs.set k v) (ys.set k v') := by
  refine ⟨by simp [h.1], fun i a b => ?_⟩
  rw [List.getElem_set, List.getElem_set]
  split
  · exact hv
  · exact h.2 _ (by simpa using a) (by simpa using b)
theorem AR.set {p : Ren} {xs ys : Array Value} (h : AR p xs ys) (k : Nat) {v v' : Value} (hv : VR p v v') : AR p (xs.setIfInBounds k v) (ys.setIfInBounds k v') := by
  refine ⟨by simp [h.1], fun i a b => ?_⟩
  rw [Array.getElem_setIfInBounds, Array.getElem_setIfInBounds]
  split
  · exact hv
  · exact h.2 _ (by simpa using a) (by simpa using b)
theorem AR.append {p : Ren} {xs ys us vs : Array Value} (h : AR p xs ys) (k : AR p us vs) : AR p (xs ++ us) (ys ++ vs) := by
  have := LR.append h.list k.list
  exact .of_list (by simpa using this)

theorem VR.flat1_eq {p : Ren} {v v' : Value} (h : VR p v v') (hf : flat1 v = true) : v' = v := by
  cases h <;> first | rfl | (simp [flat1] at hf)
theorem flatN_eq {p : Ren} : ∀ (n : Nat) {v v' : Value}, VR p v v' → flatN n v = true → v' = v := by
  intro n
  induction n with
  | zero => intro v v' h hf; exact h.flat1_eq (by simpa [flatN] using hf)
  | succ n ih =>
    have rows : ∀ xs ys : Array Value, xs.size = ys.size → (∀ i (h : i < xs.size) (h' : i < ys.size), VR p xs[i] ys[i]) → xs.toList.all (flatN n) = true → ys = xs := by
      intro xs ys hs hv hf
      refine Array.ext hs.symm fun i h1 h2 => ih (hv i h2 h1) ?_
      exact List.all_eq_true.1 hf _ (by simp)
    intro v v' h hf
    cases h with
    | same k => rfl
    | ptr hr => simp [flatN, flat1] at hf
    | sl => simp [flatN, flat1] at hf
    | emp => simp [flatN, flat1] at hf
    | any => simp [flatN, flat1] at hf
    | junk => cases n <;> simp [flatN, flat1] at hf
    | glob => simp [flatN, flat1] at hf
    | agg hs hv => rw [rows _ _ hs hv (by simpa [flatN] using hf)]
    | tup hs hv => rw [rows _ _ hs hv (by simpa [flatN] using hf)]
    | fn hs hv ht hu =>
      simp only [flatN, Bool.and_eq_true] at hf
      rw [rows _ _ hs hv hf.1, rows _ _ ht hu hf.2]
theorem flatN_refl {p : Ren} : ∀ (n : Nat) {v : Value}, flatN n v = true → VR p v v := by
  intro n
  induction n with
  | zero => intro v hf; exact .same (by simpa [flatN] using hf)
  | succ n ih =>
    intro v hf
    cases v with
    | agg cs => exact .agg rfl fun i h _ => ih (List.all_eq_true.1 (show cs.toList.all (flatN n) = true from hf) _ (by simp))
    | tuple cs => exact .tup rfl fun i h _ => ih (List.all_eq_true.1 (show cs.toList.all (flatN n) = true from hf) _ (by simp))
    | func f a b =>
      simp only [flatN, Bool.and_eq_true] at hf
      exact .fn rfl (fun i h _ => ih (List.all_eq_true.1 hf.1 _ (by simp))) rfl (fun i h _ => ih (List.all_eq_true.1 hf.2 _ (by simp)))
    | _ => exact .same (by simpa [flatN] using hf)
theorem VR.flat_eq {p : Ren} {v v' : Value} (h : VR p v v') (hf : flat v = true) : v' = v := flatN_eq 4 h hf
theorem flat_refl {p : Ren} {v : Value} (hf : flat v = true) : VR p v v := flatN_refl 4 hf

theorem VR.bool {p : Ren} {b : Bool} {v' : Value} (h : VR p (.bool b) v') : v' = .bool b := h.flat1_eq rfl
theorem VR.int {p : Ren} {k : IntKind} {n : Int} {v' : Value} (h : VR p (.int k n) v') : v' = .int k n := h.flat1_eq rfl
theorem VR.cells {p : Ren} {v v' : Value} (h : VR p v v') (hl : v ≠ lost) : AR p v.cells v'.cells := by
  cases h with
  | agg hs hv => exact ⟨hs, hv⟩
  | same hf =>
    cases v <;> first | exact ⟨rfl, fun i a b => by simp [Value.cells] at a; subst a; exact .same hf⟩ | (simp [flat1] at hf)
  | ptr hr => exact ⟨rfl, fun i a b => by simp [Value.cells] at a; subst a; exact .ptr hr⟩
  | sl hr hn hc ho => exact ⟨rfl, fun i a b => by simp [Value.cells] at a; subst a; exact .sl hr hn hc ho⟩
  | tup hs hv => exact ⟨rfl, fun i a b => by simp [Value.cells] at a; subst a; exact .tup hs hv⟩
  | emp => exact ⟨rfl, fun i a b => by simp [Value.cells] at a; subst a; exact .emp⟩
  | any h1 =>
    have hc : v'.cells = #[v'] := by cases v' <;> first | rfl | cases h1
    refine ⟨by rw [hc]; rfl, fun i a b => ?_⟩
    have hi : i = 0 := by simp [Value.cells] at a; exact a
    subst hi
    simp only [hc]
    exact .any h1
  | junk => exact absurd rfl hl
  | glob => exact ⟨rfl, fun i a b => by simp [Value.cells] at a; subst a; exact .glob⟩
  | fn hs hv ht hu => exact ⟨rfl, fun i a b => by simp [Value.cells] at a; subst a; exact .fn hs hv ht hu⟩
theorem VR.one {p : Ren} {v v' : Value} (h : VR p v v') (h1 : v.oneCell' = true) : v'.oneCell' = true := by cases h <;> first | assumption | cases h1 | rfl

/-- A named block: its cells; whether it is the call's own, and may be written now. -/
structure ABlk where
  cells : List Value
  own : Bool
  wr : Bool
  esz : Nat
abbrev AH := List (Option ABlk)

/-- What a named block says of the world. -/
structure BR (p : Ren) (w : World) (b : ABlk) (r : Rb) : Prop where
  lt : r.blk < w.heap.size
  cell : ∀ k v, b.cells[k]? = some v → ∃ v', w.cell? ⟨r.blk, r.base + k, none⟩ = some v' ∧ VR p v v'
  own : b.own = true → r.own = true ∧ r.base = 0 ∧ r.esz = b.esz ∧ ∃ c e, w.heap[r.blk]? = some (.cells c e (0, 0)) ∧ c.size = r.room
  wr : b.wr = true → b.own = true
  same : r.own = b.own

/-- The package's variables whose contents are known: their blocks and their cells. -/
def globs : List (Nat × List Value) := [(5, [.int .u64 1, .int .u64 10, .int .u64 100, .int .u64 1000, .int .u64 10000, .int .u64 100000, .int .u64 1000000, .int .u64 10000000, .int .u64 100000000, .int .u64 1000000000, .int .u64 10000000000, .int .u64 100000000000, .int .u64 1000000000000, .int .u64 10000000000000, .int .u64 100000000000000, .int .u64 1000000000000000, .int .u64 10000000000000000, .int .u64 100000000000000000, .int .u64 1000000000000000000, .int .u64 10000000000000000000])]
def isGlob (k : Nat) : Prop := ∃ cs, (k, cs) ∈ globs
/-- They hold what is known of them. -/
def GlobOk (w : World) : Prop := ∀ k cs, (k, cs) ∈ globs → k < w.heap.size ∧ ∀ (j : Nat) v, cs[j]? = some v → flat1 v = true ∧ w.cell? ⟨k, j, none⟩ = some v
theorem cell_of_heap {w w' : World} {k j : Nat} (h : w'.heap[k]? = w.heap[k]?) : w'.cell? ⟨k, j, none⟩ = w.cell? ⟨k, j, none⟩ := by
  unfold World.cell?
  simp only [h]
theorem GlobOk.keep {w w' : World} (h : GlobOk w) (hz : w.heap.size ≤ w'.heap.size) (hb : ∀ k, isGlob k → k < w.heap.size → w'.heap[k]? = w.heap[k]?) : GlobOk w' := fun k cs hk => by
  obtain ⟨h1, h2⟩ := h k cs hk
  refine ⟨by omega, fun j v hj => ?_⟩
  rw [cell_of_heap (hb k ⟨cs, hk⟩ h1)]
  exact h2 j v hj
theorem GlobOk.lt {w : World} (h : GlobOk w) {k : Nat} (hk : isGlob k) : k < w.heap.size := by obtain ⟨cs, h1⟩ := hk; exact (h k cs h1).1

structure SR (p : Ren) (H : AH) (w : World) : Prop where
  dom : ∀ id r, p id = some r → id < H.length
  blk : ∀ id b, H[id]? = some (some b) → ∃ r, p id = some r ∧ BR p w b r
  inj : ∀ id id' b b' r r', H[id]? = some (some b) → H[id']? = some (some b') → b.wr = true → id ≠ id' → p id = some r → p id' = some r' → r.blk ≠ r'.blk

/-- The known variables hold what is known of them, and none of them may be written. -/
structure Gl (p : Ren) (H : AH) (w : World) : Prop where
  gl : GlobOk w
  ng : ∀ id b r, H[id]? = some (some b) → b.wr = true → p id = some r → ¬ isGlob r.blk
theorem Gl.empty {w : World} (h : GlobOk w) : Gl (fun _ => none) [] w := ⟨h, fun _ _ _ h => by simp at h⟩

/-- Is block k one that may be written? -/
def Wr (p : Ren) (H : AH) (k : Nat) : Prop := ∃ id b r, H[id]? = some (some b) ∧ b.wr = true ∧ p id = some r ∧ r.blk = k

/-- A step from one state to the next: what was there is as it was, but for blocks that may be written. -/
structure St (p : Ren) (H : AH) (w : World) (p' : Ren) (H' : AH) (w' : World) : Prop where
  os : w'.os = w.os
  tape : w'.tape = w.tape
  output : w'.output = w.output
  size : w.heap.size ≤ w'.heap.size
  block : ∀ k, k < w.heap.size → ¬ Wr p H k → w'.heap[k]? = w.heap[k]?
  ext : Ext p p'
  old : ∀ id, id < H.length → p' id = p id
  len : H.length ≤ H'.length
  sr : SR p' H' w'
  fresh : ∀ id r, p' id = some r → H.length ≤ id → w.heap.size ≤ r.blk ∨ Wr p H r.blk
  ro : ∀ (id : Nat) (b : ABlk), H[id]? = some (some b) → b.wr = false → H'[id]? = some (some b)
  oown : ∀ (id : Nat) (b' : ABlk), id < H.length → H'[id]? = some (some b') → b'.wr = true → ∃ b, H[id]? = some (some b) ∧ b.wr = true

theorem St.glob {p p' : Ren} {H H' : AH} {w w' : World} (h : St p H w p' H' w') (g : Gl p H w) : Gl p' H' w' := by
  have nw : ∀ k, isGlob k → ¬ Wr p H k := fun k hk ⟨id, b, r, h1, h2, h3, h4⟩ => g.ng id b r h1 h2 h3 (h4 ▸ hk)
  refine ⟨g.gl.keep h.size fun k hk hl => h.block k hl (nw k hk), fun id b r hb hw hr hg => ?_⟩
  by_cases hl : id < H.length
  · obtain ⟨b0, h0, h1⟩ := h.oown id b hl hb hw
    rw [h.old id hl] at hr
    exact g.ng id b0 r h0 h1 hr hg
  · rcases h.fresh id r hr (by omega) with h2 | h2
    · have := g.gl.lt hg; omega
    · exact nw _ hg h2

theorem St.refl {p : Ren} {H : AH} {w : World} (h : SR p H w) : St p H w p H w :=
  ⟨rfl, rfl, rfl, Nat.le_refl _, fun _ _ _ => rfl, .refl _, fun _ _ => rfl, Nat.le_refl _, h, fun id r hr hl => absurd (h.dom id r hr) (by omega), fun _ _ h _ => h, fun _ b' _ h hb => ⟨b', h, hb⟩⟩

theorem St.wr {p p' : Ren} {H H' : AH} {w w' : World} (hs : SR p H w) (h : St p H w p' H' w') {k : Nat} (hk : Wr p' H' k) : w.heap.size ≤ k ∨ Wr p H k := by
  obtain ⟨id, b, r, hb, hrw, hr, rfl⟩ := hk
  by_cases hl : id < H.length
  · obtain ⟨b0, h0, h1⟩ := h.oown id b hl hb hrw
    obtain ⟨r0, hr0, _⟩ := hs.blk id b0 h0
    have := h.ext id r0 hr0
    rw [hr] at this; injection this with this; subst this
    exact .inr ⟨id, b0, r, h0, h1, hr0, rfl⟩
  · exact h.fresh id r hr (by omega)

theorem St.trans {p q s : Ren} {H K L : AH} {w u x : World} (hs : SR p H w) (h : St p H w q K u) (k : St q K u s L x) : St p H w s L x where
  os := k.os.trans h.os
  tape := k.tape.trans h.tape
  output := k.output.trans h.output
  size := Nat.le_trans h.size k.size
  block n hn hw := (k.block n (Nat.lt_of_lt_of_le hn h.size) fun hk => (h.wr hs hk).elim (fun hle => by omega) hw).trans (h.block n hn hw)
  ext := h.ext.trans k.ext
  old id hl := (k.old id (Nat.lt_of_lt_of_le hl h.len)).trans (h.old id hl)
  len := Nat.le_trans h.len k.len
  sr := k.sr
  fresh id r hr hl := by
    by_cases hK : id < K.length
    · rcases hq : q id with _ | r0
      · rw [k.old id hK, hq] at hr; cases hr
      · have := k.ext id r0 hq
        rw [hr] at this; injection this with this; subst this
        exact h.fresh id r hq hl
    · rcases k.fresh id r hr (by omega) with hle | hw
      · exact .inl (Nat.le_trans h.size hle)
      · exact h.wr hs hw
  ro id b hb hrw := k.ro id b (h.ro id b hb hrw) hrw
  oown id b' hl hb hrw := by
    obtain ⟨b1, h1, h2⟩ := k.oown id b' (Nat.lt_of_lt_of_le hl h.len) hb hrw
    exact h.oown id b1 hl h1 h2
end Go.Proofs.YtfpcmckachpnpaaDoor.Vx
