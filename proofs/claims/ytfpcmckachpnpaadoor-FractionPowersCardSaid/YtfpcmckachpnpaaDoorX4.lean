/- What becomes of the naming of blocks when memory is made, read and written. -/
import Derived.Test.YtfpcmckachpnpaaDoorX3
namespace Go.Proofs.YtfpcmckachpnpaaDoor.Vx
open Go Go.RowKit

theorem BR.mono {p q : Ren} (h : Ext p q) {w : World} {b : ABlk} {r : Rb} (k : BR p w b r) : BR q w b r :=
  ⟨k.lt, fun i v hv => let ⟨v', h1, h2⟩ := k.cell i v hv; ⟨v', h1, h2.mono h⟩, k.own, k.wr, k.same⟩
theorem BR.keep {p : Ren} {w w' : World} {b : ABlk} {r : Rb} (k : BR p w b r) (hs : w.heap.size ≤ w'.heap.size) (hb : w'.heap[r.blk]? = w.heap[r.blk]?) : BR p w' b r :=
  ⟨Nat.lt_of_lt_of_le k.lt hs, fun i v hv => let ⟨v', h1, h2⟩ := k.cell i v hv; ⟨v', by rw [World.cell?_of_block (w := w) hb]; exact h1, h2⟩,
    fun ho => let ⟨h1, h2, h3, c, e, h4, h5⟩ := k.own ho; ⟨h1, h2, h3, c, e, by rw [hb]; exact h4, h5⟩, k.wr, k.same⟩

def Ren.add (p : Ren) (id : Nat) (r : Rb) : Ren := fun x => if x = id then some r else p x
theorem Ren.add_self (p : Ren) (id : Nat) (r : Rb) : p.add id r id = some r := by simp [Ren.add]
theorem Ren.add_other (p : Ren) {id x : Nat} (r : Rb) (h : x ≠ id) : p.add id r x = p x := by simp [Ren.add, h]

theorem live_some {H : AH} {id : Nat} {b : ABlk} (h : live H id = some b) : H[id]? = some (some b) := by
  unfold live at h
  split at h
  · rename_i b' hb; injection h with h; subst h; exact hb
  · cases h

theorem SR.ext_add {p : Ren} {H : AH} {w : World} (hs : SR p H w) (r : Rb) : Ext p (p.add H.length r) := fun id r' h => by
  rw [Ren.add_other _ _ (Nat.ne_of_lt (hs.dom id r' h))]; exact h

/-- A new block. -/
theorem new_ok {p : Ren} {H : AH} {w : World} (hs : SR p H w) (cells : List Value) (c : Array Value) (e : TypeId) (z : Nat)
    (hc : ∀ (k : Nat) (v : Value), cells[k]? = some v → ∃ v', c[k]? = some v' ∧ VR p v v') :
    St p H w (p.add H.length ⟨w.heap.size, 0, c.size, z, true⟩) (H ++ [some ⟨cells, true, true, z⟩]) { w with heap := w.heap.push (.cells c e) } := by
  have hx := hs.ext_add ⟨w.heap.size, 0, c.size, z, true⟩
  have hpush : ∀ k, k < w.heap.size → (w.heap.push (.cells c e))[k]? = w.heap[k]? := fun k hk => by rw [Array.getElem?_push, if_neg (by omega)]
  have hnew : (w.heap.push (.cells c e))[w.heap.size]? = some (.cells c e (0, 0)) := by simp
  have old : ∀ (id : Nat) (b : ABlk), (H ++ [some (⟨cells, true, true, z⟩ : ABlk)])[id]? = some (some b) → (H[id]? = some (some b) ∧ id < H.length) ∨ (id = H.length ∧ b = ⟨cells, true, true, z⟩) := by
    intro id b h
    by_cases hl : id < H.length
    · rw [List.getElem?_append_left hl] at h; exact .inl ⟨h, hl⟩
    · rw [List.getElem?_append_right (by omega)] at h
      have : id - H.length = 0 := by
        cases hd : id - H.length with
        | zero => rfl
        | succ n => rw [hd] at h; simp at h
      rw [this] at h
      simp at h
      exact .inr ⟨by omega, h.symm⟩
  constructor
  · rfl
  · rfl
  · rfl
  · simp
  · intro k hk _; exact hpush k hk
  · exact hx
  · intro id hl; exact Ren.add_other _ _ (by omega)
  · simp
  · constructor
    · intro id r hr
      by_cases h : id = H.length
      · subst h; simp
      · rw [Ren.add_other _ _ h] at hr; have := hs.dom id r hr; simp; omega
    · intro id b hb
      rcases old id b hb with ⟨h1, h2⟩ | ⟨rfl, rfl⟩
      · obtain ⟨r, hr, hbr⟩ := hs.blk id b h1
        exact ⟨r, hx id r hr, (hbr.mono hx).keep (by simp) (hpush _ hbr.lt)⟩
      · refine ⟨_, Ren.add_self _ _ _, ⟨by simp, fun k v hv => ?_, fun _ => ⟨rfl, rfl, rfl, c, e, hnew, rfl⟩, fun _ => rfl, rfl⟩⟩
        obtain ⟨v', h1, h2⟩ := hc k v hv
        exact ⟨v', by simp only [World.cell?, hnew, Nat.zero_add]; simpa using h1, h2.mono hx⟩
    · intro id id' b b' r r' hb hb' hwr hne hr hr'
      rcases old id b hb with ⟨h1, h2⟩ | ⟨rfl, rfl⟩ <;> rcases old id' b' hb' with ⟨h3, h4⟩ | ⟨rfl, rfl⟩
      · rw [Ren.add_other _ _ (by omega)] at hr hr'
        exact hs.inj id id' b b' r r' h1 h3 hwr hne hr hr'
      · rw [Ren.add_other _ _ (by omega)] at hr
        rw [Ren.add_self] at hr'
        injection hr' with hr'; subst hr'
        obtain ⟨r1, hr1, hbr⟩ := hs.blk id b h1
        rw [hr] at hr1; injection hr1 with hr1; subst hr1
        have := hbr.lt; simp only; omega
      · rw [Ren.add_other _ _ (by omega)] at hr'
        rw [Ren.add_self] at hr
        injection hr with hr; subst hr
        obtain ⟨r1, hr1, hbr⟩ := hs.blk id' b' h3
        rw [hr'] at hr1; injection hr1 with hr1; subst hr1
        have := hbr.lt; simp only; omega
      · exact absurd rfl hne
  · intro id r hr hl
    by_cases h : id = H.length
    · subst h; rw [Ren.add_self] at hr; injection hr with hr; subst hr; exact .inl (Nat.le_refl _)
    · rw [Ren.add_other _ _ h] at hr; exact absurd (hs.dom id r hr) (by omega)
  · intro id b hb _; rw [List.getElem?_append_left (List.getElem?_eq_some_iff.1 hb).1]; exact hb
  · intro id b' hl hb hwr; rw [List.getElem?_append_left hl] at hb; exact ⟨b', hb, hwr⟩

/-- A new block that nobody writes. -/
theorem new_ro {p : Ren} {H : AH} {w : World} (hs : SR p H w) (cells : List Value) (c : Array Value) (e : TypeId) (fz : Nat × Nat)
    (hc : ∀ (k : Nat) (v : Value), cells[k]? = some v → ∃ v', c[k]? = some v' ∧ VR p v v') :
    St p H w (p.add H.length ⟨w.heap.size, 0, c.size, 0, false⟩) (H ++ [some ⟨cells, false, false, 0⟩]) { w with heap := w.heap.push (.cells c e fz) } := by
  have hx := hs.ext_add ⟨w.heap.size, 0, c.size, 0, false⟩
  have hpush : ∀ k, k < w.heap.size → (w.heap.push (.cells c e fz))[k]? = w.heap[k]? := fun k hk => by rw [Array.getElem?_push, if_neg (by omega)]
  have hnew : (w.heap.push (.cells c e fz))[w.heap.size]? = some (.cells c e fz) := by simp
  have old : ∀ (id : Nat) (b : ABlk), (H ++ [some (⟨cells, false, false, 0⟩ : ABlk)])[id]? = some (some b) → (H[id]? = some (some b) ∧ id < H.length) ∨ (id = H.length ∧ b = ⟨cells, false, false, 0⟩) := by
    intro id b h
    by_cases hl : id < H.length
    · rw [List.getElem?_append_left hl] at h; exact .inl ⟨h, hl⟩
    · rw [List.getElem?_append_right (by omega)] at h
      have : id - H.length = 0 := by
        cases hd : id - H.length with
        | zero => rfl
        | succ n => rw [hd] at h; simp at h
      rw [this] at h
      simp at h
      exact .inr ⟨by omega, h.symm⟩
  constructor
  · rfl
  · rfl
  · rfl
  · simp
  · intro k hk _; exact hpush k hk
  · exact hx
  · intro id hl; exact Ren.add_other _ _ (by omega)
  · simp
  · constructor
    · intro id r hr
      by_cases h : id = H.length
      · subst h; simp
      · rw [Ren.add_other _ _ h] at hr; have := hs.dom id r hr; simp; omega
    · intro id b hb
      rcases old id b hb with ⟨h1, h2⟩ | ⟨rfl, rfl⟩
      · obtain ⟨r, hr, hbr⟩ := hs.blk id b h1
        exact ⟨r, hx id r hr, (hbr.mono hx).keep (by simp) (hpush _ hbr.lt)⟩
      · refine ⟨_, Ren.add_self _ _ _, ⟨by simp, fun k v hv => ?_, fun h => (by cases h), fun h => (by cases h), rfl⟩⟩
        obtain ⟨v', h1, h2⟩ := hc k v hv
        exact ⟨v', by simp only [World.cell?, hnew, Nat.zero_add]; simpa using h1, h2.mono hx⟩
    · intro id id' b b' r r' hb hb' hwr hne hr hr'
      rcases old id b hb with ⟨h1, h2⟩ | ⟨rfl, rfl⟩ <;> rcases old id' b' hb' with ⟨h3, h4⟩ | ⟨rfl, rfl⟩
      · rw [Ren.add_other _ _ (by omega)] at hr hr'
        exact hs.inj id id' b b' r r' h1 h3 hwr hne hr hr'
      · rw [Ren.add_other _ _ (by omega)] at hr
        rw [Ren.add_self] at hr'
        injection hr' with hr'; subst hr'
        obtain ⟨r1, hr1, hbr⟩ := hs.blk id b h1
        rw [hr] at hr1; injection hr1 with hr1; subst hr1
        have := hbr.lt; simp only; omega
      · rw [Ren.add_other _ _ (by omega)] at hr'
        rw [Ren.add_self] at hr
        injection hr with hr; subst hr
        obtain ⟨r1, hr1, hbr⟩ := hs.blk id' b' h3
        rw [hr'] at hr1; injection hr1 with hr1; subst hr1
        have := hbr.lt; simp only; omega
      · exact absurd rfl hne
  · intro id r hr hl
    by_cases h : id = H.length
    · subst h; rw [Ren.add_self] at hr; injection hr with hr; subst hr; exact .inl (Nat.le_refl _)
    · rw [Ren.add_other _ _ h] at hr; exact absurd (hs.dom id r hr) (by omega)
  · intro id b hb _; rw [List.getElem?_append_left (List.getElem?_eq_some_iff.1 hb).1]; exact hb
  · intro id b' hl hb hwr; rw [List.getElem?_append_left hl] at hb; exact ⟨b', hb, hwr⟩

theorem setRange_LR {p : Ren} {cs ds xs ys : List Value} (h : LR p cs ds) (k : LR p xs ys) (o : Nat) : LR p (setRange cs o xs) (setRange ds o ys) := by
  unfold setRange
  rw [k.1]
  exact ((h.take o).append k).append (h.drop _)

/-- A store into a named block that may be written. -/
theorem store_ok {P : Program} {p : Ren} {H H' : AH} {w : World} (hs : SR p H w) {id off : Nat} {xs ys : List Value} (hx : LR p xs ys) (h : astoreAt H id off xs = some H') :
    ∃ r w', p id = some r ∧ (storeCells ⟨r.blk, r.base + off, none⟩ ys).run P w = .ok () w' ∧ St p H w p H' w' := by
  unfold astoreAt at h
  cases hl : live H id with
  | none => rw [hl] at h; cases h
  | some b =>
    rw [hl] at h
    simp only at h
    split at h
    · rename_i hc
      simp only [Bool.and_eq_true, decide_eq_true_eq] at hc
      obtain ⟨⟨hwr, hlen⟩, hone⟩ := hc
      injection h with h
      have hb := live_some hl
      have hid : id < H.length := (List.getElem?_eq_some_iff.1 hb).1
      obtain ⟨r, hr, hbr⟩ := hs.blk id b hb
      obtain ⟨ho, hbase, hesz, c, e, hg, hroom⟩ := hbr.own (hbr.wr hwr)
      have hcell : ∀ (k : Nat) (v : Value), b.cells[k]? = some v → ∃ v', c[k]? = some v' ∧ VR p v v' := fun k v hv => by
        obtain ⟨v', h1, h2⟩ := hbr.cell k v hv
        refine ⟨v', ?_, h2⟩
        simpa [World.cell?, hg, hbase] using h1
      have hsz : b.cells.length ≤ c.size := by
        rcases Nat.lt_or_ge c.size b.cells.length with hlt | hge
        · obtain ⟨v', h1, _⟩ := hcell c.size _ (List.getElem?_eq_getElem hlt)
          simp at h1
        · exact hge
      have hyl := hx.1
      have hys : ∀ v ∈ ys, v.oneCell' = true := fun v hv => by
        obtain ⟨i, hi, rfl⟩ := List.getElem_of_mem hv
        have := hx.2 i (by omega) hi
        rw [this.one]
        exact List.all_eq_true.1 hone _ (by simp)
      have hrun := run_storeCells_at P r.blk off e ys 0 c w hg (by simp; omega) hys
      simp only [Nat.add_zero] at hrun
      refine ⟨r, _, hr, by rw [hbase, Nat.zero_add]; exact hrun, ?_⟩
      have hgn := setRow_heap w r.blk c (c.toList.take off ++ ys ++ c.toList.drop (off + ys.length)).toArray e (0, 0) hg
      have hoth : ∀ k, k ≠ r.blk → (w.setRow r.blk (c.toList.take off ++ ys ++ c.toList.drop (off + ys.length)).toArray).heap[k]? = w.heap[k]? := fun k hk => setRow_other w r.blk k _ hk
      have hnewcell : ∀ (k : Nat) (v : Value), (setRange b.cells off xs)[k]? = some v → ∃ v', (c.toList.take off ++ ys ++ c.toList.drop (off + ys.length))[k]? = some v' ∧ VR p v v' := by
        intro k v hv
        have hk : LR p b.cells (c.toList.take b.cells.length) := by
          refine ⟨by simp; omega, fun i a a' => ?_⟩
          obtain ⟨v', h1, h2⟩ := hcell i _ (List.getElem?_eq_getElem a)
          have : (c.toList.take b.cells.length)[i] = v' := by
            rw [List.getElem_take]
            rw [← Array.getElem?_toList] at h1
            exact (List.getElem?_eq_some_iff.1 h1).2
          rw [this]; exact h2
        obtain ⟨v', h1, h2⟩ := (setRange_LR hk hx off).get hv
        refine ⟨v', ?_, h2⟩
        have hlen2 : (setRange (c.toList.take b.cells.length) off ys).length = b.cells.length := by
          unfold setRange; simp; omega
        have hklt : k < b.cells.length := by have := (List.getElem?_eq_some_iff.1 h1).1; omega
        rw [← h1]
        unfold setRange
        have e1 : (c.toList.take b.cells.length).take off = c.toList.take off := by rw [List.take_take]; congr 1; omega
        have e2 : ∀ j, j < b.cells.length - (off + ys.length) → ((c.toList.take b.cells.length).drop (off + ys.length))[j]? = (c.toList.drop (off + ys.length))[j]? := by
          intro j hj; simp only [List.getElem?_drop, List.getElem?_take]; rw [if_pos (by omega)]
        rw [e1]
        have l1 : (c.toList.take off ++ ys).length = off + ys.length := by simp; omega
        generalize c.toList.take off ++ ys = A at l1 ⊢
        rcases Nat.lt_or_ge k (off + ys.length) with h3 | h3
        · rw [List.getElem?_append_left (by rw [l1]; exact h3), List.getElem?_append_left (by rw [l1]; exact h3)]
        · rw [List.getElem?_append_right (by rw [l1]; exact h3), List.getElem?_append_right (by rw [l1]; exact h3)]
          rw [e2 _ (by rw [l1]; omega)]
      have hset : ∀ (id' : Nat) (b' : ABlk), H'[id']? = some (some b') → (id' = id ∧ b' = { b with cells := setRange b.cells off xs }) ∨ (id' ≠ id ∧ H[id']? = some (some b')) := by
        intro id' b' hb'
        subst h
        by_cases he : id' = id
        · subst he; rw [List.getElem?_set_self hid] at hb'; simp at hb'; exact .inl ⟨rfl, hb'.symm⟩
        · rw [List.getElem?_set_ne (Ne.symm he)] at hb'; exact .inr ⟨he, hb'⟩
      constructor
      · rfl
      · rfl
      · rfl
      · simp
      · intro k hk hw
        refine hoth k fun he => hw ⟨id, b, r, hb, hwr, hr, he.symm⟩
      · exact .refl _
      · exact fun _ _ => rfl
      · subst h; simp
      · constructor
        · intro i r' hr'; have := hs.dom i r' hr'; subst h; simpa using this
        · intro id' b' hb'
          rcases hset id' b' hb' with ⟨rfl, rfl⟩ | ⟨hne, hb0⟩
          · refine ⟨r, hr, ⟨by simpa using hbr.lt, fun k v hv => ?_, fun _ => ⟨ho, hbase, hesz, _, e, hgn, ?_⟩, hbr.wr, hbr.same⟩⟩
            · obtain ⟨v', h1, h2⟩ := hnewcell k v hv
              refine ⟨v', ?_, h2⟩
              simp only [World.cell?, hgn, hbase, Nat.zero_add]
              simpa using h1
            · simp; omega
          · obtain ⟨r', hr', hbr'⟩ := hs.blk id' b' hb0
            refine ⟨r', hr', hbr'.keep (by simp) (hoth _ ?_)⟩
            exact (hs.inj id id' b b' r r' hb hb0 hwr (Ne.symm hne) hr hr').symm
        · intro i i' b1 b2 r1 r2 h1 h2 hw1 hne h3 h4
          have f : ∀ (i : Nat) (b1 : ABlk), H'[i]? = some (some b1) → ∃ b0, H[i]? = some (some b0) ∧ b0.wr = b1.wr := fun i b1 h1 => by
            rcases hset i b1 h1 with ⟨rfl, rfl⟩ | ⟨_, h1⟩
            · exact ⟨b, hb, rfl⟩
            · exact ⟨b1, h1, rfl⟩
          obtain ⟨c1, d1, e1⟩ := f i b1 h1
          obtain ⟨c2, d2, e2⟩ := f i' b2 h2
          exact hs.inj i i' c1 c2 r1 r2 d1 d2 (e1.trans hw1) hne h3 h4
      · intro i r' hr' hl'; exact absurd (hs.dom i r' hr') (by omega)
      · intro i b1 hb1 hw1
        have hne : i ≠ id := fun he => by subst he; rw [hb] at hb1; simp at hb1; subst hb1; rw [hwr] at hw1; cases hw1
        subst h; rw [List.getElem?_set_ne (Ne.symm hne)]; exact hb1
      · intro i b1 hl1 hb1 hw1
        rcases hset i b1 hb1 with ⟨rfl, rfl⟩ | ⟨_, h1⟩
        · exact ⟨b, hb, hwr⟩
        · exact ⟨b1, h1, hw1⟩
    · cases h

/-- What a named block's cells read as. -/
theorem cells_ok {p : Ren} {H : AH} {w : World} (hs : SR p H w) {id off n : Nat} {b : ABlk} (h : live H id = some b) (hn : off + n ≤ b.cells.length) :
    ∃ r ys, p id = some r ∧ LR p ((b.cells.drop off).take n) ys ∧ ys.length = n ∧ ∀ (j : Nat) (v : Value), ys[j]? = some v → w.cell? ((⟨r.blk, r.base + off, none⟩ : Addr).add j) = some v := by
  obtain ⟨r, hr, hbr⟩ := hs.blk id b (live_some h)
  have hadd : ∀ j, (⟨r.blk, r.base + off, none⟩ : Addr).add j = ⟨r.blk, r.base + (off + j), none⟩ := fun j => by
    unfold Addr.add; split
    · subst_vars; simp
    · simp [Nat.add_assoc]
  have hcell : ∀ j, j < n → ∃ v v', b.cells[off + j]? = some v ∧ w.cell? ((⟨r.blk, r.base + off, none⟩ : Addr).add j) = some v' ∧ VR p v v' := fun j hj => by
    obtain ⟨v', h1, h2⟩ := hbr.cell (off + j) _ (List.getElem?_eq_getElem (by omega))
    exact ⟨_, v', List.getElem?_eq_getElem (by omega), by rw [hadd]; exact h1, h2⟩
  refine ⟨r, (List.range n).map fun j => (w.cell? ((⟨r.blk, r.base + off, none⟩ : Addr).add j)).getD undef, hr, ⟨by simp; omega, fun i a a' => ?_⟩, by simp, fun j v hv => ?_⟩
  · have hi : i < n := by simp at a'; omega
    obtain ⟨v, v', h1, h2, h3⟩ := hcell i hi
    have e1 : ((b.cells.drop off).take n)[i] = v := by
      rw [List.getElem_take, List.getElem_drop]
      exact (List.getElem?_eq_some_iff.1 h1).2
    rw [e1]
    simp only [List.getElem_map, List.getElem_range, h2, Option.getD_some]
    exact h3
  · obtain ⟨hj, rfl⟩ := List.getElem?_eq_some_iff.1 hv
    have hi : j < n := by simpa using hj
    obtain ⟨v, v', h1, h2, h3⟩ := hcell j hi
    simp only [List.getElem_map, List.getElem_range, h2, Option.getD_some]
end Go.Proofs.YtfpcmckachpnpaaDoor.Vx
