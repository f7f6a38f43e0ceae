/- The run over a memory with names of its own answers what the model answers: append and copy, joined. -/
import Derived.Test.YtfpcmckachpnpaaDoorX8
namespace Go.Proofs.YtfpcmckachpnpaaDoor.Vx
open Go Go.RowKit

section
variable {P : Program} {p : Ren} {H H' : AH} {w : World} {t : Array Value} {a : Act} {v : Value} {o : Oper}

theorem addr_add (r : Rb) (off k : Nat) : (⟨r.blk, r.base + off, none⟩ : Addr).add k = ⟨r.blk, r.base + (off + k), none⟩ := by
  unfold Addr.add; split <;> simp_all [Nat.add_assoc]

/-- A block that grows in place goes on under a new name. -/
theorem grow_in (hs : SR p H w) {id : Nat} {b : ABlk} {r : Rb} (hb : H[id]? = some (some b)) (hwr : b.wr = true) (hr : p id = some r) {new ys : List Value} (hx : LR p new ys)
    (hone : new.all Value.oneCell' = true) {n0 : Nat} (hn0 : n0 ≤ b.cells.length) (hroom : n0 + new.length ≤ r.room) :
    ∃ w', (storeCells ⟨r.blk, n0, none⟩ ys).run P w = .ok () w' ∧ St p H w (p.add H.length r) ((H.set id none) ++ [some ⟨b.cells.take n0 ++ new, true, true, b.esz⟩]) w' := by
  have hid : id < H.length := (List.getElem?_eq_some_iff.1 hb).1
  obtain ⟨r', hr', hbr⟩ := hs.blk id b hb
  rw [hr] at hr'; injection hr' with hr'; subst hr'
  obtain ⟨ho, hbase, hesz, c, e, hg, hrm⟩ := hbr.own (hbr.wr hwr)
  have hcell : ∀ (k : Nat) (v : Value), b.cells[k]? = some v → ∃ v', c[k]? = some v' ∧ VR p v v' := fun k v hv => by
    obtain ⟨v', h1, h2⟩ := hbr.cell k v hv
    exact ⟨v', by simpa [World.cell?, hg, hbase] using h1, h2⟩
  have hyl := hx.1
  have hys : ∀ v ∈ ys, v.oneCell' = true := fun v hv => by
    obtain ⟨i, hi, rfl⟩ := List.getElem_of_mem hv
    rw [(hx.2 i (by omega) hi).one]
    exact List.all_eq_true.1 hone _ (by simp)
  have hrun := run_storeCells_at P r.blk n0 e ys 0 c w hg (by simp; omega) hys
  simp only [Nat.add_zero] at hrun
  refine ⟨_, hrun, ?_⟩
  generalize hrow : (c.toList.take n0 ++ ys ++ c.toList.drop (n0 + ys.length)) = row
  have hgn := setRow_heap w r.blk c row.toArray e (0, 0) hg
  have hoth : ∀ k, k ≠ r.blk → (w.setRow r.blk row.toArray).heap[k]? = w.heap[k]? := fun k hk => setRow_other w r.blk k _ hk
  have hxt := hs.ext_add r
  have hrowlen : row.length = r.room := by rw [← hrow]; simp; omega
  have hnew : ∀ (k : Nat) (v : Value), (b.cells.take n0 ++ new)[k]? = some v → ∃ v', row[k]? = some v' ∧ VR p v v' := by
    intro k v hv
    have hk : LR p (b.cells.take n0) (c.toList.take n0) := by
      refine ⟨by simp; omega, fun i a1 a2 => ?_⟩
      have a3 : i < b.cells.length := by simp at a1; omega
      obtain ⟨v', h1, h2⟩ := hcell i _ (List.getElem?_eq_getElem a3)
      have : (c.toList.take n0)[i] = v' := by
        rw [List.getElem_take]
        rw [← Array.getElem?_toList] at h1
        exact (List.getElem?_eq_some_iff.1 h1).2
      rw [this, List.getElem_take]; exact h2
    obtain ⟨v', h1, h2⟩ := (hk.append hx).get hv
    refine ⟨v', ?_, h2⟩
    rw [← hrow, List.getElem?_append_left (by have := (List.getElem?_eq_some_iff.1 h1).1; exact this)]
    exact h1
  have f : ∀ (i : Nat) (b1 : ABlk), ((H.set id none) ++ [some (⟨b.cells.take n0 ++ new, true, true, b.esz⟩ : ABlk)])[i]? = some (some b1) →
      (i ≠ id ∧ i < H.length ∧ H[i]? = some (some b1)) ∨ (i = H.length ∧ b1 = ⟨b.cells.take n0 ++ new, true, true, b.esz⟩) := fun i b1 h1 => by
    by_cases hl : i < H.length
    · rw [List.getElem?_append_left (by simpa using hl)] at h1
      by_cases he : i = id
      · subst he; rw [List.getElem?_set_self hid] at h1; simp at h1
      · rw [List.getElem?_set_ne (Ne.symm he)] at h1; exact .inl ⟨he, hl, h1⟩
    · rw [List.getElem?_append_right (by simp; omega)] at h1
      have h0 : i - (H.set id none).length = 0 := by
        cases hd : i - (H.set id none).length with
        | zero => rfl
        | succ n => rw [hd] at h1; simp at h1
      rw [h0] at h1; simp at h1
      simp at h0
      exact .inr ⟨by omega, h1.symm⟩
  have addo : ∀ {i : Nat}, i < H.length → (p.add H.length r) i = p i := fun h => Ren.add_other _ _ (by omega)
  constructor
  · rfl
  · rfl
  · rfl
  · simp
  · intro k hk hw; exact hoth k fun he => hw ⟨id, b, r, hb, hwr, hr, he.symm⟩
  · exact hxt
  · intro i hi; exact addo hi
  · simp
  · constructor
    · intro i r' hr'
      by_cases h : i = H.length
      · subst h; simp
      · rw [Ren.add_other _ _ h] at hr'; have := hs.dom i r' hr'; simp; omega
    · intro i b1 h1
      rcases f i b1 h1 with ⟨hne, hl, h0⟩ | ⟨rfl, rfl⟩
      · obtain ⟨r1, hr1, hb1⟩ := hs.blk i b1 h0
        exact ⟨r1, hxt i r1 hr1, (hb1.mono hxt).keep (by simp) (hoth _ (hs.inj id i b b1 r r1 hb h0 hwr (Ne.symm hne) hr hr1).symm)⟩
      · refine ⟨r, Ren.add_self _ _ _, ⟨by simpa using hbr.lt, fun k v hv => ?_, fun _ => ⟨ho, hbase, hesz, _, e, hgn, by simpa using hrowlen⟩, fun _ => rfl, ho⟩⟩
        obtain ⟨v', h3, h4⟩ := hnew k v hv
        refine ⟨v', ?_, h4.mono hxt⟩
        simp only [World.cell?, hgn, hbase, Nat.zero_add]
        simpa using h3
    · intro i i' b1 b2 r1 r2 h1 h2 hw1 hne h3 h4
      rcases f i b1 h1 with ⟨hne1, hl1, h01⟩ | ⟨rfl, rfl⟩ <;> rcases f i' b2 h2 with ⟨hne2, hl2, h02⟩ | ⟨rfl, rfl⟩
      · rw [addo hl1] at h3; rw [addo hl2] at h4
        exact hs.inj i i' b1 b2 r1 r2 h01 h02 hw1 hne h3 h4
      · rw [addo hl1] at h3; rw [Ren.add_self] at h4; injection h4 with h4; subst h4
        exact (hs.inj id i b b1 r r1 hb h01 hwr (Ne.symm hne1) hr h3).symm
      · rw [addo hl2] at h4; rw [Ren.add_self] at h3; injection h3 with h3; subst h3
        exact hs.inj id i' b b2 r r2 hb h02 hwr (Ne.symm hne2) hr h4
      · exact absurd rfl hne
  · intro i r' hr' hl
    by_cases h : i = H.length
    · subst h; rw [Ren.add_self] at hr'; injection hr' with hr'; subst hr'; exact .inr ⟨id, b, r, hb, hwr, hr, rfl⟩
    · rw [Ren.add_other _ _ h] at hr'; exact absurd (hs.dom i r' hr') (by omega)
  · intro i b1 h1 hw1
    have hne : i ≠ id := fun he => by subst he; rw [hb] at h1; simp at h1; subst h1; rw [hwr] at hw1; cases hw1
    have hl := (List.getElem?_eq_some_iff.1 h1).1
    rw [List.getElem?_append_left (by simpa using hl), List.getElem?_set_ne (Ne.symm hne)]; exact h1
  · intro i b1 hl h1 hw1
    rcases f i b1 h1 with ⟨_, _, h0⟩ | ⟨rfl, _⟩
    · exact ⟨b1, h0, hw1⟩
    · omega

/-- A block that grows in place, and what it was beside it: neither is written from then on. -/
theorem grow_share (hs : SR p H w) {id : Nat} {b : ABlk} {r : Rb} (hb : H[id]? = some (some b)) (hwr : b.wr = true) (hr : p id = some r) {new ys : List Value} (hx : LR p new ys)
    (hone : new.all Value.oneCell' = true) {n0 : Nat} (hn0 : n0 ≤ b.cells.length) (hroom : n0 + new.length ≤ r.room) :
    ∃ w', (storeCells ⟨r.blk, n0, none⟩ ys).run P w = .ok () w' ∧ St p H w (p.add H.length r) ((H.set id (some { b with cells := b.cells.take n0, wr := false })) ++ [some ⟨b.cells.take n0 ++ new, true, false, b.esz⟩]) w' := by
  have hid : id < H.length := (List.getElem?_eq_some_iff.1 hb).1
  obtain ⟨r', hr', hbr⟩ := hs.blk id b hb
  rw [hr] at hr'; injection hr' with hr'; subst hr'
  obtain ⟨ho, hbase, hesz, c, e, hg, hrm⟩ := hbr.own (hbr.wr hwr)
  have hcell : ∀ (k : Nat) (v : Value), b.cells[k]? = some v → ∃ v', c[k]? = some v' ∧ VR p v v' := fun k v hv => by
    obtain ⟨v', h1, h2⟩ := hbr.cell k v hv
    exact ⟨v', by simpa [World.cell?, hg, hbase] using h1, h2⟩
  have hyl := hx.1
  have hys : ∀ v ∈ ys, v.oneCell' = true := fun v hv => by
    obtain ⟨i, hi, rfl⟩ := List.getElem_of_mem hv
    rw [(hx.2 i (by omega) hi).one]
    exact List.all_eq_true.1 hone _ (by simp)
  have hrun := run_storeCells_at P r.blk n0 e ys 0 c w hg (by simp; omega) hys
  simp only [Nat.add_zero] at hrun
  refine ⟨_, hrun, ?_⟩
  generalize hrow : (c.toList.take n0 ++ ys ++ c.toList.drop (n0 + ys.length)) = row
  have hgn := setRow_heap w r.blk c row.toArray e (0, 0) hg
  have hoth : ∀ k, k ≠ r.blk → (w.setRow r.blk row.toArray).heap[k]? = w.heap[k]? := fun k hk => setRow_other w r.blk k _ hk
  have hxt := hs.ext_add r
  have hrowlen : row.length = r.room := by rw [← hrow]; simp; omega
  have hnew : ∀ (k : Nat) (v : Value), (b.cells.take n0 ++ new)[k]? = some v → ∃ v', row[k]? = some v' ∧ VR p v v' := by
    intro k v hv
    have hk : LR p (b.cells.take n0) (c.toList.take n0) := by
      refine ⟨by simp; omega, fun i a1 a2 => ?_⟩
      have a3 : i < b.cells.length := by simp at a1; omega
      obtain ⟨v', h1, h2⟩ := hcell i _ (List.getElem?_eq_getElem a3)
      have : (c.toList.take n0)[i] = v' := by
        rw [List.getElem_take]
        rw [← Array.getElem?_toList] at h1
        exact (List.getElem?_eq_some_iff.1 h1).2
      rw [this, List.getElem_take]; exact h2
    obtain ⟨v', h1, h2⟩ := (hk.append hx).get hv
    refine ⟨v', ?_, h2⟩
    rw [← hrow, List.getElem?_append_left (by have := (List.getElem?_eq_some_iff.1 h1).1; exact this)]
    exact h1
  have f : ∀ (i : Nat) (b1 : ABlk), ((H.set id (some { b with cells := b.cells.take n0, wr := false })) ++ [some (⟨b.cells.take n0 ++ new, true, false, b.esz⟩ : ABlk)])[i]? = some (some b1) →
      (i ≠ id ∧ i < H.length ∧ H[i]? = some (some b1)) ∨ (i = id ∧ b1 = { b with cells := b.cells.take n0, wr := false }) ∨ (i = H.length ∧ b1 = ⟨b.cells.take n0 ++ new, true, false, b.esz⟩) := fun i b1 h1 => by
    by_cases hl : i < H.length
    · rw [List.getElem?_append_left (by simpa using hl)] at h1
      by_cases he : i = id
      · subst he; rw [List.getElem?_set_self hid] at h1; simp at h1; exact .inr (.inl ⟨rfl, h1.symm⟩)
      · rw [List.getElem?_set_ne (Ne.symm he)] at h1; exact .inl ⟨he, hl, h1⟩
    · rw [List.getElem?_append_right (by simp; omega)] at h1
      have h0 : i - (H.set id (some { b with cells := b.cells.take n0, wr := false })).length = 0 := by
        cases hd : i - (H.set id (some { b with cells := b.cells.take n0, wr := false })).length with
        | zero => rfl
        | succ n => rw [hd] at h1; simp at h1
      rw [h0] at h1; simp at h1
      simp at h0
      exact .inr (.inr ⟨by omega, h1.symm⟩)
  have addo : ∀ {i : Nat}, i < H.length → (p.add H.length r) i = p i := fun h => Ren.add_other _ _ (by omega)
  constructor
  · rfl
  · rfl
  · rfl
  · simp
  · intro k hk hw; exact hoth k fun he => hw ⟨id, b, r, hb, hwr, hr, he.symm⟩
  · exact hxt
  · intro i hi; exact addo hi
  · simp
  · constructor
    · intro i r' hr'
      by_cases h : i = H.length
      · subst h; simp
      · rw [Ren.add_other _ _ h] at hr'; have := hs.dom i r' hr'; simp; omega
    · intro i b1 h1
      rcases f i b1 h1 with ⟨hne, hl, h0⟩ | ⟨rfl, rfl⟩ | ⟨rfl, rfl⟩
      · obtain ⟨r1, hr1, hb1⟩ := hs.blk i b1 h0
        exact ⟨r1, hxt i r1 hr1, (hb1.mono hxt).keep (by simp) (hoth _ (hs.inj id i b b1 r r1 hb h0 hwr (Ne.symm hne) hr hr1).symm)⟩
      · refine ⟨r, hxt _ r hr, ⟨by simpa using hbr.lt, fun k v hv => ?_, fun _ => ⟨ho, hbase, hesz, _, e, hgn, by simpa using hrowlen⟩, fun h => (by cases h), hbr.same⟩⟩
        have hv : (b.cells.take n0 ++ new)[k]? = some v := by rw [List.getElem?_append_left (List.getElem?_eq_some_iff.1 hv).1]; exact hv
        obtain ⟨v', h3, h4⟩ := hnew k v hv
        refine ⟨v', ?_, h4.mono hxt⟩
        simp only [World.cell?, hgn, hbase, Nat.zero_add]
        simpa using h3
      · refine ⟨r, Ren.add_self _ _ _, ⟨by simpa using hbr.lt, fun k v hv => ?_, fun _ => ⟨ho, hbase, hesz, _, e, hgn, by simpa using hrowlen⟩, fun h => (by cases h), ho⟩⟩
        obtain ⟨v', h3, h4⟩ := hnew k v hv
        refine ⟨v', ?_, h4.mono hxt⟩
        simp only [World.cell?, hgn, hbase, Nat.zero_add]
        simpa using h3
    · intro i i' b1 b2 r1 r2 h1 h2 hw1 hne h3 h4
      rcases f i b1 h1 with ⟨hne1, hl1, h01⟩ | ⟨rfl, rfl⟩ | ⟨rfl, rfl⟩
      · rw [addo hl1] at h3
        rcases f i' b2 h2 with ⟨hne2, hl2, h02⟩ | ⟨rfl, rfl⟩ | ⟨rfl, rfl⟩
        · rw [addo hl2] at h4
          exact hs.inj i i' b1 b2 r1 r2 h01 h02 hw1 hne h3 h4
        · rw [addo hid] at h4
          exact hs.inj i i' b1 b r1 r2 h01 hb hw1 hne h3 h4
        · rw [Ren.add_self] at h4; injection h4 with h4; subst h4
          exact (hs.inj id i b b1 r r1 hb h01 hwr (Ne.symm hne1) hr h3).symm
      · cases hw1
      · cases hw1
  · intro i r' hr' hl
    by_cases h : i = H.length
    · subst h; rw [Ren.add_self] at hr'; injection hr' with hr'; subst hr'; exact .inr ⟨id, b, r, hb, hwr, hr, rfl⟩
    · rw [Ren.add_other _ _ h] at hr'; exact absurd (hs.dom i r' hr') (by omega)
  · intro i b1 h1 hw1
    have hne : i ≠ id := fun he => by subst he; rw [hb] at h1; simp at h1; subst h1; rw [hwr] at hw1; cases hw1
    have hl := (List.getElem?_eq_some_iff.1 h1).1
    rw [List.getElem?_append_left (by simpa using hl), List.getElem?_set_ne (Ne.symm hne)]; exact h1
  · intro i b1 hl h1 hw1
    rcases f i b1 h1 with ⟨_, _, h0⟩ | ⟨rfl, rfl⟩ | ⟨rfl, _⟩
    · exact ⟨b1, h0, hw1⟩
    · cases hw1
    · omega

/-- A block may be forgotten in part, and be left as it is from then on. -/
theorem still_ok (hs : SR p H w) {id : Nat} {b : ABlk} (hb : H[id]? = some (some b)) (hw : b.wr = true) (n0 : Nat) : St p H w p (H.set id (some { b with cells := b.cells.take n0, wr := false })) w := by
  have hid : id < H.length := (List.getElem?_eq_some_iff.1 hb).1
  have f : ∀ (i : Nat) (b1 : ABlk), (H.set id (some { b with cells := b.cells.take n0, wr := false }))[i]? = some (some b1) →
      (i ≠ id ∧ H[i]? = some (some b1)) ∨ (i = id ∧ b1 = { b with cells := b.cells.take n0, wr := false }) := fun i b1 h1 => by
    by_cases he : i = id
    · subst he; rw [List.getElem?_set_self hid] at h1; simp at h1; exact .inr ⟨rfl, h1.symm⟩
    · rw [List.getElem?_set_ne (Ne.symm he)] at h1; exact .inl ⟨he, h1⟩
  refine ⟨rfl, rfl, rfl, Nat.le_refl _, fun _ _ _ => rfl, .refl _, fun _ _ => rfl, by simp, ⟨fun i r hr => by simpa using hs.dom i r hr, fun i b1 h1 => ?_, fun i i' b1 b2 r1 r2 h1 h2 hw1 hne h3 h4 => ?_⟩,
    fun i r hr hl => absurd (hs.dom i r hr) (by omega), fun i b1 h1 hw1 => ?_, fun i b1 _ h1 hw1 => ?_⟩
  · rcases f i b1 h1 with ⟨_, h0⟩ | ⟨rfl, rfl⟩
    · exact hs.blk i b1 h0
    · obtain ⟨r, hr, hbr⟩ := hs.blk _ b hb
      refine ⟨r, hr, hbr.lt, fun k v hv => hbr.cell k v ?_, hbr.own, fun h => (by cases h), hbr.same⟩
      have := (List.getElem?_eq_some_iff.1 hv).1
      simp only [List.length_take] at this
      rw [List.getElem?_take, if_pos (by omega)] at hv; exact hv
  · rcases f i b1 h1 with ⟨_, h01⟩ | ⟨rfl, rfl⟩
    · rcases f i' b2 h2 with ⟨_, h02⟩ | ⟨rfl, rfl⟩
      · exact hs.inj i i' b1 b2 r1 r2 h01 h02 hw1 hne h3 h4
      · exact hs.inj i i' b1 b r1 r2 h01 hb hw1 hne h3 h4
    · cases hw1
  · have hne : i ≠ id := fun he => by subst he; rw [hb] at h1; simp at h1; subst h1; rw [hw] at hw1; cases hw1
    rw [List.getElem?_set_ne (Ne.symm hne)]; exact h1
  · rcases f i b1 h1 with ⟨_, h0⟩ | ⟨rfl, rfl⟩
    · exact ⟨b1, h0, hw1⟩
    · cases hw1

theorem VR.slNew {q : Ren} {L n k g room esz : Nat} (hq : q L = some ⟨g, 0, room, esz, true⟩) (hn : n ≤ k) (hr : k * esz ≤ room) : VR q (.slice (some ⟨L, 0, none⟩) n 0) (.slice (some ⟨g, 0, none⟩) n k) := by
  have := VR.sl (p := q) (id := L) (off := 0) (n := n) (c := 0) (c' := k) hq hn (fun h => absurd rfl h) (fun _ _ => by simpa using hr)
  simpa using this

set_option maxHeartbeats 800000 in
theorem append_gives (hs : SR p H w) {c : Call} {s x : Operand} {T T' : TypeId} {d' : TypeDesc} (ho : o.op = .call c) (hc : c.callee = .builtin .append) (hx : c.args = #[s, x]) (hT : c.argTypes = #[T, T'])
    (hks : VR p (aev t s) (a.eval s)) (hkx : VR p (aev t x) (a.eval x)) (hu' : P.underlying T' = some d') (hd' : d' = .string ∨ ∃ e', d' = .slice e') {pos : String} (h : aappend P T pos (aev t s) (aev t x) H = some (v, H')) : Gives P o a p H w v H' := by
  have h1 := hks
  have h2 := hkx
  have run : ∀ {v' : Value} {w' : World}, (Builtin.append_ #[T, T'] o.type #[a.eval s, a.eval x]).run P w = .ok v' w' → (execOp a.eval o).run P w = .ok (.value v') w' := by
    intro v' w' hr
    simp only [execOp, ho, resolve, hc, hx, hT, Sem.run_bind, Sem.run_pure, Result.andThen_ok, invoke, builtin, List.map_toArray, List.map_cons, List.map_nil, hr]
  unfold aappend at h
  split at h
  · rename_i e hu
    split at h
    · rename_i i hi
      split at h
      · rename_i m new z hsrc hz
        obtain ⟨i', u, hi', hu0, rfl, hfl, hzr, hzs⟩ := pureRun_zero hz
        rw [hi] at hi'; injection hi' with hi'; subst hi'
        split at h
        · cases h
        · rename_i hone
          have hone : new.all Value.oneCell' = true := by simpa using hone
          obtain ⟨ys, hlen, hf, hlr, hyl⟩ := src_ok (P := P) hs h2 hsrc
          have hf0 : (Builtin.firstCells i.size m (a.eval x)).run P w = .ok ys.toArray w := by
            have := hf w.drawn; exact this
          have newcells : ∀ (us0 us : List Value), LR p us0 us → us.length = us0.length → ∀ (rest : Array Value) (k : Nat) (v : Value), (us0 ++ new)[k]? = some v → ∃ v', (us.toArray ++ ys.toArray ++ rest)[k]? = some v' ∧ VR p v v' := by
            intro us0 us hus hul rest k v hv
            obtain ⟨v', h3, h4⟩ := (hus.append hlr).get hv
            refine ⟨v', ?_, h4⟩
            rw [Array.getElem?_append_left (by have := (List.getElem?_eq_some_iff.1 h3).1; simpa using this)]
            simpa using h3
          split at h
          · -- a nil slice
            rename_i hse
            have hse := (hse ▸ h1 : VR p (.slice none 0 0) (a.eval s)).flat1_eq rfl
            split at h
            · rename_i hm
              subst hm
              simp only [Option.some.injEq, Prod.mk.injEq] at h
              obtain ⟨rfl, rfl⟩ := h
              exact ⟨p, .slice none 0 0, w, .inl (run (by rw [hse]; exact append_in_nil hu hu' hd' hi hlen hf0)), .same rfl, .refl hs⟩
            · rename_i hm
              split at h
              · rename_i hb
                simp only [Option.some.injEq, Prod.mk.injEq] at h
                obtain ⟨rfl, rfl⟩ := h
                obtain ⟨k, rest, hk, hr, hrs⟩ := append_new (P := P) (T := T) (T' := T') (ty := o.type) (base := none) (n := 0) (c := 0) (us := []) hu hu' hd' hi hzr hlen (fun d => by simp [Builtin.firstCells]) hf (by omega) (by simpa using hb.1) (by simpa using hb.2)
                have st := new_ok hs new (([] : List Value).toArray ++ ys.toArray ++ rest) e i.size (fun k v hv => newcells [] [] .nil rfl rest k v (by simpa using hv))
                refine ⟨_, _, _, .inl (run (by rw [hse]; exact hr)), ?_, st.trans hs (drew_ok st.sr (w.drawn + 1))⟩
                rw [Nat.zero_add]
                refine VR.slNew (Ren.add_self _ _ _) (by omega) ?_
                simp only [List.size_toArray, Array.size_append, List.length_nil, hrs, hyl, hzs, Nat.zero_add]
                rw [← Nat.add_mul]; exact Nat.mul_le_mul_right _ (by omega)
              · cases h
          · -- a slice of a named block
            rename_i id off n cc hse
            rw [hse] at h1
            generalize hae : a.eval s = s' at h1 run
            cases h1 with
            | same hf => simp [flat1] at hf
            | sl hr hn hcc hroom =>
              rename_i c' r
              split at h
              · rename_i b hl
                have hb := live_some hl
                obtain ⟨r', hr', hbr⟩ := hs.blk id b hb
                rw [hr] at hr'; injection hr' with hr'; subst hr'
                split at h
                · rename_i hm
                  subst hm
                  simp only [Option.some.injEq, Prod.mk.injEq] at h
                  obtain ⟨rfl, rfl⟩ := h
                  have : ys = [] := List.eq_nil_of_length_eq_zero (by simpa using hyl)
                  subst this
                  refine ⟨p, _, w, .inl (run (append_in hu hu' hd' hi hlen hf0 (by omega) rfl)), (by rw [hse]; exact .sl hr (by omega) hcc hroom), .refl hs⟩
                · rename_i hm
                  split at h
                  · rename_i hfit
                    have hce := hcc hfit.1
                    subst hce
                    split at h
                    · rename_i H1 hst
                      simp only [Option.some.injEq, Prod.mk.injEq] at h
                      obtain ⟨rfl, rfl⟩ := h
                      obtain ⟨r', w', hr', hrun, hst'⟩ := store_ok (P := P) hs hlr hst
                      rw [hr] at hr'; injection hr' with hr'; subst hr'
                      exact ⟨p, _, w', .inl (run (append_in hu hu' hd' hi hlen hf0 hfit.2 (by rw [addr_add]; exact hrun))), .sl hr hfit.2 (fun _ => rfl) (fun h0 => absurd h0 hfit.1), hst'⟩
                    · cases h
                  · rename_i hfit
                    split at h
                    · cases h
                    · rename_i hb2
                      have hb2 : (i.bytes : Int) * ((n + m : Nat) : Int) ≤ 2 ^ 46 ∧ ((n + m : Nat) : Int) ≤ 2 ^ 46 := Decidable.not_not.1 hb2
                      split at h
                      · rename_i hc0
                        have hce := hcc hc0
                        subst hce
                        split at h
                        · rename_i hcl
                          simp only [Option.some.injEq, Prod.mk.injEq] at h
                          obtain ⟨rfl, rfl⟩ := h
                          obtain ⟨r', us, hr', hus, hul, hucell⟩ := cells_ok hs hl hcl
                          rw [hr] at hr'; injection hr' with hr'; subst hr'
                          obtain ⟨k, rest, hk, hrn, hrs⟩ := append_new (P := P) (T := T) (T' := T') (ty := o.type) (base := some ⟨r.blk, r.base + off, none⟩) (n := n) (c := cc) (us := us) hu hu' hd' hi hzr hlen (fun d => by
                            have := run_loadCells_list (P := P) { w with drawn := d } _ us hucell
                            rw [hul] at this
                            simpa [Builtin.firstCells] using this) hf (by omega) hb2.1 hb2.2
                          have st := new_ok hs ((b.cells.drop off).take (n * i.size) ++ new) (us.toArray ++ ys.toArray ++ rest) e i.size (fun k v hv => newcells _ us hus hus.1.symm rest k v hv)
                          refine ⟨_, _, _, .inl (run hrn), ?_, st.trans hs (drew_ok st.sr (w.drawn + 1))⟩
                          refine VR.slNew (Ren.add_self _ _ _) (by omega) ?_
                          simp only [List.size_toArray, Array.size_append, hrs, hyl, hzs, hul]
                          rw [← Nat.add_mul, ← Nat.add_mul]; exact Nat.mul_le_mul_right _ (by omega)
                        · cases h
                      · rename_i hc0
                        have hc0 : cc = 0 := by omega
                        subst hc0
                        split at h
                        · rename_i hall
                          obtain ⟨hwr, hown, hesz, hoff, hnb⟩ := hall
                          subst hoff
                          split at h
                          case isTrue =>
                            simp only [Option.some.injEq, Prod.mk.injEq] at h
                            obtain ⟨rfl, rfl⟩ := h
                            obtain ⟨ho1, hbase, hesz', cr, er, hg, hrm⟩ := hbr.own hown
                            have hroom := hroom rfl ho1
                            rcases Nat.lt_or_ge c' (n + m) with hlt | hge
                            · obtain ⟨r', us, hr', hus, hul, hucell⟩ := cells_ok (n := n * i.size) hs hl (off := 0) (by omega)
                              rw [hr] at hr'; injection hr' with hr'; subst hr'
                              obtain ⟨k, rest, hk, hrn, hrs⟩ := append_new (P := P) (T := T) (T' := T') (ty := o.type) (base := some ⟨r.blk, r.base + 0, none⟩) (n := n) (c := c') (us := us) hu hu' hd' hi hzr hlen (fun d => by
                                have := run_loadCells_list (P := P) { w with drawn := d } _ us hucell
                                rw [hul] at this
                                simpa [Builtin.firstCells] using this) hf (by omega) hb2.1 hb2.2
                              have hk0 := still_ok hs hb hwr (n * i.size)
                              have hus' : LR p (b.cells.take (n * i.size)) us := by rwa [List.drop_zero] at hus
                              have st := new_ok hk0.sr (b.cells.take (n * i.size) ++ new) (us.toArray ++ ys.toArray ++ rest) e i.size (fun k v hv => newcells _ us hus' hus'.1.symm rest k v hv)
                              have st1 := hk0.trans hs st
                              have st1' := st1.trans hs (still_ok st1.sr (id := H.length) (b := ⟨b.cells.take (n * i.size) ++ new, true, true, i.size⟩) (by simp) rfl ((b.cells.take (n * i.size) ++ new).length))
                              have he : ((H.set id (some { b with cells := b.cells.take (n * i.size), wr := false }) ++ [some (⟨b.cells.take (n * i.size) ++ new, true, true, i.size⟩ : ABlk)]).set H.length (some { (⟨b.cells.take (n * i.size) ++ new, true, true, i.size⟩ : ABlk) with cells := (b.cells.take (n * i.size) ++ new).take ((b.cells.take (n * i.size) ++ new).length), wr := false })) =
                                  (H.set id (some { b with cells := b.cells.take (n * i.size), wr := false }) ++ [some (⟨b.cells.take (n * i.size) ++ new, true, false, i.size⟩ : ABlk)]) := by
                                rw [List.take_length, List.set_append_right _ _ (by simp)]; simp
                              rw [he] at st1'
                              have st2 := st1'.trans hs (drew_ok st1'.sr (w.drawn + 1))
                              refine ⟨_, _, _, .inl (run hrn), ?_, st2⟩
                              have hadds := Ren.add_self p (H.set id (some { b with cells := b.cells.take (n * i.size), wr := false })).length (⟨w.heap.size, 0, (us.toArray ++ ys.toArray ++ rest).size, i.size, true⟩ : Rb)
                              simp only [List.length_set] at hadds
                              refine VR.slNew (room := (us.toArray ++ ys.toArray ++ rest).size) (esz := i.size) (by rw [List.length_set]; exact hadds) (by omega) ?_
                              simp only [List.size_toArray, Array.size_append, hrs, hyl, hzs, hul]
                              rw [← Nat.add_mul, ← Nat.add_mul]; exact Nat.mul_le_mul_right _ (by omega)
                            · have hnl := hlr.1
                              have hfits : n * i.size + new.length ≤ r.room := by
                                rw [hnl, hyl, ← Nat.add_mul]
                                have : (n + m) * i.size ≤ c' * r.esz := by rw [hesz', hesz]; exact Nat.mul_le_mul_right _ hge
                                omega
                              obtain ⟨w', hrun, st⟩ := grow_share (P := P) hs hb hwr hr hlr hone hnb hfits
                              rw [show ([some (⟨b.cells.take (n * i.size) ++ new, true, false, b.esz⟩ : ABlk)] : AH) = [some ⟨b.cells.take (n * i.size) ++ new, true, false, i.size⟩] by rw [hesz]] at st
                              refine ⟨_, _, w', .inl (run (append_in hu hu' hd' hi hlen hf0 hge (by rw [addr_add, hbase, Nat.zero_add, Nat.zero_add]; exact hrun))), ?_, st⟩
                              have hrr : r = ⟨r.blk, 0, r.room, r.esz, true⟩ := by cases r; simp_all
                              have hq : (p.add H.length r) H.length = some ⟨r.blk, 0, r.room, r.esz, true⟩ := by rw [Ren.add_self, ← hrr]
                              have := VR.slNew (n := n + m) (k := c') hq hge (by omega)
                              simpa [hbase] using this
                          case isFalse =>
                            simp only [Option.some.injEq, Prod.mk.injEq] at h
                            obtain ⟨rfl, rfl⟩ := h
                            obtain ⟨ho1, hbase, hesz', cr, er, hg, hrm⟩ := hbr.own hown
                            have hroom := hroom rfl ho1
                            rcases Nat.lt_or_ge c' (n + m) with hlt | hge
                            · obtain ⟨r', us, hr', hus, hul, hucell⟩ := cells_ok (n := n * i.size) hs hl (off := 0) (by omega)
                              rw [hr] at hr'; injection hr' with hr'; subst hr'
                              obtain ⟨k, rest, hk, hrn, hrs⟩ := append_new (P := P) (T := T) (T' := T') (ty := o.type) (base := some ⟨r.blk, r.base + 0, none⟩) (n := n) (c := c') (us := us) hu hu' hd' hi hzr hlen (fun d => by
                                have := run_loadCells_list (P := P) { w with drawn := d } _ us hucell
                                rw [hul] at this
                                simpa [Builtin.firstCells] using this) hf (by omega) hb2.1 hb2.2
                              have hk0 := kill_ok hs hb hwr
                              have hus' : LR p (b.cells.take (n * i.size)) us := by rwa [List.drop_zero] at hus
                              have st := new_ok hk0.sr (b.cells.take (n * i.size) ++ new) (us.toArray ++ ys.toArray ++ rest) e i.size (fun k v hv => newcells _ us hus' hus'.1.symm rest k v hv)
                              have st2 := (hk0.trans hs st).trans hs (drew_ok st.sr (w.drawn + 1))
                              refine ⟨_, _, _, .inl (run hrn), ?_, st2⟩
                              have hadds := Ren.add_self p (H.set id none).length (⟨w.heap.size, 0, (us.toArray ++ ys.toArray ++ rest).size, i.size, true⟩ : Rb)
                              simp only [List.length_set] at hadds
                              refine VR.slNew (room := (us.toArray ++ ys.toArray ++ rest).size) (esz := i.size) (by rw [List.length_set]; exact hadds) (by omega) ?_
                              simp only [List.size_toArray, Array.size_append, hrs, hyl, hzs, hul]
                              rw [← Nat.add_mul, ← Nat.add_mul]; exact Nat.mul_le_mul_right _ (by omega)
                            · have hnl := hlr.1
                              have hfits : n * i.size + new.length ≤ r.room := by
                                rw [hnl, hyl, ← Nat.add_mul]
                                have : (n + m) * i.size ≤ c' * r.esz := by rw [hesz', hesz]; exact Nat.mul_le_mul_right _ hge
                                omega
                              obtain ⟨w', hrun, st⟩ := grow_in (P := P) hs hb hwr hr hlr hone hnb hfits
                              rw [hesz] at st
                              refine ⟨_, _, w', .inl (run (append_in hu hu' hd' hi hlen hf0 hge (by rw [addr_add, hbase, Nat.zero_add, Nat.zero_add]; exact hrun))), ?_, st⟩
                              have hrr : r = ⟨r.blk, 0, r.room, r.esz, true⟩ := by cases r; simp_all
                              have hq : (p.add H.length r) H.length = some ⟨r.blk, 0, r.room, r.esz, true⟩ := by rw [Ren.add_self, ← hrr]
                              have := VR.slNew (n := n + m) (k := c') hq hge (by omega)
                              simpa [hbase] using this
                        · cases h
              · cases h
          · rename_i hse
            split at h
            · rename_i hm
              subst hm
              simp only [Option.some.injEq, Prod.mk.injEq] at h
              obtain ⟨rfl, rfl⟩ := h
              rw [hse] at h1
              generalize hae : a.eval s = s' at h1 run
              cases h1 with
              | same hf => simp [flat1] at hf
              | emp =>
                have : ys = [] := List.eq_nil_of_length_eq_zero (by simpa using hyl)
                subst this
                rename_i ad c1
                have hst : ∀ q : Addr, (storeCells q ([] : List Value)).run P w = .ok () w := fun _ => rfl
                have hfin := append_in (ty := o.type) (ad := ad) (c := c1) hu hu' hd' hi hlen hf0 (Nat.zero_le _) (hst _)
                exact ⟨p, _, w, .inl (run hfin), .emp, .refl hs⟩
            · cases h
          · cases h
      · cases h
    · cases h
  · cases h

theorem copy_gives (hs : SR p H w) {c : Call} {d x : Operand} {T T' : TypeId} (ho : o.op = .call c) (hc : c.callee = .builtin .copy) (hx : c.args = #[d, x]) (hT : c.argTypes = #[T, T'])
    (hkd : VR p (aev t d) (a.eval d)) (hkx : VR p (aev t x) (a.eval x)) (h : acopy P T (aev t d) (aev t x) H = some (v, H')) : Gives P o a p H w v H' := by
  have h1 := hkd
  have h2 := hkx
  have run : ∀ {v' : Value} {w' : World}, (Builtin.copy_ #[T, T'] o.type #[a.eval d, a.eval x]).run P w = .ok v' w' → (execOp a.eval o).run P w = .ok (.value v') w' := by
    intro v' w' hr
    simp only [execOp, ho, resolve, hc, hx, hT, Sem.run_bind, Sem.run_pure, Result.andThen_ok, invoke, builtin, List.map_toArray, List.map_cons, List.map_nil, hr]
  unfold acopy at h
  split at h
  · rename_i e hu
    split at h
    · rename_i i hi
      have hur := pureRun_run (P := P) (s := underlying T) (a := .slice e) (by rw [pureRun_underlying]; exact hu) w
      have hsr := pureRun_run (P := P) (s := sizeOf e) (a := i.size) (by rw [pureRun_sizeOf, hi]; rfl) w
      split at h
      · rename_i id off n cc id' off' n' cc' hde hxe
        rw [hde] at h1; rw [hxe] at h2
        generalize hae : a.eval d = d' at h1 run
        generalize hbe : a.eval x = x' at h2 run
        cases h1 with
        | same hf => simp [flat1] at hf
        | sl hr hn hcc hroom =>
          rename_i c1 r
          cases h2 with
          | same hf => simp [flat1] at hf
          | sl hr2 hn2 hcc2 hroom2 =>
            rename_i c2 r2
            split at h
            · rename_i b hl
              split at h
              · rename_i hlen
                split at h
                · rename_i H1 hst
                  simp only [Option.some.injEq, Prod.mk.injEq] at h
                  obtain ⟨rfl, rfl⟩ := h
                  obtain ⟨r', ys, hr', hlr, hyl, hcell⟩ := cells_ok hs hl hlen
                  rw [hr2] at hr'; injection hr' with hr'; subst hr'
                  obtain ⟨r', w', hr', hrun, hst'⟩ := store_ok (P := P) hs hlr hst
                  rw [hr] at hr'; injection hr' with hr'; subst hr'
                  have hld := run_loadCells_list (P := P) w _ ys hcell
                  rw [hyl] at hld
                  refine ⟨p, goInt (Nat.min n' n), w', .inl (run ?_), .same rfl, hst'⟩
                  simp only [Builtin.copy_, List.getElem?_toArray, List.getElem?_cons_zero, List.getElem?_cons_succ, Sem.run_bind, hur, hsr, Result.andThen_ok, Builtin.lenOf, Sem.run_pure, Builtin.firstCells, hld, hrun]
                · cases h
              · cases h
            · cases h
      · rename_i hde hxe
        rw [hde] at h1; rw [hxe] at h2
        generalize hae : a.eval d = d' at h1 run
        generalize hbe : a.eval x = x' at h2 run
        simp only [Option.some.injEq, Prod.mk.injEq] at h
        obtain ⟨rfl, rfl⟩ := h
        cases h1 with
        | same hf => simp [flat1] at hf
        | emp =>
          cases h2 with
          | same hf => simp [flat1] at hf
          | sl hr2 hn2 hcc2 hroom2 =>
            refine ⟨p, goInt 0, w, .inl (run ?_), .same rfl, .refl hs⟩
            have hld : ∀ q, (loadCells q 0).run P w = .ok #[] w := fun q => by have := run_loadCells_list (P := P) w q [] (fun j v h => by simp at h); simpa using this
            have hst : ∀ q : Addr, (storeCells q ([] : List Value)).run P w = .ok () w := fun _ => rfl
            simp only [Builtin.copy_, List.getElem?_toArray, List.getElem?_cons_zero, List.getElem?_cons_succ, Sem.run_bind, hur, hsr, Result.andThen_ok, Builtin.lenOf, Sem.run_pure, Builtin.firstCells, Nat.min_zero, Nat.zero_mul, hld, hst]
            rfl
      · rename_i hde hxe
        rw [hde] at h1; rw [hxe] at h2
        generalize hae : a.eval d = d' at h1 run
        generalize hbe : a.eval x = x' at h2 run
        simp only [Option.some.injEq, Prod.mk.injEq] at h
        obtain ⟨rfl, rfl⟩ := h
        cases h2 with
        | same hf => simp [flat1] at hf
        | emp =>
          cases h1 with
          | same hf => simp [flat1] at hf
          | sl hr2 hn2 hcc2 hroom2 =>
            refine ⟨p, goInt 0, w, .inl (run ?_), .same rfl, .refl hs⟩
            have hld : ∀ q, (loadCells q 0).run P w = .ok #[] w := fun q => by have := run_loadCells_list (P := P) w q [] (fun j v h => by simp at h); simpa using this
            have hst : ∀ q : Addr, (storeCells q ([] : List Value)).run P w = .ok () w := fun _ => rfl
            simp only [Builtin.copy_, List.getElem?_toArray, List.getElem?_cons_zero, List.getElem?_cons_succ, Sem.run_bind, hur, hsr, Result.andThen_ok, Builtin.lenOf, Sem.run_pure, Builtin.firstCells, Nat.zero_min, Nat.zero_mul, hld, hst]
            rfl
      · cases h
    · cases h
  · cases h
end
end Go.Proofs.YtfpcmckachpnpaaDoor.Vx
