/- The run over a memory with names of its own answers what the model answers: a region that draws its order, step by step in whatever order. -/
import Derived.Test.YtdbdoagljioijaaX12
namespace Go.Proofs.Ytdbdoagljioijaa.Vx
open Go Go.RowKit

section
variable {P : Program} {callf : CallF} {ops : Array Oper} {m : Nat} {tt : Nat → Array Value} {HH : Nat → AH} {p0 : Ren} {w0 : World}

/-- Has operation i been carried out? -/
abbrev Dn (listed : Array Bool) (i : Nat) : Prop := listed.getD i false = true

/-- Where the region stands when the operations 'listed' have been carried out, in some order. -/
structure Inv (ops : Array Oper) (bs : List Nat) (m : Nat) (tt : Nat → Array Value) (HH : Nat → AH) (p0 : Ren) (w0 : World) (listed : Array Bool) (p : Ren) (a : Act) (w : World) : Prop where
  size : listed.size = ops.size
  low : ∀ i, m ≤ i → ¬ Dn listed i
  closed : ∀ i k, Dn listed i → Bef bs k i → Dn listed k
  defers : a.defers = []
  tsize : a.tmps.size = (tt 0).size
  slotW : ∀ j o d, j < m → Dn listed j → ops[j]? = some o → o.dst = some d → ∀ u, (tt m)[d]? = some u → ∃ u', a.tmps[d]? = some u' ∧ VR (upto p (HH (j + 1)).length) u u'
  slotN : ∀ d, (∀ j o, j < m → Dn listed j → ops[j]? = some o → o.dst ≠ some d) → ∀ u, (tt 0)[d]? = some u → ∃ u', a.tmps[d]? = some u' ∧ VR (upto p (HH 0).length) u u'
  dom : ∀ id r, p id = some r → id < (HH 0).length ∨ ∃ j, j < m ∧ Dn listed j ∧ (HH j).length ≤ id ∧ id < (HH (j + 1)).length
  blk0 : ∀ id (b : ABlk), id < (HH 0).length → (HH m)[id]? = some (some b) → ∃ r, p id = some r ∧ BR (upto p (HH 0).length) w b r
  blkJ : ∀ j id (b : ABlk), j < m → Dn listed j → (HH j).length ≤ id → id < (HH (j + 1)).length → (HH m)[id]? = some (some b) → ∃ r, p id = some r ∧ BR (upto p (HH (j + 1)).length) w b r
  inj : ∀ id id' (b b' : ABlk) r r', (HH m)[id]? = some (some b) → (HH m)[id']? = some (some b') → b.wr = true → id ≠ id' → p id = some r → p id' = some r' → r.blk ≠ r'.blk
  os : w.os = w0.os
  tape : w.tape = w0.tape
  output : w.output = w0.output
  wsize : w0.heap.size ≤ w.heap.size
  block : ∀ k, k < w0.heap.size → w.heap[k]? = w0.heap[k]?
  old : ∀ id, id < (HH 0).length → p id = p0 id
  fresh : ∀ id r, p id = some r → (HH 0).length ≤ id → w0.heap.size ≤ r.blk

/-- What is given of the region's text and of its run in the order of the text. -/
structure Given (P : Program) (callf : CallF) (ops : Array Oper) (bs : List Nat) (m : Nat) (tt : Nat → Array Value) (HH : Nat → AH) : Prop where
  step : ∀ j, j < m → ∃ o v N, ops[j]? = some o ∧ tt (j + 1) = aput (tt j) o.dst v ∧ HH (j + 1) = HH j ++ N ∧ (N ≠ [] → kindOf o.op = .make ∨ kindOf o.op = .call) ∧
      ((Region.wanted o (yielded ops (tt j)) = false ∧ v = undef ∧ N = []) ∨
       (Region.wanted o (yielded ops (tt j)) = true ∧ o.op.operands.toList.all okOpd = true ∧ ∀ Hx, Fit o (tt j) (HH j) Hx → ∃ K, aop P callf (tt j) Hx o = some (v, K) ∧ K.drop (HH j).length = N))
  edge : ∀ k j o, ops[j]? = some o → Bef bs k j → ∃ e ∈ o.after.toList, Region.binds .any e = true ∧ (k = e.on ∨ Bef bs k e.on)
  text : ∀ j o, ops[j]? = some o → ∀ e ∈ o.after.toList, Region.binds .any e = true → e.on < j
  bar : ∀ j, m ≤ j → j < ops.size → ∀ i, i < j → Bef bs i j
  ok : ∀ i j oi oj, ops[i]? = some oi → ops[j]? = some oj → i < m → j < m → i ≠ j →
    (∀ d, oi.dst = some d → oj.dst ≠ some d ∧ (d ∈ oj.looksAt ops → (i < j ∧ Bef bs i j) ∨ (j < i ∧ Bef bs j i))) ∧
    (kindOf oi.op = .make ∨ kindOf oi.op = .call → kindOf oj.op = .call → j < i ∨ Bef bs i j)
  le : m ≤ ops.size

variable {bs : List Nat}

theorem Given.len_mono (g : Given P callf ops bs m tt HH) : ∀ {i j : Nat}, i ≤ j → j ≤ m → (HH i).length ≤ (HH j).length := by
  intro i j hij
  induction hij with
  | refl => intro _; exact Nat.le_refl _
  | step h ih =>
    rename_i k
    intro hk
    obtain ⟨o, v, N, _, _, hH, _, _⟩ := g.step k (by omega)
    have := ih (by omega)
    rw [hH]; simp; omega

/-- What lies in the memory stays there. -/
theorem Given.stay (g : Given P callf ops bs m tt HH) : ∀ {i j : Nat}, i ≤ j → j ≤ m → ∀ {id : Nat}, id < (HH i).length → (HH j)[id]? = (HH i)[id]? := by
  intro i j hij
  induction hij with
  | refl => intro _ id _; rfl
  | step h ih =>
    rename_i k
    intro hk id hid
    obtain ⟨o, v, N, _, _, hH, _, _⟩ := g.step k (by omega)
    have := g.len_mono h (by omega)
    rw [hH, List.getElem?_append_left (by omega)]
    exact ih (by omega) hid

theorem aput_get {t : Array Value} {dst : Option Tmp} {v : Value} {s : Nat} (h : dst ≠ some s) : (aput t dst v)[s]? = t[s]? := by
  cases dst with
  | none => rfl
  | some d => simp only [aput]; rw [Array.getElem?_setIfInBounds_ne (fun e => h (by rw [e]))]
theorem aput_size {t : Array Value} {dst : Option Tmp} {v : Value} : (aput t dst v).size = t.size := by cases dst <;> simp [aput]

/-- A slot that no operation between i and j writes. -/
theorem Given.slot (g : Given P callf ops bs m tt HH) {s : Nat} : ∀ {i j : Nat}, i ≤ j → j ≤ m → (∀ k o, i ≤ k → k < j → ops[k]? = some o → o.dst ≠ some s) → (tt j)[s]? = (tt i)[s]? := by
  intro i j hij
  induction hij with
  | refl => intro _ _; rfl
  | step h ih =>
    rename_i k
    intro hk hno
    obtain ⟨o, v, N, ho, ht, _, _, _⟩ := g.step k (by omega)
    rw [ht, aput_get (hno k o h (by omega) ho)]
    exact ih (by omega) fun k' o' h1 h2 h3 => hno k' o' h1 (by omega) h3

theorem Given.tsize (g : Given P callf ops bs m tt HH) : ∀ {j : Nat}, j ≤ m → (tt j).size = (tt 0).size := by
  intro j
  induction j with
  | zero => intro _; rfl
  | succ j ih =>
    intro hj
    obtain ⟨o, v, N, _, ht, _, _, _⟩ := g.step j (by omega)
    rw [ht, aput_size]; exact ih (by omega)

variable {listed : Array Bool} {p : Ren} {a : Act} {w : World}

/-- What an operation that comes up next looks at. -/
theorem Inv.opd (g : Given P callf ops bs m tt HH) (h : Inv ops bs m tt HH p0 w0 listed p a w) {j : Nat} {o : Oper} (hj : j < m) (ho : ops[j]? = some o) (hn : ¬ Dn listed j)
    (hb : ∀ k, Bef bs k j → Dn listed k) {s : Nat} (hs : s ∈ o.looksAt ops) {u : Value} (hu : (tt j)[s]? = some u) : ∃ u', a.tmps[s]? = some u' ∧ VR (upto p (HH j).length) u u' := by
  by_cases hex : ∃ i oi, i < m ∧ ops[i]? = some oi ∧ oi.dst = some s
  · obtain ⟨i, oi, him, hoi, hd⟩ := hex
    have uniq : ∀ k ok, k < m → ops[k]? = some ok → ok.dst = some s → k = i := fun k ok hk hok hdk => by
      by_cases hki : k = i
      · exact hki
      · exact absurd hd ((g.ok k i ok oi hok hoi hk him hki).1 s hdk).1
    have init : (tt j)[s]? = (tt 0)[s]? → ¬ Dn listed i → ∃ u', a.tmps[s]? = some u' ∧ VR (upto p (HH j).length) u u' := fun h0 hni => by
      obtain ⟨u', h1, h2⟩ := h.slotN s (fun k ok hk hdk hok hdd => by
        have := uniq k ok hk hok hdd; subst this; exact hni hdk) u (by rw [← h0]; exact hu)
      exact ⟨u', h1, h2.mono (upto_mono (fun _ _ _ h => h) (g.len_mono (Nat.zero_le _) (by omega)))⟩
    by_cases hij : i = j
    · subst hij
      exact init (g.slot (Nat.zero_le _) (by omega) fun k ok _ hk hok hdk => by have := uniq k ok (by omega) hok hdk; omega) hn
    · rcases ((g.ok i j oi o hoi ho him hj hij).1 s hd).2 hs with ⟨hlt, hbe⟩ | ⟨hlt, hbe⟩
      · have hdi := hb i hbe
        have htm : (tt m)[s]? = (tt j)[s]? := by
          have e1 := g.slot (s := s) (i := i + 1) (j := m) (by omega) (Nat.le_refl _) fun k ok hk1 hk2 hok hdk => by have := uniq k ok hk2 hok hdk; omega
          have e2 := g.slot (s := s) (i := i + 1) (j := j) (by omega) (by omega) fun k ok hk1 hk2 hok hdk => by have := uniq k ok (by omega) hok hdk; omega
          rw [e1, e2]
        obtain ⟨u', h1, h2⟩ := h.slotW i oi s him hdi hoi hd u (by rw [htm]; exact hu)
        exact ⟨u', h1, h2.mono (upto_mono (fun _ _ _ h => h) (g.len_mono (by omega) (by omega)))⟩
      · exact init (g.slot (Nat.zero_le _) (by omega) fun k ok _ hk hok hdk => by have := uniq k ok (by omega) hok hdk; omega) fun hdi => hn (h.closed i j hdi hbe)
  · have hno : ∀ k ok, k < m → ops[k]? = some ok → ok.dst ≠ some s := fun k ok hk hok hdk => hex ⟨k, ok, hk, hok, hdk⟩
    obtain ⟨u', h1, h2⟩ := h.slotN s (fun k ok hk _ hok => hno k ok hk hok) u (by rw [← g.slot (s := s) (Nat.zero_le j) (by omega) fun k ok _ hk hok => hno k ok (by omega) hok]; exact hu)
    exact ⟨u', h1, h2.mono (upto_mono (fun _ _ _ h => h) (g.len_mono (Nat.zero_le _) (by omega)))⟩

theorem Inv.opd_none (g : Given P callf ops bs m tt HH) (h : Inv ops bs m tt HH p0 w0 listed p a w) {j s : Nat} (hj : j ≤ m) (hu : (tt j)[s]? = none) : a.tmps[s]? = none := by
  rw [Array.getElem?_eq_none_iff] at hu ⊢
  rw [h.tsize, ← g.tsize hj]; exact hu

/-- Its test is the same. -/
theorem Inv.wanted (g : Given P callf ops bs m tt HH) (h : Inv ops bs m tt HH p0 w0 listed p a w) {j : Nat} {o : Oper} (hj : j < m) (ho : ops[j]? = some o) (hn : ¬ Dn listed j)
    (hb : ∀ k, Bef bs k j → Dn listed k) : Region.wanted o (yielded ops (tt j)) = Region.wanted o (yielded ops a.tmps) := by
  unfold Region.wanted
  cases hg : o.guard with
  | none => rfl
  | some x =>
    obtain ⟨k, want⟩ := x
    have : yielded ops (tt j) k = yielded ops a.tmps k := by
      unfold yielded
      cases hd : (ops[k]?).bind (·.dst) with
      | none => rfl
      | some d =>
        simp only [Option.bind_some]
        have hs : d ∈ o.looksAt ops := by unfold Oper.looksAt; rw [hg]; simp [hd]
        cases hu : (tt j)[d]? with
        | none => rw [h.opd_none g (by omega) hu]
        | some u =>
          obtain ⟨u', h1, h2⟩ := h.opd g hj ho hn hb hs hu
          rw [h1]; exact h2.bool_iff
    simp only [this]

/-- The memory as an operation that comes up next may see it. -/
def seen (p : Ren) (Hm : AH) (L : Nat) : AH := (List.range L).map fun id => if (p id).isSome then (Hm[id]?).join.map (fun b => { b with wr := false }) else none

theorem seen_len (p : Ren) (Hm : AH) (L : Nat) : (seen p Hm L).length = L := by simp [seen]
theorem seen_get {p : Ren} {Hm : AH} {L id : Nat} {b : ABlk} (h : (seen p Hm L)[id]? = some (some b)) : id < L ∧ (∃ r, p id = some r) ∧ b.wr = false ∧ ∃ b0, Hm[id]? = some (some b0) ∧ b = { b0 with wr := false } := by
  unfold seen at h
  rw [List.getElem?_map] at h
  cases hr : (List.range L)[id]? with
  | none => rw [hr] at h; cases h
  | some k =>
    have hk : k = id ∧ id < L := by
      obtain ⟨h1, h2⟩ := List.getElem?_eq_some_iff.1 hr
      simp at h1 h2; exact ⟨h2.symm, h1⟩
    obtain ⟨rfl, hlt⟩ := hk
    rw [hr] at h
    simp only [Option.map_some, Option.some.injEq] at h
    split at h
    · rename_i hs
      obtain ⟨r, hr'⟩ := Option.isSome_iff_exists.1 hs
      cases hm : Hm[k]? with
      | none => rw [hm] at h; cases h
      | some x =>
        cases x with
        | none => rw [hm] at h; cases h
        | some b0 =>
          rw [hm] at h
          simp only [Option.join_some, Option.map_some, Option.some.injEq] at h
          exact ⟨hlt, ⟨r, hr'⟩, by rw [← h], b0, rfl, h.symm⟩
    · cases h
theorem seen_put {p : Ren} {Hm : AH} {L id : Nat} {b : ABlk} {r : Rb} (hl : id < L) (hr : p id = some r) (hb : Hm[id]? = some (some b)) : (seen p Hm L)[id]? = some (some { b with wr := false }) := by
  unfold seen
  rw [List.getElem?_map, List.getElem?_eq_getElem (by simpa using hl)]
  simp [hr, hb]

theorem BR.calm {p : Ren} {w : World} {b : ABlk} {r : Rb} (h : BR p w b r) : BR p w { b with wr := false } r := ⟨h.lt, h.cell, h.own, fun h => (by cases h), h.same⟩

theorem Given.range_of (_g : Given P callf ops bs m tt HH) : ∀ {j : Nat}, j ≤ m → ∀ {id : Nat}, (HH 0).length ≤ id → id < (HH j).length → ∃ i, i < j ∧ (HH i).length ≤ id ∧ id < (HH (i + 1)).length := by
  intro j
  induction j with
  | zero => intro _ id h1 h2; omega
  | succ j ih =>
    intro hj id h1 h2
    by_cases h3 : id < (HH j).length
    · obtain ⟨i, h4, h5, h6⟩ := ih (by omega) h1 h3
      exact ⟨i, by omega, h5, h6⟩
    · exact ⟨j, by omega, by omega, h2⟩

theorem Inv.sr (g : Given P callf ops bs m tt HH) (h : Inv ops bs m tt HH p0 w0 listed p a w) {j : Nat} (hj : j ≤ m) : SR (upto p (HH j).length) (seen p (HH m) (HH j).length) w := by
  constructor
  · intro id r hr
    rw [seen_len]
    rcases Nat.lt_or_ge id (HH j).length with hl | hl
    · exact hl
    · rw [upto_ge hl] at hr; cases hr
  · intro id b hb
    obtain ⟨hl, ⟨r, hr⟩, hw, b0, hb0, rfl⟩ := seen_get hb
    refine ⟨r, by rw [upto_lt hl]; exact hr, BR.calm ?_⟩
    rcases h.dom id r hr with h0 | ⟨i, hi, hdi, h1, h2⟩
    · obtain ⟨r', hr', hbr⟩ := h.blk0 id b0 h0 hb0
      rw [hr] at hr'; injection hr' with hr'; subst hr'
      exact hbr.mono (upto_mono (fun _ _ _ h => h) (g.len_mono (Nat.zero_le _) hj))
    · obtain ⟨r', hr', hbr⟩ := h.blkJ i id b0 hi hdi h1 h2 hb0
      rw [hr] at hr'; injection hr' with hr'; subst hr'
      have hij : i < j := by
        rcases Nat.lt_or_ge i j with h3 | h3
        · exact h3
        · have := g.len_mono h3 (by omega); omega
      exact hbr.mono (upto_mono (fun _ _ _ h => h) (g.len_mono (by omega) hj))
  · intro id id' b b' r r' hb _ hw
    have := (seen_get hb).2.2.1
    rw [this] at hw; cases hw

theorem Inv.fit (g : Given P callf ops bs m tt HH) (h : Inv ops bs m tt HH p0 w0 listed p a w) {j : Nat} {o : Oper} (hj : j < m) (ho : ops[j]? = some o)
    (hb : ∀ k, Bef bs k j → Dn listed k) (hop : ∀ x ∈ o.op.operands.toList, ∀ id, idOf (aev (tt j) x) = some id → ∃ r, upto p (HH j).length id = some r) :
    Fit o (tt j) (HH j) (seen p (HH m) (HH j).length) := by
  refine ⟨seen_len _ _ _, fun hk => ?_, fun _ x hx id hid b hbl => ?_⟩
  · apply List.ext_getElem?
    intro id
    unfold roH
    rw [List.getElem?_map]
    by_cases hl : id < (HH j).length
    · have hst := g.stay (i := j) (j := m) (by omega) (Nat.le_refl _) hl
      cases hv : (HH j)[id]? with
      | none => rw [List.getElem?_eq_none_iff] at hv; omega
      | some x =>
        rw [hv] at hst
        cases x with
        | none =>
          simp only [Option.map_some, Option.map_none]
          unfold seen
          rw [List.getElem?_map, List.getElem?_eq_getElem (by simpa using hl)]
          simp [hst]
        | some b =>
          have : ∃ r, p id = some r := by
            by_cases h0 : id < (HH 0).length
            · obtain ⟨r, hr, _⟩ := h.blk0 id b h0 hst; exact ⟨r, hr⟩
            · obtain ⟨i, hi, h1, h2⟩ := g.range_of (by omega) (Nat.le_of_not_lt h0) hl
              obtain ⟨oi, v, N, hoi, _, hH, hN, _⟩ := g.step i (by omega)
              have hNe : N ≠ [] := fun hne => by rw [hH, hne, List.append_nil] at h2; omega
              rcases (g.ok i j oi o hoi ho (by omega) hj (by omega)).2 (hN hNe) hk with h3 | h3
              · omega
              · obtain ⟨r, hr, _⟩ := h.blkJ i id b (by omega) (hb i h3) h1 h2 hst; exact ⟨r, hr⟩
          obtain ⟨r, hr⟩ := this
          rw [seen_put hl hr hst]
          rfl
    · rw [List.getElem?_eq_none (by rw [seen_len]; omega), List.getElem?_eq_none (by omega)]
      rfl
  · obtain ⟨r, hr⟩ := hop x hx id hid
    have hl : id < (HH j).length := by
      rcases Nat.lt_or_ge id (HH j).length with h1 | h1
      · exact h1
      · rw [upto_ge h1] at hr; cases hr
    rw [upto_lt hl] at hr
    have hst := g.stay (i := j) (j := m) (by omega) (Nat.le_refl _) hl
    rw [live_some hbl] at hst
    have := seen_put hl hr hst
    exact ⟨{ b with wr := false }, by unfold live; rw [this], rfl, rfl, rfl⟩

theorem dn_set {listed : Array Bool} {j : Nat} (hj : j < listed.size) (i : Nat) : Dn (listed.setIfInBounds j true) i ↔ i = j ∨ Dn listed i := by
  unfold Dn
  by_cases h : i = j
  · subst h; simp [hj]
  · rw [getD_set_ne false (Ne.symm h)]; simp [h]

/-- One operation more. -/
theorem Inv.next (g : Given P callf ops bs m tt HH) (h : Inv ops bs m tt HH p0 w0 listed p a w) {j : Nat} {o : Oper} {v v' : Value} {N K : AH} {p' : Ren} {w' : World}
    (hj : j < m) (ho : ops[j]? = some o) (hn : ¬ Dn listed j) (hb : ∀ k, Bef bs k j → Dn listed k)
    (ht : tt (j + 1) = aput (tt j) o.dst v) (hH : HH (j + 1) = HH j ++ N) (hK : K.drop (HH j).length = N) (hv : VR p' v v')
    (st : St (upto p (HH j).length) (seen p (HH m) (HH j).length) w p' K w') :
    ∃ q, Inv ops bs m tt HH p0 w0 (listed.setIfInBounds j true) q (a.put o.dst v') w' := by
  have hjn : j < listed.size := by rw [h.size]; exact Nat.lt_of_lt_of_le hj g.le
  have hKl : K.length = (HH j).length + N.length := by
    have h1 := st.len; rw [seen_len] at h1
    have h2 : (K.drop (HH j).length).length = N.length := by rw [hK]
    rw [List.length_drop] at h2; omega
  have hL' : (HH (j + 1)).length = (HH j).length + N.length := by rw [hH]; simp
  have hL0 := g.len_mono (Nat.zero_le j) (by omega)
  let q : Ren := fun id => if (HH j).length ≤ id ∧ id < (HH (j + 1)).length then p' id else p id
  have qin : ∀ id, (HH j).length ≤ id → id < (HH (j + 1)).length → q id = p' id := fun id h1 h2 => if_pos ⟨h1, h2⟩
  have qlow : ∀ id, id < (HH j).length → q id = p id := fun id h1 => if_neg (by omega)
  have notin : ∀ id r, p id = some r → ¬ ((HH j).length ≤ id ∧ id < (HH (j + 1)).length) := by
    intro id r hr hin
    rcases h.dom id r hr with h0 | ⟨i, hi, hdi, h1, h2⟩
    · omega
    · rcases Nat.lt_trichotomy i j with h3 | h3 | h3
      · have := g.len_mono (i := i + 1) (j := j) (by omega) (by omega); omega
      · subst h3; exact hn hdi
      · have := g.len_mono (i := j + 1) (j := i) (by omega) (by omega); omega
  have ep : Ext p q := fun id r hr => by simp only [q]; rw [if_neg (notin id r hr)]; exact hr
  have ep' : Ext p' (upto q (HH (j + 1)).length) := fun id r hr => by
    have hd := st.sr.dom id r hr
    rw [upto_lt (by omega)]
    by_cases hl : id < (HH j).length
    · rw [qlow id hl]
      have := st.old id (by rw [seen_len]; exact hl)
      rw [hr, upto_lt hl] at this; exact this.symm
    · rw [qin id (by omega) (by omega)]; exact hr
  have wno : ∀ k, ¬ Wr (upto p (HH j).length) (seen p (HH m) (HH j).length) k := fun k ⟨id, b, r, h1, h2, _⟩ => by
    have := (seen_get h1).2.2.1; rw [this] at h2; cases h2
  have hblk : ∀ k, k < w.heap.size → w'.heap[k]? = w.heap[k]? := fun k hk => st.block k hk (wno k)
  have hKget : ∀ id, (HH j).length ≤ id → id < (HH (j + 1)).length → (HH m)[id]? = K[id]? := fun id h1 h2 => by
    rw [g.stay (i := j + 1) (j := m) (by omega) (Nat.le_refl _) h2, hH, List.getElem?_append_right h1, ← hK, List.getElem?_drop]
    congr 1; omega
  have um : ∀ L, Ext (upto p L) (upto q L) := fun L => upto_mono (fun id r _ hr => ep id r hr) (Nat.le_refl _)
  have uniq : ∀ i oi d, i < m → ops[i]? = some oi → i ≠ j → oi.dst = some d → o.dst ≠ some d := fun i oi d hi hoi hij hd => ((g.ok i j oi o hoi ho hi hj hij).1 d hd).1
  have putne : ∀ d, o.dst ≠ some d → (a.put o.dst v').tmps[d]? = a.tmps[d]? := fun d hd => by
    cases hdd : o.dst with
    | none => rfl
    | some e => simp only [Act.put]; rw [Array.getElem?_setIfInBounds_ne (fun e2 => hd (by rw [hdd, e2]))]
  have ltOf : ∀ id b r, (HH m)[id]? = some (some b) → p id = some r → r.blk < w.heap.size := fun id b r hb' hr => by
    rcases h.dom id r hr with h0 | ⟨i, hi, hdi, h1, h2⟩
    · obtain ⟨r', hr', hbr⟩ := h.blk0 id b h0 hb'; rw [hr] at hr'; injection hr' with hr'; subst hr'; exact hbr.lt
    · obtain ⟨r', hr', hbr⟩ := h.blkJ i id b hi hdi h1 h2 hb'; rw [hr] at hr'; injection hr' with hr'; subst hr'; exact hbr.lt
  have newGe : ∀ id r, (HH j).length ≤ id → p' id = some r → w.heap.size ≤ r.blk := fun id r hl hr => (st.fresh id r hr (by rw [seen_len]; exact hl)).resolve_right (wno _)
  refine ⟨q, ?_⟩
  constructor
  · simp [h.size]
  · intro i hi hd
    rcases (dn_set hjn i).1 hd with h1 | h1
    · omega
    · exact h.low i hi h1
  · intro i k hd hbe
    refine (dn_set hjn k).2 ?_
    rcases (dn_set hjn i).1 hd with h1 | h1
    · subst h1; exact .inr (hb k hbe)
    · exact .inr (h.closed i k h1 hbe)
  · rw [put_defers]; exact h.defers
  · cases hd : o.dst with
    | none => exact h.tsize
    | some e => simp only [Act.put, Array.size_setIfInBounds]; exact h.tsize
  · intro i oi d hi hd hoi hdd u hu
    by_cases hij : i = j
    · subst hij
      rw [ho] at hoi; injection hoi with hoi; subst hoi
      have e1 := g.slot (s := d) (i := i + 1) (j := m) (by omega) (Nat.le_refl _) fun k ok hk1 hk2 hok hdk => uniq k ok d hk2 hok (by omega) hdk hdd
      rw [e1, ht, hdd] at hu
      simp only [aput] at hu
      have hsz : d < (tt i).size := by
        rcases Nat.lt_or_ge d (tt i).size with h1 | h1
        · exact h1
        · rw [Array.getElem?_eq_none (by simpa using h1)] at hu; cases hu
      rw [Array.getElem?_setIfInBounds_self_of_lt hsz] at hu
      injection hu with hu; subst hu
      refine ⟨v', ?_, hv.mono ep'⟩
      rw [hdd]
      simp only [Act.put]
      rw [Array.getElem?_setIfInBounds_self_of_lt (by rw [h.tsize, ← g.tsize (j := i) (by omega)]; exact hsz)]
    · have hdi := ((dn_set hjn i).1 hd).resolve_left hij
      obtain ⟨u', h1, h2⟩ := h.slotW i oi d hi hdi hoi hdd u hu
      exact ⟨u', by rw [putne d (uniq i oi d hi hoi hij hdd)]; exact h1, h2.mono (um _)⟩
  · intro d hno u hu
    have hjd : o.dst ≠ some d := hno j o hj ((dn_set hjn j).2 (.inl rfl)) ho
    obtain ⟨u', h1, h2⟩ := h.slotN d (fun i oi hi hdi hoi => hno i oi hi ((dn_set hjn i).2 (.inr hdi)) hoi) u hu
    exact ⟨u', by rw [putne d hjd]; exact h1, h2.mono (um _)⟩
  · intro id r hr
    by_cases hin : (HH j).length ≤ id ∧ id < (HH (j + 1)).length
    · exact .inr ⟨j, hj, (dn_set hjn j).2 (.inl rfl), hin.1, hin.2⟩
    · have hr' : p id = some r := by simp only [q] at hr; rw [if_neg hin] at hr; exact hr
      rcases h.dom id r hr' with h0 | ⟨i, hi, hdi, h1, h2⟩
      · exact .inl h0
      · exact .inr ⟨i, hi, (dn_set hjn i).2 (.inr hdi), h1, h2⟩
  · intro id b hl hb'
    obtain ⟨r, hr, hbr⟩ := h.blk0 id b hl hb'
    exact ⟨r, ep id r hr, (hbr.mono (um _)).keep st.size (hblk _ hbr.lt)⟩
  · intro i id b hi hd h1 h2 hb'
    by_cases hij : i = j
    · subst hij
      obtain ⟨r, hr, hbr⟩ := st.sr.blk id b (by rw [← hKget id h1 h2]; exact hb')
      exact ⟨r, by rw [qin id h1 h2]; exact hr, hbr.mono ep'⟩
    · have hdi := ((dn_set hjn i).1 hd).resolve_left hij
      obtain ⟨r, hr, hbr⟩ := h.blkJ i id b hi hdi h1 h2 hb'
      exact ⟨r, ep id r hr, (hbr.mono (um _)).keep st.size (hblk _ hbr.lt)⟩
  · intro id id' b b' r r' hb1 hb2 hw hne hr hr'
    by_cases hin : (HH j).length ≤ id ∧ id < (HH (j + 1)).length <;> by_cases hin' : (HH j).length ≤ id' ∧ id' < (HH (j + 1)).length
    · rw [qin id hin.1 hin.2] at hr; rw [qin id' hin'.1 hin'.2] at hr'
      exact st.sr.inj id id' b b' r r' (by rw [← hKget id hin.1 hin.2]; exact hb1) (by rw [← hKget id' hin'.1 hin'.2]; exact hb2) hw hne hr hr'
    · rw [qin id hin.1 hin.2] at hr
      have hr2 : p id' = some r' := by simp only [q] at hr'; rw [if_neg hin'] at hr'; exact hr'
      have := newGe id r hin.1 hr; have := ltOf id' b' r' hb2 hr2; omega
    · rw [qin id' hin'.1 hin'.2] at hr'
      have hr2 : p id = some r := by simp only [q] at hr; rw [if_neg hin] at hr; exact hr
      have := newGe id' r' hin'.1 hr'; have := ltOf id b r hb1 hr2; omega
    · have hr2 : p id = some r := by simp only [q] at hr; rw [if_neg hin] at hr; exact hr
      have hr3 : p id' = some r' := by simp only [q] at hr'; rw [if_neg hin'] at hr'; exact hr'
      exact h.inj id id' b b' r r' hb1 hb2 hw hne hr2 hr3
  · exact st.os.trans h.os
  · exact st.tape.trans h.tape
  · exact st.output.trans h.output
  · exact Nat.le_trans h.wsize st.size
  · intro k hk; exact (hblk k (Nat.lt_of_lt_of_le hk h.wsize)).trans (h.block k hk)
  · intro id hl; rw [qlow id (by omega)]; exact h.old id hl
  · intro id r hr hl
    by_cases hin : (HH j).length ≤ id ∧ id < (HH (j + 1)).length
    · rw [qin id hin.1 hin.2] at hr; exact Nat.le_trans h.wsize (newGe id r hin.1 hr)
    · have hr' : p id = some r := by simp only [q] at hr; rw [if_neg hin] at hr; exact hr
      exact h.fresh id r hr' hl

theorem VR.id {q : Ren} {u u' : Value} (h : VR q u u') {id : Nat} (hid : idOf u = some id) : ∃ r, q id = some r := by
  cases h with
  | same hf => unfold idOf at hid; split at hid <;> first | (simp [flat1] at hf; done) | cases hid
  | ptr hr => simp only [idOf, Option.some.injEq] at hid; subst hid; exact ⟨_, hr⟩
  | sl hr => simp only [idOf, Option.some.injEq] at hid; subst hid; exact ⟨_, hr⟩
  | _ => simp [idOf] at hid

theorem aev_of {t : Array Value} {x : Operand} {q : Ren} (hok : okOpd x = true) (ht : ∀ s, x = .tmp s → VR q (t.getD s undef) (a.tmps.getD s undef)) : VR q (aev t x) (a.eval x) := by
  cases x with
  | tmp s => exact ht s rfl
  | const u => exact flat_refl hok
  | global g => cases hok
  | func f => exact .fn rfl (fun i h => by simp at h) rfl (fun i h => by simp at h)

/-- One operation more, in the model. -/
theorem Inv.op (hc : CallOk P callf) (g : Given P callf ops bs m tt HH) (h : Inv ops bs m tt HH p0 w0 listed p a w) {j : Nat} (hj : j < m) (hn : ¬ Dn listed j)
    (hb : ∀ k, Bef bs k j → Dn listed k) {Q : Exit → Act → World → Prop} {X : Act → World → Prop}
    (hX : ∀ q a' w', Inv ops bs m tt HH p0 w0 (listed.setIfInBounds j true) q a' w' → X a' w') : wpOp P ops Q j X a w := by
  obtain ⟨o, v, N, ho, ht, hH, _, hstep⟩ := g.step j hj
  unfold wpOp
  rw [ho]
  simp only
  rw [← h.wanted g hj ho hn hb]
  rcases hstep with ⟨hw, rfl, rfl⟩ | ⟨hw, hall, hrun⟩
  · rw [hw, if_neg (by simp)]
    have hsr := h.sr g (j := j) (by omega)
    obtain ⟨q, hq⟩ := h.next g (K := seen p (HH m) (HH j).length) hj ho hn hb ht hH (by rw [List.drop_eq_nil_iff, seen_len]; exact Nat.le_refl _) undef_ok (.refl hsr)
    exact hX q _ _ hq
  · rw [hw, if_pos rfl]
    have hsr := h.sr g (j := j) (by omega)
    have hopd : ∀ x ∈ o.op.operands.toList, okOpd x = true → VR (upto p (HH j).length) (aev (tt j) x) (a.eval x) := by
      intro x hx hok
      refine aev_of hok fun s hs => ?_
      subst hs
      have hlook : s ∈ o.looksAt ops := by
        unfold Oper.looksAt
        refine List.mem_append_left _ ?_
        rw [List.mem_filterMap]
        exact ⟨.tmp s, hx, rfl⟩
      rw [Array.getD_eq_getD_getElem?, Array.getD_eq_getD_getElem?]
      cases hu : (tt j)[s]? with
      | none => rw [h.opd_none g (by omega) hu]; exact undef_ok
      | some u =>
        obtain ⟨u', h1, h2⟩ := h.opd g hj ho hn hb hlook hu
        rw [h1]; exact h2
    have hfit := h.fit g hj ho hb fun x hx id hid => (hopd x hx (List.all_eq_true.1 hall x hx)).id hid
    obtain ⟨K, hK, hKd⟩ := hrun _ hfit
    refine .inl (aop_ok hc hsr hopd hK fun p' v' w' hv st => ?_)
    obtain ⟨q, hq⟩ := h.next g hj ho hn hb ht hH hKd hv st
    exact hX q _ _ hq
end
end Go.Proofs.Ytdbdoagljioijaa.Vx
