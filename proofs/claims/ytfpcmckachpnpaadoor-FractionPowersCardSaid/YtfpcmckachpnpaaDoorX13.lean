/- The run over a memory with names of its own answers what the model answers: a region that draws its order, step by step in whatever order. -/
import Derived.Test.YtfpcmckachpnpaaDoorX12
namespace Go.Proofs.YtfpcmckachpnpaaDoor.Vx
open Go Go.RowKit

section
variable {P : Program} {callf : CallF} {ops : Array Oper} {m : Nat} {tt : Nat → Array Value} {HH : Nat → AH} {p0 : Ren} {w0 : World}

/-- Has operation i been carried out? -/
abbrev Dn (listed : Array Bool) (i : Nat) : Prop := listed.getD i false = true

/-- What is given of the region's text and of its run in the order of the text. -/
structure Given (P : Program) (callf : CallF) (ops : Array Oper) (bs : List Nat) (m : Nat) (tt : Nat → Array Value) (HH : Nat → AH) (ft : Nat → Foot) : Prop where
  step : ∀ j, j < m → ∃ o v N, ops[j]? = some o ∧ tt (j + 1) = aput (tt j) o.dst v ∧ Does P callf (HH 0).length ops (tt j) (HH j) (ft j) o v (HH (j + 1)) N
  edge : ∀ k j o, ops[j]? = some o → Bef bs k j → ∃ e ∈ o.after.toList, Region.binds .any e = true ∧ (k = e.on ∨ Bef bs k e.on)
  text : ∀ j o, ops[j]? = some o → ∀ e ∈ o.after.toList, Region.binds .any e = true → e.on < j
  bar : ∀ j, m ≤ j → j < ops.size → ∀ i, i < j → Bef bs i j
  ok : ∀ i j oi oj, ops[i]? = some oi → ops[j]? = some oj → i < m → j < m → i ≠ j →
    ∀ d, oi.dst = some d → oj.dst ≠ some d ∧ (d ∈ oj.looksAt ops → (i < j ∧ Bef bs i j) ∨ (j < i ∧ Bef bs j i))
  foots : ∀ i j, i < m → j < m → i ≠ j → (ft i).sets = [] ∨ Bef bs i j ∨ Bef bs j i ∨ (∀ id ∈ (ft i).sets, id ∉ (ft j).sees)
  le : m ≤ ops.size

/-- Memory HH k has block id as it is when the operations 'listed' have been carried out. -/
structure Ver (m : Nat) (HH : Nat → AH) (ft : Nat → Foot) (listed : Array Bool) (id k : Nat) : Prop where
  le : k ≤ m
  lt : id < (HH k).length
  set : ∀ i, i < m → id ∈ (ft i).sets → (i < k ↔ Dn listed i)
  born : ∀ i, i < m → (HH i).length ≤ id → id < (HH (i + 1)).length → Dn listed i

/-- Where the region stands when the operations 'listed' have been carried out, in some order. -/
structure Inv (ops : Array Oper) (bs : List Nat) (m : Nat) (tt : Nat → Array Value) (HH : Nat → AH) (ft : Nat → Foot) (p0 : Ren) (w0 : World) (listed : Array Bool) (p : Ren) (a : Act) (w : World) : Prop where
  size : listed.size = ops.size
  low : ∀ i, m ≤ i → ¬ Dn listed i
  closed : ∀ i k, Dn listed i → Bef bs k i → Dn listed k
  defers : a.defers = []
  tsize : a.tmps.size = (tt 0).size
  slotW : ∀ j o d, j < m → Dn listed j → ops[j]? = some o → o.dst = some d → ∀ u, (tt m)[d]? = some u → ∃ u', a.tmps[d]? = some u' ∧ VR (upto p (HH (j + 1)).length) u u'
  slotN : ∀ d, (∀ j o, j < m → Dn listed j → ops[j]? = some o → o.dst ≠ some d) → ∀ u, (tt 0)[d]? = some u → ∃ u', a.tmps[d]? = some u' ∧ VR (upto p (HH 0).length) u u'
  dom : ∀ id r, p id = some r → id < (HH 0).length ∨ ∃ j, j < m ∧ Dn listed j ∧ (HH j).length ≤ id ∧ id < (HH (j + 1)).length
  blk : ∀ id k (b : ABlk), Ver m HH ft listed id k → (HH k)[id]? = some (some b) → ∃ r, p id = some r ∧ BR (upto p (HH k).length) w b r
  inj : ∀ id id' k k' (b b' : ABlk) r r', Ver m HH ft listed id k → Ver m HH ft listed id' k' → (HH k)[id]? = some (some b) → (HH k')[id']? = some (some b') → b.wr = true → id ≠ id' →
    p id = some r → p id' = some r' → r.blk ≠ r'.blk
  known : ∀ i, i < m → Dn listed i → ∀ id ∈ (ft i).sees, (HH 0).length ≤ id → ∃ r, p id = some r
  os : w.os = w0.os
  tape : w.tape = w0.tape
  output : w.output = w0.output
  wsize : w0.heap.size ≤ w.heap.size
  block : ∀ k, k < w0.heap.size → ¬ Wr p0 (HH 0) k → w.heap[k]? = w0.heap[k]?
  old : ∀ id, id < (HH 0).length → p id = p0 id
  fresh : ∀ id r, p id = some r → (HH 0).length ≤ id → w0.heap.size ≤ r.blk ∨ Wr p0 (HH 0) r.blk

variable {bs : List Nat} {ft : Nat → Foot}

theorem Given.len_mono (g : Given P callf ops bs m tt HH ft) : ∀ {i j : Nat}, i ≤ j → j ≤ m → (HH i).length ≤ (HH j).length := by
  intro i j hij
  induction hij with
  | refl => intro _; exact Nat.le_refl _
  | step h ih =>
    rename_i k
    intro hk
    obtain ⟨o, v, N, _, _, hd⟩ := g.step k (by omega)
    have := ih (by omega)
    have hl := hd.len
    show (HH i).length ≤ (HH (k + 1)).length; omega

/-- What no operation between i and j writes stays there. -/
theorem Given.stay (g : Given P callf ops bs m tt HH ft) : ∀ {i j : Nat}, i ≤ j → j ≤ m → ∀ {id : Nat}, id < (HH i).length → (∀ k, i ≤ k → k < j → id ∉ (ft k).sets) → (HH j)[id]? = (HH i)[id]? := by
  intro i j hij
  induction hij with
  | refl => intro _ id _ _; rfl
  | step h ih =>
    rename_i k
    intro hk id hid hno
    obtain ⟨o, v, N, _, _, hd⟩ := g.step k (by omega)
    have := g.len_mono h (by omega)
    rw [hd.same id (by omega) (hno k h (by omega))]
    exact ih (by omega) hid fun k' h1 h2 => hno k' h1 (by omega)

theorem Given.wr_back (g : Given P callf ops bs m tt HH ft) : ∀ {j : Nat}, j ≤ m → ∀ {id : Nat} {b : ABlk}, id < (HH 0).length → (HH j)[id]? = some (some b) → ∃ b0, (HH 0)[id]? = some (some b0) ∧ (b.wr = true → b0.wr = true) := by
  intro j
  induction j with
  | zero => intro _ id b _ h; exact ⟨b, h, fun h => h⟩
  | succ j ih =>
    intro hj id b hl hb
    obtain ⟨o, v, N, _, _, hd⟩ := g.step j (by omega)
    have hlen := g.len_mono (Nat.zero_le j) (by omega)
    by_cases hs : id ∈ (ft j).sets
    · obtain ⟨b1, h1, h2⟩ := hd.back id b hs (by omega) hb
      obtain ⟨b0, h3, h4⟩ := ih (by omega) hl h1
      exact ⟨b0, h3, fun h => h4 (h2 h)⟩
    · rw [hd.same id (by omega) hs] at hb
      exact ih (by omega) hl hb
theorem Given.ro (g : Given P callf ops bs m tt HH ft) : ∀ {j : Nat}, j ≤ m → ∀ {id : Nat} {b : ABlk}, (HH 0)[id]? = some (some b) → b.wr = false → (HH j)[id]? = some (some b) := by
  intro j
  induction j with
  | zero => intro _ id b h _; exact h
  | succ j ih =>
    intro hj id b hb hw
    obtain ⟨o, v, N, _, _, hd⟩ := g.step j (by omega)
    have h1 := ih (by omega) hb hw
    have hlt := (List.getElem?_eq_some_iff.1 h1).1
    by_cases hs : id ∈ (ft j).sets
    · exact hd.still id b hs h1 hw
    · rw [hd.same id hlt hs]; exact h1

theorem Given.bef_lt (g : Given P callf ops bs m tt HH ft) : ∀ (n i : Nat), i ≤ n → i < ops.size → ∀ j, Bef bs j i → j < i := by
  intro n
  induction n with
  | zero =>
    intro i hi hs j hb
    obtain ⟨e, he, hbb, _⟩ := g.edge j i _ (Array.getElem?_eq_getElem hs) hb
    have := g.text i _ (Array.getElem?_eq_getElem hs) e he hbb; omega
  | succ n ih2 =>
    intro i hi hs j hb
    obtain ⟨e, he, hbb, h1⟩ := g.edge j i _ (Array.getElem?_eq_getElem hs) hb
    have h2 := g.text i _ (Array.getElem?_eq_getElem hs) e he hbb
    rcases h1 with rfl | h1
    · exact h2
    · have := ih2 e.on (by omega) (by omega) j h1; omega
theorem Given.lt (g : Given P callf ops bs m tt HH ft) {i j : Nat} (hi : i < m) (h : Bef bs j i) : j < i := g.bef_lt i i (Nat.le_refl _) (Nat.lt_of_lt_of_le hi g.le) j h

theorem Given.ver_same (g : Given P callf ops bs m tt HH ft) {listed : Array Bool} {id k k' : Nat} (h : Ver m HH ft listed id k) (h' : Ver m HH ft listed id k') : (HH k)[id]? = (HH k')[id]? := by
  have main : ∀ {k k' : Nat}, k ≤ k' → Ver m HH ft listed id k → Ver m HH ft listed id k' → (HH k')[id]? = (HH k)[id]? := fun {k k'} hkk h h' =>
    g.stay hkk h'.le h.lt fun i h1 h2 hs => by
      have := h'.le
      have := (h.set i (by omega) hs).2 ((h'.set i (by omega) hs).1 h2); omega
  rcases Nat.le_total k k' with hkk | hkk
  · exact (main hkk h h').symm
  · exact main hkk h' h

theorem Given.range_uniq (g : Given P callf ops bs m tt HH ft) {i j id : Nat} (hi : i < m) (hj : j < m) (h1 : (HH i).length ≤ id) (h2 : id < (HH (i + 1)).length) (h3 : (HH j).length ≤ id) (h4 : id < (HH (j + 1)).length) : i = j := by
  rcases Nat.lt_trichotomy i j with h | h | h
  · have := g.len_mono (i := i + 1) (j := j) (by omega) (by omega); omega
  · exact h
  · have := g.len_mono (i := j + 1) (j := i) (by omega) (by omega); omega

theorem aput_get {t : Array Value} {dst : Option Tmp} {v : Value} {s : Nat} (h : dst ≠ some s) : (aput t dst v)[s]? = t[s]? := by
  cases dst with
  | none => rfl
  | some d => simp only [aput]; rw [Array.getElem?_setIfInBounds_ne (fun e => h (by rw [e]))]
theorem aput_size {t : Array Value} {dst : Option Tmp} {v : Value} : (aput t dst v).size = t.size := by cases dst <;> simp [aput]

/-- A slot that no operation between i and j writes. -/
theorem Given.slot (g : Given P callf ops bs m tt HH ft) {s : Nat} : ∀ {i j : Nat}, i ≤ j → j ≤ m → (∀ k o, i ≤ k → k < j → ops[k]? = some o → o.dst ≠ some s) → (tt j)[s]? = (tt i)[s]? := by
  intro i j hij
  induction hij with
  | refl => intro _ _; rfl
  | step h ih =>
    rename_i k
    intro hk hno
    obtain ⟨o, v, N, ho, ht, _⟩ := g.step k (by omega)
    rw [ht, aput_get (hno k o h (by omega) ho)]
    exact ih (by omega) fun k' o' h1 h2 h3 => hno k' o' h1 (by omega) h3

theorem Given.tsize (g : Given P callf ops bs m tt HH ft) : ∀ {j : Nat}, j ≤ m → (tt j).size = (tt 0).size := by
  intro j
  induction j with
  | zero => intro _; rfl
  | succ j ih =>
    intro hj
    obtain ⟨o, v, N, _, ht, _⟩ := g.step j (by omega)
    rw [ht, aput_size]; exact ih (by omega)

variable {listed : Array Bool} {p : Ren} {a : Act} {w : World}

/-- What an operation that comes up next looks at. -/
theorem Inv.opd (g : Given P callf ops bs m tt HH ft) (h : Inv ops bs m tt HH ft p0 w0 listed p a w) {j : Nat} {o : Oper} (hj : j < m) (ho : ops[j]? = some o) (hn : ¬ Dn listed j)
    (hb : ∀ k, Bef bs k j → Dn listed k) {s : Nat} (hs : s ∈ o.looksAt ops) {u : Value} (hu : (tt j)[s]? = some u) : ∃ u', a.tmps[s]? = some u' ∧ VR (upto p (HH j).length) u u' := by
  by_cases hex : ∃ i oi, i < m ∧ ops[i]? = some oi ∧ oi.dst = some s
  · obtain ⟨i, oi, him, hoi, hd⟩ := hex
    have uniq : ∀ k ok, k < m → ops[k]? = some ok → ok.dst = some s → k = i := fun k ok hk hok hdk => by
      by_cases hki : k = i
      · exact hki
      · exact absurd hd ((g.ok k i ok oi hok hoi hk him hki) s hdk).1
    have init : (tt j)[s]? = (tt 0)[s]? → ¬ Dn listed i → ∃ u', a.tmps[s]? = some u' ∧ VR (upto p (HH j).length) u u' := fun h0 hni => by
      obtain ⟨u', h1, h2⟩ := h.slotN s (fun k ok hk hdk hok hdd => by
        have := uniq k ok hk hok hdd; subst this; exact hni hdk) u (by rw [← h0]; exact hu)
      exact ⟨u', h1, h2.mono (upto_mono (fun _ _ _ h => h) (g.len_mono (Nat.zero_le _) (by omega)))⟩
    by_cases hij : i = j
    · subst hij
      exact init (g.slot (Nat.zero_le _) (by omega) fun k ok _ hk hok hdk => by have := uniq k ok (by omega) hok hdk; omega) hn
    · rcases ((g.ok i j oi o hoi ho him hj hij) s hd).2 hs with ⟨hlt, hbe⟩ | ⟨hlt, hbe⟩
      · have hdi := hb i hbe
        have htm : (tt m)[s]? = (tt j)[s]? := by
          have e1 := g.slot (s := s) (i := i + 1) (j := m) (by omega) (Nat.le_refl _) fun k ok hk1 hk2 hok hdk => by have := uniq k ok hk2 hok hdk; omega
          have e2 := g.slot (s := s) (i := i + 1) (j := j) (by omega) (by omega) fun k ok hk1 hk2 hok hdk => by have := uniq k ok (by omega) hok hdk; omega
          rw [e1, e2]
        obtain ⟨u', h1, h2⟩ := h.slotW i oi s him hdi hoi hd u (by rw [htm]; exact hu)
        exact ⟨u', h1, h2.mono (upto_mono (fun _ _ _ h => h) (g.len_mono (by omega) (by omega)))⟩
      · exact init (g.slot (Nat.zero_le _) (by omega) fun k ok _ hk hok hdk => by have := uniq k ok (by omega) hok hdk; omega) fun hdi => hn (h.closed i j hdi hbe)
  · have hno : ∀ k ok, k < m → ops[k]? = some ok → ok.dst ≠ some s := fun k ok hk hok hdk => hex ⟨k, ok, hk, hok, hdk⟩
    obtain ⟨u', h1, h2⟩ := h.slotN s (fun k ok hk _ hok => hno k ok hk hok) u (by rw [← g.slot (s := s) (Nat.zero_le j) (by omega) fun k ok _ hk hok => hno k ok (by omega) hok]; exact hu)
    exact ⟨u', h1, h2.mono (upto_mono (fun _ _ _ h => h) (g.len_mono (Nat.zero_le _) (by omega)))⟩

theorem Inv.opd_none (g : Given P callf ops bs m tt HH ft) (h : Inv ops bs m tt HH ft p0 w0 listed p a w) {j s : Nat} (hj : j ≤ m) (hu : (tt j)[s]? = none) : a.tmps[s]? = none := by
  rw [Array.getElem?_eq_none_iff] at hu ⊢
  rw [h.tsize, ← g.tsize hj]; exact hu

/-- Its test is the same. -/
theorem Inv.wanted (g : Given P callf ops bs m tt HH ft) (h : Inv ops bs m tt HH ft p0 w0 listed p a w) {j : Nat} {o : Oper} (hj : j < m) (ho : ops[j]? = some o) (hn : ¬ Dn listed j)
    (hb : ∀ k, Bef bs k j → Dn listed k) (hbl : blind ops (tt j) o = false) : Region.wanted o (yielded ops (tt j)) = Region.wanted o (yielded ops a.tmps) := by
  unfold Region.wanted
  unfold blind at hbl
  cases hg : o.guard with
  | none => rfl
  | some x =>
    obtain ⟨k, want⟩ := x
    rw [hg] at hbl
    have : yielded ops (tt j) k = yielded ops a.tmps k := by
      unfold yielded
      cases hd : (ops[k]?).bind (·.dst) with
      | none => rfl
      | some d =>
        simp only [Option.bind_some]
        have hs : d ∈ o.looksAt ops := by unfold Oper.looksAt; rw [hg]; simp [hd]
        cases hu : (tt j)[d]? with
        | none => rw [h.opd_none g (by omega) hu]
        | some u =>
          obtain ⟨u', h1, h2⟩ := h.opd g hj ho hn hb hs hu
          rw [h1]
          simp only [hd, Option.bind_some, hu] at hbl
          refine h2.bool_iff (fun n hn => ?_) ?_
          · rw [hn] at hbl; cases hbl
          · split at hbl
            · cases hbl
            · rename_i hq; simp only [Option.some.injEq] at hq; subst hq; exact hbl
            · rename_i hq; cases hq
    simp only [this]

theorem BR.calm {p : Ren} {w : World} {b : ABlk} {r : Rb} (h : BR p w b r) : BR p w { b with wr := false } r := ⟨h.lt, h.cell, h.own, fun h => (by cases h), h.same⟩

theorem dn_set {listed : Array Bool} {j : Nat} (hj : j < listed.size) (i : Nat) : Dn (listed.setIfInBounds j true) i ↔ i = j ∨ Dn listed i := by
  unfold Dn
  by_cases h : i = j
  · subst h; simp [hj]
  · rw [getD_set_ne false (Ne.symm h)]; simp [h]

/-- What the operation that comes up next names is known. -/
def Hop (p : Ren) (HH : Nat → AH) (ft : Nat → Foot) (j : Nat) : Prop := ∀ id ∈ (ft j).sees, id < (HH 0).length ∨ (id < (HH j).length ∧ ∃ r, p id = some r)

/-- The blocks that an operation touches are as they were in the order of the text. -/
theorem Inv.ver (g : Given P callf ops bs m tt HH ft) (h : Inv ops bs m tt HH ft p0 w0 listed p a w) {j : Nat} (hj : j < m) (hn : ¬ Dn listed j) (hb : ∀ k, Bef bs k j → Dn listed k)
    (hop : Hop p HH ft j) {id : Nat} (ht : id ∈ (ft j).sees) : Ver m HH ft listed id j := by
  have hL0 := g.len_mono (Nat.zero_le j) (by omega)
  have hl : id < (HH j).length := by rcases hop id ht with h1 | ⟨h1, _⟩ <;> omega
  refine ⟨by omega, hl, fun i hi hs => ?_, fun i hi h1 h2 => ?_⟩
  · by_cases hij : i = j
    · subst hij; exact ⟨fun h => by omega, fun h => absurd h hn⟩
    · have hne : (ft i).sets ≠ [] := fun he => by rw [he] at hs; cases hs
      rcases (g.foots i j hi hj hij).resolve_left hne with h1 | h1 | h2
      · exact ⟨fun _ => hb i h1, fun _ => g.lt hj h1⟩
      · exact ⟨fun h3 => by have := g.lt hi h1; omega, fun h3 => absurd (h.closed i j h3 h1) hn⟩
      · exact absurd ht (h2 id hs)
  · rcases hop id ht with h3 | ⟨_, r, hr⟩
    · have := g.len_mono (Nat.zero_le i) (by omega); omega
    · rcases h.dom id r hr with h0 | ⟨i', hi', hd, h3, h4⟩
      · have := g.len_mono (Nat.zero_le i) (by omega); omega
      · have := g.range_uniq hi hi' h1 h2 h3 h4; subst this; exact hd

theorem Inv.sr (g : Given P callf ops bs m tt HH ft) (h : Inv ops bs m tt HH ft p0 w0 listed p a w) {j : Nat} (hj : j < m) (hn : ¬ Dn listed j) (hb : ∀ k, Bef bs k j → Dn listed k)
    (hop : Hop p HH ft j) : SR (upto p (HH j).length) (seen (ft j) (HH j)) w := by
  have ver : ∀ {id : Nat} {b : ABlk}, (seen (ft j) (HH j))[id]? = some (some b) → Ver m HH ft listed id j := fun {id b} hs => h.ver g hj hn hb hop (seen_get hs).2.1
  constructor
  · intro id r hr
    rw [seen_len]
    rcases Nat.lt_or_ge id (HH j).length with hl | hl
    · exact hl
    · rw [upto_ge hl] at hr; cases hr
  · intro id b hs
    obtain ⟨hl, _, b0, h0, h1⟩ := seen_get hs
    obtain ⟨r, hr, hbr⟩ := h.blk id j b0 (ver hs) h0
    refine ⟨r, by rw [upto_lt hl]; exact hr, ?_⟩
    rcases h1 with ⟨_, rfl⟩ | ⟨_, rfl⟩
    · exact hbr.calm
    · exact hbr
  · intro id id' b b' r r' hs hs' hw hne hr hr'
    obtain ⟨hl, _, b0, h0, h1⟩ := seen_get hs
    obtain ⟨hl', _, b0', h0', _⟩ := seen_get hs'
    rcases h1 with ⟨_, rfl⟩ | ⟨_, rfl⟩
    · cases hw
    · rw [upto_lt hl] at hr; rw [upto_lt hl'] at hr'
      exact h.inj id id' j j b b0' r r' (ver hs) (ver hs') h0 h0' hw hne hr hr'

theorem VR.narrow {p1 q1 : Ren} (he : ∀ id r r1, p1 id = some r1 → q1 id = some r → r = r1) {v v' : Value} (h : VR q1 v v') : ∀ {v2 : Value}, VR p1 v v2 → VR p1 v v' := by
  induction h with
  | same hf => intro v2 k; exact .same hf
  | glob => intro v2 k; exact .glob
  | ptr hr =>
    intro v2 k
    cases k with
    | ptr hr1 => have := he _ _ _ hr1 hr; subst this; exact .ptr hr1
    | same hf => simp [flat1] at hf
  | sl hr hn hc ho =>
    intro v2 k
    cases k with
    | sl hr1 => have := he _ _ _ hr1 hr; subst this; exact .sl hr1 hn hc ho
    | same hf => simp [flat1] at hf
  | agg hs _ ih =>
    intro v2 k
    cases k with
    | agg hs2 hv2 => exact .agg hs fun i a b => ih i a b (hv2 i a (hs2 ▸ a))
    | same hf => simp [flat1] at hf
  | tup hs _ ih =>
    intro v2 k
    cases k with
    | junk => exact .junk
    | tup hs2 hv2 => exact .tup hs fun i a b => ih i a b (hv2 i a (hs2 ▸ a))
    | same hf => simp [flat1] at hf
  | emp => intro v2 _; exact .emp
  | any h1 => intro v2 _; exact .any h1
  | junk => intro v2 _; exact .junk
  | fn hs _ ht _ ih ih2 =>
    intro v2 k
    cases k with
    | fn hs2 hv2 ht2 hu2 => exact .fn hs (fun i a b => ih i a b (hv2 i a (hs2 ▸ a))) ht (fun i a b => ih2 i a b (hu2 i a (ht2 ▸ a)))
    | same hf => simp [flat1] at hf
theorem BR.narrow {p1 q1 : Ren} (he : ∀ id r r1, p1 id = some r1 → q1 id = some r → r = r1) {w w' : World} {b : ABlk} {r : Rb} (h : BR q1 w' b r) (k : BR p1 w b r) : BR p1 w' b r :=
  ⟨h.lt, fun i v hv => by
    obtain ⟨v', h1, h2⟩ := h.cell i v hv
    obtain ⟨v2, _, h3⟩ := k.cell i v hv
    exact ⟨v', h1, h2.narrow he h3⟩, h.own, h.wr, h.same⟩

/-- One operation more. -/
theorem Inv.next (g : Given P callf ops bs m tt HH ft) (h : Inv ops bs m tt HH ft p0 w0 listed p a w) {j : Nat} {o : Oper} {v v' : Value} {N K : AH} {p' : Ren} {w' : World}
    (hj : j < m) (ho : ops[j]? = some o) (hn : ¬ Dn listed j) (hb : ∀ k, Bef bs k j → Dn listed k)
    (ht : tt (j + 1) = aput (tt j) o.dst v) (hd : Does P callf (HH 0).length ops (tt j) (HH j) (ft j) o v (HH (j + 1)) N)
    (hop : Hop p HH ft j) (hK : K.drop (HH j).length = N) (hKs : ∀ id ∈ (ft j).sets, ∀ b, (HH (j + 1))[id]? = some (some b) → K[id]? = some (some b))
    (hKt : ∀ id ∈ (ft j).sees, id ∉ (ft j).sets → mayWrite (seen (ft j) (HH j)) id = true → ∀ b, (HH (j + 1))[id]? = some (some b) → K[id]? = some (some b)) (hv : VR p' v v')
    (st : St (upto p (HH j).length) (seen (ft j) (HH j)) w p' K w') :
    ∃ q, Inv ops bs m tt HH ft p0 w0 (listed.setIfInBounds j true) q (a.put o.dst v') w' := by
  have hjn : j < listed.size := by rw [h.size]; exact Nat.lt_of_lt_of_le hj g.le
  have hL0 := g.len_mono (Nat.zero_le j) (by omega)
  have hlt : ∀ id ∈ (ft j).sees, id < (HH j).length := fun id hid => by rcases hop id hid with h1 | ⟨h1, _⟩ <;> omega
  have hKl : K.length = (HH j).length + N.length := by
    have h1 := st.len; rw [seen_len] at h1
    have h2 : (K.drop (HH j).length).length = N.length := by rw [hK]
    rw [List.length_drop] at h2; omega
  have hL' : (HH (j + 1)).length = (HH j).length + N.length := hd.len
  let q : Ren := fun id => if (HH j).length ≤ id ∧ id < (HH (j + 1)).length then p' id else p id
  have qin : ∀ id, (HH j).length ≤ id → id < (HH (j + 1)).length → q id = p' id := fun id h1 h2 => if_pos ⟨h1, h2⟩
  have qout : ∀ id, ¬ ((HH j).length ≤ id ∧ id < (HH (j + 1)).length) → q id = p id := fun id h1 => if_neg h1
  have qlow : ∀ id, id < (HH j).length → q id = p id := fun id h1 => if_neg (by omega)
  have notin : ∀ id r, p id = some r → ¬ ((HH j).length ≤ id ∧ id < (HH (j + 1)).length) := by
    intro id r hr hin
    rcases h.dom id r hr with h0 | ⟨i, hi, hdi, h1, h2⟩
    · omega
    · have := g.range_uniq hi hj h1 h2 hin.1 hin.2; subst this; exact hn hdi
  have ep : Ext p q := fun id r hr => by rw [qout id (notin id r hr)]; exact hr
  have plow : ∀ id, id < (HH j).length → p' id = p id := fun id hl => by rw [st.old id (by rw [seen_len]; exact hl), upto_lt hl]
  have ep' : Ext p' (upto q (HH (j + 1)).length) := fun id r hr => by
    have hd := st.sr.dom id r hr
    rw [upto_lt (by omega)]
    by_cases hl : id < (HH j).length
    · rw [qlow id hl, ← plow id hl]; exact hr
    · rw [qin id (by omega) (by omega)]; exact hr
  have agree : ∀ L id r r1, upto p L id = some r1 → p' id = some r → r = r1 := fun L id r r1 h1 h2 => by
    have h1 := upto_ext p L id r1 h1
    have hdm := st.sr.dom id r h2
    by_cases hl : id < (HH j).length
    · rw [plow id hl, h1] at h2; injection h2 with h2; exact h2.symm
    · exact absurd ⟨by omega, by omega⟩ (notin id r1 h1)
  have um : ∀ L, Ext (upto p L) (upto q L) := fun L => upto_mono (fun id r _ hr => ep id r hr) (Nat.le_refl _)
  have wrSeen : ∀ k, Wr (upto p (HH j).length) (seen (ft j) (HH j)) k → ∃ id b r, mayWrite (seen (ft j) (HH j)) id = true ∧ id ∈ (ft j).sees ∧ (HH j)[id]? = some (some b) ∧ b.wr = true ∧ p id = some r ∧ r.blk = k := fun k ⟨id, b, r, h1, h2, h3, h4⟩ => by
    obtain ⟨hl, h7, b0, h5, h6⟩ := seen_get h1
    have hm := mayWrite_iff.2 ⟨b, h1, h2⟩
    rcases h6 with ⟨_, rfl⟩ | ⟨h6, rfl⟩
    · cases h2
    · rw [upto_lt hl] at h3; exact ⟨id, b, r, hm, h7, h5, h2, h3, h4⟩
  have verj : ∀ id, id ∈ (ft j).sees → Ver m HH ft listed id j := fun id hid => h.ver g hj hn hb hop hid
  have wrs : ∀ k, Wr (upto p (HH j).length) (seen (ft j) (HH j)) k → w0.heap.size ≤ k ∨ Wr p0 (HH 0) k := fun k hk => by
    obtain ⟨id, b, r, _, h1, h2, h3, h4, rfl⟩ := wrSeen k hk
    by_cases hl : id < (HH 0).length
    · obtain ⟨b0, h5, h6⟩ := g.wr_back (by omega) hl h2
      exact .inr ⟨id, b0, r, h5, h6 h3, by rw [← h.old id hl]; exact h4, rfl⟩
    · exact h.fresh id r h4 (by omega)
  have Knew : ∀ id, (HH j).length ≤ id → K[id]? = (HH (j + 1))[id]? := fun id h1 => by
    have e1 : (K.drop (HH j).length)[id - (HH j).length]? = ((HH (j + 1)).drop (HH j).length)[id - (HH j).length]? := by rw [hK, hd.new]
    rw [List.getElem?_drop, List.getElem?_drop] at e1
    rwa [show (HH j).length + (id - (HH j).length) = id by omega] at e1
  have back : ∀ id (b : ABlk), id < (HH j).length → (HH (j + 1))[id]? = some (some b) → ∃ b0, (HH j)[id]? = some (some b0) ∧ (b.wr = true → b0.wr = true) := fun id b hl hbb => by
    by_cases hs : id ∈ (ft j).sets
    · exact hd.back id b hs hl hbb
    · rw [hd.same id hl hs] at hbb; exact ⟨b, hbb, fun h => h⟩
  have v1 : ∀ id k, Ver m HH ft (listed.setIfInBounds j true) id k → id ∉ (ft j).sets → ¬ ((HH j).length ≤ id ∧ id < (HH (j + 1)).length) → Ver m HH ft listed id k := fun id k hk hs hr =>
    ⟨hk.le, hk.lt, fun i hi hi2 => by
      have hij : i ≠ j := fun e => by subst e; exact hs hi2
      rw [hk.set i hi hi2, dn_set hjn i]; exact ⟨fun h => h.resolve_left hij, .inr⟩, fun i hi h1 h2 => by
      have := (dn_set hjn i).1 (hk.born i hi h1 h2)
      refine this.resolve_left fun e => ?_
      subst e; exact hr ⟨h1, h2⟩⟩
  have v2 : ∀ id k, Ver m HH ft (listed.setIfInBounds j true) id k → (id ∈ (ft j).sets ∨ ((HH j).length ≤ id ∧ id < (HH (j + 1)).length)) → j + 1 ≤ k ∧ (HH k)[id]? = (HH (j + 1))[id]? := fun id k hk hs => by
    have hjk : j < k := by
      rcases hs with hs | hs
      · exact (hk.set j hj hs).2 ((dn_set hjn j).2 (.inl rfl))
      · rcases Nat.lt_or_ge j k with h1 | h1
        · exact h1
        · have := g.len_mono h1 (by omega); have := hk.lt; omega
    have hlid : id < (HH (j + 1)).length := by
      rcases hs with hs | hs
      · have := hlt id (hd.sub id hs); omega
      · exact hs.2
    refine ⟨hjk, g.stay hjk hk.le hlid fun i h1 h2 hi2 => ?_⟩
    have hkm := hk.le
    have hdi := ((dn_set hjn i).1 ((hk.set i (by omega) hi2).1 h2)).resolve_left (by omega)
    obtain ⟨_, _, _, _, _, hdd⟩ := g.step i (by omega)
    rcases hs with hs | hs
    · rcases (g.foots i j (by omega) hj (by omega)).resolve_left (fun he => by rw [he] at hi2; cases hi2) with h3 | h3 | h3
      · have := g.lt hj h3; omega
      · exact hn (h.closed i j hdi h3)
      · exact h3 id hi2 (hd.sub id hs)
    · obtain ⟨r, hr⟩ := h.known i (by omega) hdi id (hdd.sub id hi2) (by omega)
      exact notin id r hr hs
  have oldver : ∀ id k (b : ABlk), ¬ ((HH j).length ≤ id ∧ id < (HH (j + 1)).length) → Ver m HH ft (listed.setIfInBounds j true) id k → (HH k)[id]? = some (some b) →
      ∃ kk b0, Ver m HH ft listed id kk ∧ (HH kk)[id]? = some (some b0) ∧ (b.wr = true → b0.wr = true) := fun id k b hr hk hbb => by
    by_cases hs : id ∈ (ft j).sets
    · rw [(v2 id k hk (.inl hs)).2] at hbb
      obtain ⟨b0, h1, h2⟩ := back id b (hlt id (hd.sub id hs)) hbb
      exact ⟨j, b0, verj id (hd.sub id hs), h1, h2⟩
    · exact ⟨k, b, v1 id k hk hs hr, hbb, fun h => h⟩
  have mixed : ∀ idn ido kn ko (bn bo : ABlk) rn ro, ((HH j).length ≤ idn ∧ idn < (HH (j + 1)).length) → ¬ ((HH j).length ≤ ido ∧ ido < (HH (j + 1)).length) →
      Ver m HH ft (listed.setIfInBounds j true) idn kn → Ver m HH ft (listed.setIfInBounds j true) ido ko → (HH kn)[idn]? = some (some bn) → (HH ko)[ido]? = some (some bo) → (bn.wr = true ∨ bo.wr = true) →
      p' idn = some rn → p ido = some ro → rn.blk ≠ ro.blk := by
    intro idn ido kn ko bn bo rn ro hin hout hkn hko hbn hbo hwr hrn hro
    obtain ⟨kk, b0, hv0, hb0, hw0⟩ := oldver ido ko bo hout hko hbo
    obtain ⟨r1, hr1, hbr⟩ := h.blk ido kk b0 hv0 hb0
    rw [hro] at hr1; injection hr1 with hr1; subst hr1
    have hKn : K[idn]? = some (some bn) := by rw [Knew idn hin.1, ← (v2 idn kn hkn (.inr hin)).2]; exact hbn
    rcases st.fresh idn rn hrn (by rw [seen_len]; exact hin.1) with h1 | h1
    · have := hbr.lt; omega
    · obtain ⟨id3, b3, r3, hm3, hs3, hb3, hw3, hr3, he3⟩ := wrSeen _ h1
      by_cases h3 : id3 = ido
      · subst h3
        have hKo : K[id3]? = some (some bo) := by
          by_cases hs : id3 ∈ (ft j).sets
          · exact hKs id3 hs bo (by rw [← (v2 id3 ko hko (.inl hs)).2]; exact hbo)
          · have e1 := g.ver_same (v1 id3 ko hko hs hout) (verj id3 hs3)
            exact hKt id3 hs3 hs hm3 bo (by rw [hd.same id3 (hlt id3 hs3) hs, ← e1]; exact hbo)
        have hpo : p' id3 = some ro := by rw [plow id3 (hlt id3 hs3)]; exact hro
        have hne : idn ≠ id3 := fun e => hout (e ▸ hin)
        rcases hwr with hwr | hwr
        · exact st.sr.inj idn id3 bn bo rn ro hKn hKo hwr hne hrn hpo
        · exact (st.sr.inj id3 idn bo bn ro rn hKo hKn hwr hne.symm hpo hrn).symm
      · rw [← he3]
        exact h.inj id3 ido j kk b3 b0 r3 ro (verj id3 hs3) hv0 hb3 hb0 hw3 h3 hr3 hro
  have uniq : ∀ i oi d, i < m → ops[i]? = some oi → i ≠ j → oi.dst = some d → o.dst ≠ some d := fun i oi d hi hoi hij hd => ((g.ok i j oi o hoi ho hi hj hij) d hd).1
  have putne : ∀ d, o.dst ≠ some d → (a.put o.dst v').tmps[d]? = a.tmps[d]? := fun d hd => by
    cases hdd : o.dst with
    | none => rfl
    | some e => simp only [Act.put]; rw [Array.getElem?_setIfInBounds_ne (fun e2 => hd (by rw [hdd, e2]))]
  refine ⟨q, ?_⟩
  constructor
  · simp [h.size]
  · intro i hi hd
    rcases (dn_set hjn i).1 hd with h1 | h1
    · omega
    · exact h.low i hi h1
  · intro i k hd hbe
    refine (dn_set hjn k).2 ?_
    rcases (dn_set hjn i).1 hd with h1 | h1
    · subst h1; exact .inr (hb k hbe)
    · exact .inr (h.closed i k h1 hbe)
  · rw [put_defers]; exact h.defers
  · cases hd : o.dst with
    | none => exact h.tsize
    | some e => simp only [Act.put, Array.size_setIfInBounds]; exact h.tsize
  · intro i oi d hi hd hoi hdd u hu
    by_cases hij : i = j
    · subst hij
      rw [ho] at hoi; injection hoi with hoi; subst hoi
      have e1 := g.slot (s := d) (i := i + 1) (j := m) (by omega) (Nat.le_refl _) fun k ok hk1 hk2 hok hdk => uniq k ok d hk2 hok (by omega) hdk hdd
      rw [e1, ht, hdd] at hu
      simp only [aput] at hu
      have hsz : d < (tt i).size := by
        rcases Nat.lt_or_ge d (tt i).size with h1 | h1
        · exact h1
        · rw [Array.getElem?_eq_none (by simpa using h1)] at hu; cases hu
      rw [Array.getElem?_setIfInBounds_self_of_lt hsz] at hu
      injection hu with hu; subst hu
      refine ⟨v', ?_, hv.mono ep'⟩
      rw [hdd]
      simp only [Act.put]
      rw [Array.getElem?_setIfInBounds_self_of_lt (by rw [h.tsize, ← g.tsize (j := i) (by omega)]; exact hsz)]
    · have hdi := ((dn_set hjn i).1 hd).resolve_left hij
      obtain ⟨u', h1, h2⟩ := h.slotW i oi d hi hdi hoi hdd u hu
      exact ⟨u', by rw [putne d (uniq i oi d hi hoi hij hdd)]; exact h1, h2.mono (um _)⟩
  · intro d hno u hu
    have hjd : o.dst ≠ some d := hno j o hj ((dn_set hjn j).2 (.inl rfl)) ho
    obtain ⟨u', h1, h2⟩ := h.slotN d (fun i oi hi hdi hoi => hno i oi hi ((dn_set hjn i).2 (.inr hdi)) hoi) u hu
    exact ⟨u', by rw [putne d hjd]; exact h1, h2.mono (um _)⟩
  · intro id r hr
    by_cases hin : (HH j).length ≤ id ∧ id < (HH (j + 1)).length
    · exact .inr ⟨j, hj, (dn_set hjn j).2 (.inl rfl), hin.1, hin.2⟩
    · rw [qout id hin] at hr
      rcases h.dom id r hr with h0 | ⟨i, hi, hdi, h1, h2⟩
      · exact .inl h0
      · exact .inr ⟨i, hi, (dn_set hjn i).2 (.inr hdi), h1, h2⟩
  · intro id k b hk hbb
    by_cases hs : id ∈ (ft j).sets ∨ ((HH j).length ≤ id ∧ id < (HH (j + 1)).length)
    · obtain ⟨hjk, he⟩ := v2 id k hk hs
      rw [he] at hbb
      have hKb : K[id]? = some (some b) := by
        rcases hs with hs | hs
        · exact hKs id hs b hbb
        · rw [Knew id hs.1]; exact hbb
      obtain ⟨r, hr, hbr⟩ := st.sr.blk id b hKb
      have hq : q id = some r := upto_ext q _ id r (ep' id r hr)
      exact ⟨r, hq, hbr.mono (ep'.trans (upto_mono (fun _ _ _ h => h) (g.len_mono hjk hk.le)))⟩
    · have hs1 : id ∉ (ft j).sets := fun h => hs (.inl h)
      have hs2 : ¬ ((HH j).length ≤ id ∧ id < (HH (j + 1)).length) := fun h => hs (.inr h)
      have hk1 := v1 id k hk hs1 hs2
      obtain ⟨r, hr, hbr⟩ := h.blk id k b hk1 hbb
      refine ⟨r, ep id r hr, ?_⟩
      by_cases hW : Wr (upto p (HH j).length) (seen (ft j) (HH j)) r.blk
      · obtain ⟨id3, b3, r3, hm3, hs3, hb3, hw3, hr3, he3⟩ := wrSeen _ hW
        by_cases h3 : id3 = id
        · subst h3
          have e1 := g.ver_same hk1 (verj id3 hs3)
          rw [hbb, hb3] at e1
          simp only [Option.some.injEq] at e1
          subst e1
          have hKb : K[id3]? = some (some b) := hKt id3 hs3 hs1 hm3 b (by rw [hd.same id3 (hlt id3 hs3) hs1]; exact hb3)
          obtain ⟨r2, hr2, hbr2⟩ := st.sr.blk id3 b hKb
          rw [plow id3 (hlt id3 hs3), hr] at hr2
          injection hr2 with hr2; subst hr2
          exact (hbr2.narrow (agree _) hbr).mono (um _)
        · exact absurd he3 (h.inj id3 id j k b3 b r3 r (verj id3 hs3) hk1 hb3 hbb hw3 h3 hr3 hr)
      · exact (hbr.mono (um _)).keep st.size (st.block _ hbr.lt hW)
  · intro id id' k k' b b' r r' hk hk' hb1 hb2 hw hne hr hr'
    by_cases hin : (HH j).length ≤ id ∧ id < (HH (j + 1)).length <;> by_cases hin' : (HH j).length ≤ id' ∧ id' < (HH (j + 1)).length
    · rw [qin id hin.1 hin.2] at hr; rw [qin id' hin'.1 hin'.2] at hr'
      rw [(v2 id k hk (.inr hin)).2] at hb1; rw [(v2 id' k' hk' (.inr hin')).2] at hb2
      exact st.sr.inj id id' b b' r r' (by rw [Knew id hin.1]; exact hb1) (by rw [Knew id' hin'.1]; exact hb2) hw hne hr hr'
    · rw [qin id hin.1 hin.2] at hr; rw [qout id' hin'] at hr'
      exact mixed id id' k k' b b' r r' hin hin' hk hk' hb1 hb2 (.inl hw) hr hr'
    · rw [qout id hin] at hr; rw [qin id' hin'.1 hin'.2] at hr'
      exact (mixed id' id k' k b' b r' r hin' hin hk' hk hb2 hb1 (.inr hw) hr' hr).symm
    · rw [qout id hin] at hr; rw [qout id' hin'] at hr'
      obtain ⟨kk, b0, h1, h2, h3⟩ := oldver id k b hin hk hb1
      obtain ⟨kk', b0', h1', h2', _⟩ := oldver id' k' b' hin' hk' hb2
      exact h.inj id id' kk kk' b0 b0' r r' h1 h1' h2 h2' (h3 hw) hne hr hr'
  · intro i hi hdi id hid hge
    rcases (dn_set hjn i).1 hdi with rfl | h1
    · rcases hop id hid with h2 | ⟨_, r, hr⟩
      · omega
      · exact ⟨r, ep id r hr⟩
    · obtain ⟨r, hr⟩ := h.known i hi h1 id hid hge; exact ⟨r, ep id r hr⟩
  · exact st.os.trans h.os
  · exact st.tape.trans h.tape
  · exact st.output.trans h.output
  · exact Nat.le_trans h.wsize st.size
  · intro k hk hnw
    have hlt := Nat.lt_of_lt_of_le hk h.wsize
    refine (st.block k hlt fun hW => ?_).trans (h.block k hk hnw)
    rcases wrs k hW with h1 | h1
    · omega
    · exact hnw h1
  · intro id hl; rw [qlow id (by omega)]; exact h.old id hl
  · intro id r hr hl
    by_cases hin : (HH j).length ≤ id ∧ id < (HH (j + 1)).length
    · rw [qin id hin.1 hin.2] at hr
      rcases st.fresh id r hr (by rw [seen_len]; exact hin.1) with h1 | h1
      · exact .inl (Nat.le_trans h.wsize h1)
      · exact wrs _ h1
    · rw [qout id hin] at hr
      exact h.fresh id r hr hl

theorem VR.ids {q : Ren} : ∀ (n : Nat) {u u' : Value}, VR q u u' → ∀ id ∈ idsN n u, ∃ r, q id = some r := by
  intro n
  induction n with
  | zero =>
    intro u u' h id hid
    cases h with
    | same hf => unfold idsN at hid; split at hid <;> first | (simp [flat1] at hf; done) | (simp at hid; done)
    | ptr hr => simp [idsN] at hid; subst hid; exact ⟨_, hr⟩
    | sl hr => simp [idsN] at hid; subst hid; exact ⟨_, hr⟩
    | _ => simp [idsN] at hid
  | succ n ih =>
    intro u u' h id hid
    have row : ∀ xs ys : Array Value, xs.size = ys.size → (∀ i (h : i < xs.size) (h' : i < ys.size), VR q xs[i] ys[i]) → id ∈ xs.toList.flatMap (idsN n) → ∃ r, q id = some r := fun xs ys hs hv hm => by
      obtain ⟨x, hx, hx2⟩ := List.mem_flatMap.1 hm
      obtain ⟨i, hi, rfl⟩ := List.getElem_of_mem hx
      have hi : i < xs.size := by simpa using hi
      exact ih (hv i hi (hs ▸ hi)) id (by simpa using hx2)
    cases h with
    | same hf => unfold idsN at hid; split at hid <;> first | (simp [flat1] at hf; done) | (simp at hid; done)
    | ptr hr => simp [idsN] at hid; subst hid; exact ⟨_, hr⟩
    | sl hr => simp [idsN] at hid; subst hid; exact ⟨_, hr⟩
    | agg hs hv => exact row _ _ hs hv (by simpa [idsN] using hid)
    | tup hs hv => exact row _ _ hs hv (by simpa [idsN] using hid)
    | fn hs hv ht hu =>
      simp only [idsN, List.mem_append] at hid
      rcases hid with hid | hid
      · exact row _ _ hs hv hid
      · exact row _ _ ht hu hid
    | _ => simp [idsN] at hid

theorem aev_of {t : Array Value} {x : Operand} {q : Ren} (hok : okOpd x = true) (ht : ∀ s, x = .tmp s → VR q (t.getD s undef) (a.tmps.getD s undef)) : VR q (aev t x) (a.eval x) := by
  cases x with
  | tmp s => exact ht s rfl
  | const u => exact flat_refl hok
  | global g =>
    have hok : (globs.any fun x => x.1 == g) = true := hok
    simp only [aev, hok, if_true]
    exact .glob
  | func f => exact .fn rfl (fun i h => by simp at h) rfl (fun i h => by simp at h)

theorem Inv.glob (g : Given P callf ops bs m tt HH ft) (h : Inv ops bs m tt HH ft p0 w0 listed p a w) (hG : Gl p0 (HH 0) w0) {j : Nat} (hj : j < m) : Gl (upto p (HH j).length) (seen (ft j) (HH j)) w := by
  have nw : ∀ k, isGlob k → ¬ Wr p0 (HH 0) k := fun k hk ⟨id, b, r, h1, h2, h3, h4⟩ => hG.ng id b r h1 h2 h3 (h4 ▸ hk)
  refine ⟨hG.gl.keep h.wsize fun k hk hl => h.block k hl (nw k hk), fun id b r hb hw hr hg => ?_⟩
  obtain ⟨hl, _, b0, h0, h1⟩ := seen_get hb
  rw [upto_lt hl] at hr
  have hw0 : b0.wr = true := by
    rcases h1 with ⟨_, rfl⟩ | ⟨_, rfl⟩
    · cases hw
    · exact hw
  by_cases hlo : id < (HH 0).length
  · obtain ⟨b1, h2, h3⟩ := g.wr_back (Nat.le_of_lt hj) hlo h0
    rw [h.old id hlo] at hr
    exact hG.ng id b1 r h2 (h3 hw0) hr hg
  · rcases h.fresh id r hr (by omega) with h2 | h2
    · have := hG.gl.lt hg; omega
    · exact nw _ hg h2

/-- One operation more, in the model. -/
theorem Inv.op (hc : CallOk P callf) (hG : Gl p0 (HH 0) w0) (g : Given P callf ops bs m tt HH ft) (h : Inv ops bs m tt HH ft p0 w0 listed p a w) {j : Nat} (hj : j < m) (hn : ¬ Dn listed j)
    (hb : ∀ k, Bef bs k j → Dn listed k) {Q : Exit → Act → World → Prop} {X : Act → World → Prop}
    (hX : ∀ q a' w', Inv ops bs m tt HH ft p0 w0 (listed.setIfInBounds j true) q a' w' → X a' w') : wpOp P ops Q j X a w := by
  obtain ⟨o, v, N, ho, ht, hd⟩ := g.step j hj
  unfold wpOp
  rw [ho]
  simp only
  rw [← h.wanted g hj ho hn hb hd.open_]
  have hopd : ∀ x ∈ o.op.operands.toList, okOpd x = true → VR (upto p (HH j).length) (aev (tt j) x) (a.eval x) := by
    intro x hx hok
    refine aev_of hok fun s hs => ?_
    subst hs
    have hlook : s ∈ o.looksAt ops := by
      unfold Oper.looksAt
      refine List.mem_append_left _ ?_
      rw [List.mem_filterMap]
      exact ⟨.tmp s, hx, rfl⟩
    rw [Array.getD_eq_getD_getElem?, Array.getD_eq_getD_getElem?]
    cases hu : (tt j)[s]? with
    | none => rw [h.opd_none g (by omega) hu]; exact undef_ok
    | some u =>
      obtain ⟨u', h1, h2⟩ := h.opd g hj ho hn hb hlook hu
      rw [h1]; exact h2
  rcases hd.run with ⟨hw, rfl, rfl, hHn⟩ | ⟨hw, hall, K, hK, hKd, hKs, hKt⟩
  · rw [hw, if_neg (by simp)]
    obtain ⟨hnone, hnset⟩ := hd.idle hw
    have hop : Hop p HH ft j := fun id hid => by rw [hnone] at hid; cases hid
    have hsr := h.sr g hj hn hb hop
    obtain ⟨q, hq⟩ := h.next g (K := seen (ft j) (HH j)) hj ho hn hb ht hd hop (by rw [List.drop_eq_nil_iff, seen_len]; exact Nat.le_refl _) (fun id hid => by rw [hnset] at hid; cases hid)
      (fun id hid => by rw [hnone] at hid; cases hid) undef_ok (.refl hsr)
    exact hX q _ _ hq
  · rw [hw, if_pos rfl]
    have hop : Hop p HH ft j := fun id hid => by
      rcases hd.sees id hid with h1 | ⟨x, hx, hid⟩
      · exact .inl h1
      · obtain ⟨r, hr⟩ := VR.ids 4 (hopd x hx (List.all_eq_true.1 hall x hx)) id hid
        unfold upto at hr
        split at hr
        · rename_i hl; exact .inr ⟨hl, r, hr⟩
        · cases hr
    have hsr := h.sr g hj hn hb hop
    refine .inl (aop_ok hc hsr (h.glob g hG hj) hopd hK fun p' v' w' hv st => ?_)
    obtain ⟨q, hq⟩ := h.next g hj ho hn hb ht hd hop hKd hKs hKt hv st
    exact hX q _ _ hq
end
end Go.Proofs.YtfpcmckachpnpaaDoor.Vx
