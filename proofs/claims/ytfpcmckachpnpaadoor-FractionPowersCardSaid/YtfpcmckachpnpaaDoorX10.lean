/- The run over a memory with names of its own answers what the model answers: any operation. -/
import Derived.Test.YtfpcmckachpnpaaDoorX9
import Derived.ChangeKeysEq
import Derived.Laws.BytesString
import Derived.Laws.IdiomStrings
namespace Go.Proofs.YtfpcmckachpnpaaDoor.Vx
open Go Go.RowKit

/-- What a call of a function answers over named blocks, the model's call answers. -/
def CallOk (P : Program) (callf : CallF) : Prop :=
  ∀ f args H v H', callf f args H = some (v, H') → ∀ p args' w, AR p args args' → SR p H w → Gl p H w →
    Calls P (f % 1000000) args' w fun e w' => ∃ p' v', e = .returned v' ∧ VR p' v v' ∧ St p H w p' H' w'

section
variable {P : Program} {callf : CallF} {p : Ren} {H H' : AH} {w : World} {t : Array Value} {a : Act} {v : Value} {o : Oper}

theorem SR.empty (w : World) : SR (fun _ => none) [] w := ⟨fun _ _ h => (by cases h), fun _ _ h => (by simp at h), fun _ _ _ _ _ _ h => (by simp at h)⟩

/-- What is reached by a call that names nothing leaves all named blocks as they are. -/
theorem St.hidden (hs : SR p H w) {q : Ren} {K : AH} {w' : World} (h : St (fun _ => none) [] w q K w') : St p H w p H w' := by
  have hb : ∀ k, k < w.heap.size → w'.heap[k]? = w.heap[k]? := fun k hk => h.block k hk fun ⟨id, b, r, hb, _⟩ => by simp at hb
  exact ⟨h.os, h.tape, h.output, h.size, fun k hk _ => hb k hk, .refl _, fun _ _ => rfl, Nat.le_refl _,
    ⟨hs.dom, fun id b hb' => let ⟨r, hr, hbr⟩ := hs.blk id b hb'; ⟨r, hr, hbr.keep h.size (hb _ hbr.lt)⟩, hs.inj⟩,
    fun id r hr hl => absurd (hs.dom id r hr) (by omega), fun _ _ h _ => h, fun _ b' _ h hb => ⟨b', h, hb⟩⟩

theorem flats_eq {xs ys : Array Value} (h : AR p xs ys) (hf : xs.toList.all flat = true) : ys = xs := by
  refine Array.ext h.1.symm fun i h1 h2 => (h.2 i h2 h1).flat_eq ?_
  exact List.all_eq_true.1 hf _ (by simp)

theorem ren_flat1 {s : Nat → Option Nat} (n : Nat) {v : Value} (hf : flat1 v = true) : renV s n v = v := by
  unfold flat1 at hf
  split at hf <;> first | (cases n <;> rfl) | cases hf
theorem ren_ok {p q : Ren} {s : Nat → Option Nat} (hs : ∀ id k r, s id = some k → p id = some r → q k = some r) : ∀ (n : Nat) {v v' : Value}, VR p v v' → VR q (renV s n v) v' := by
  intro n
  induction n with
  | zero =>
    intro v v' h
    cases h with
    | same hf => rw [ren_flat1 _ hf]; exact .same hf
    | ptr hr =>
      unfold renV
      split
      · rename_i k hk; exact .ptr (hs _ _ _ hk hr)
      · exact .junk
    | sl hr hn hc ho =>
      unfold renV
      split
      · rename_i k hk; exact .sl (hs _ _ _ hk hr) hn hc ho
      · exact .junk
    | emp => exact .emp
    | any h1 => exact .any h1
    | junk => exact .junk
    | glob => exact .glob
    | agg => exact .junk
    | tup => exact .junk
    | fn => exact .junk
  | succ n ih =>
    intro v v' h
    cases h with
    | same hf => rw [ren_flat1 _ hf]; exact .same hf
    | ptr hr =>
      unfold renV
      split
      · rename_i k hk; exact .ptr (hs _ _ _ hk hr)
      · exact .junk
    | sl hr hn hc ho =>
      unfold renV
      split
      · rename_i k hk; exact .sl (hs _ _ _ hk hr) hn hc ho
      · exact .junk
    | emp => exact .emp
    | any h1 => exact .any h1
    | junk => unfold renV; simp [renV]; exact .junk
    | glob => exact .glob
    | agg hz hv => unfold renV; exact .agg (by simpa using hz) fun i h1 h2 => by simpa using ih (hv i (by simpa using h1) h2)
    | tup hz hv => unfold renV; exact .tup (by simpa using hz) fun i h1 h2 => by simpa using ih (hv i (by simpa using h1) h2)
    | fn hz hv hz2 hv2 => unfold renV; exact .fn (by simpa using hz) (fun i h1 h2 => by simpa using ih (hv i (by simpa using h1) h2)) (by simpa using hz2) (fun i h1 h2 => by simpa using ih (hv2 i (by simpa using h1) h2))
theorem renB_ok {p q : Ren} {s : Nat → Option Nat} (hs : ∀ id k r, s id = some k → p id = some r → q k = some r) {w : World} {b : ABlk} {r : Rb} (h : BR p w b r) : BR q w (renB s b) r :=
  ⟨h.lt, fun k v hv => by
    simp only [renB, List.getElem?_map, Option.map_eq_some_iff] at hv
    obtain ⟨u, hu, rfl⟩ := hv
    obtain ⟨v', h1, h2⟩ := h.cell k u hu
    exact ⟨v', h1, ren_ok hs 4 h2⟩, h.own, h.wr, h.same⟩

theorem idx_get {ids : List Nat} {id k : Nat} (h : ids.idxOf? id = some k) : ids[k]? = some id := by
  rw [List.idxOf?_eq_some_iff] at h
  obtain ⟨hk, he, _⟩ := h
  rw [List.getElem?_eq_getElem hk, he]

/-- A call over its own memory, and back. -/
theorem canon_ok (hc : CallOk P callf) (hs : SR p H w) (hgl : Gl p H w) {g : FuncId} {args args' : Array Value} (ha : AR p args args') (ids : List Nat) {r : Value} {K : AH} (hg : g < 1000000)
    (h : callf (g + 1000000) (args.map (renV (canTo ids) 4)) (canH ids H) = some (r, K)) :
    Calls P g args' w fun e w' => ∃ p' v', e = .returned v' ∧ VR p' (renV (canFrom ids H.length) 4 r) v' ∧ St p H w p' (H ++ (K.drop ids.length).map (Option.map (renB (canFrom ids H.length)))) w' := by
  let pc : Ren := fun k => match ids[k]? with
    | some i => p i
    | none => none
  have hto : ∀ id k r, canTo ids id = some k → p id = some r → pc k = some r := fun id k r h1 h2 => by
    simp only [pc, idx_get h1]; exact h2
  have hgm : (g + 1000000) % 1000000 = g := (Nat.add_mod_right g 1000000).trans (Nat.mod_eq_of_lt hg)
  have hlen : (canH ids H).length = ids.length := by simp [canH]
  have hno : ∀ id (b : ABlk), (canH ids H)[id]? = some (some b) → b.wr = false ∧ ∃ i b0, ids[id]? = some i ∧ H[i]? = some (some b0) ∧ b = { renB (canTo ids) b0 with wr := false } := fun id b hb => by
    unfold canH at hb
    rw [List.getElem?_map] at hb
    cases hi : ids[id]? with
    | none => rw [hi] at hb; cases hb
    | some i =>
      rw [hi] at hb
      simp only [Option.map_some, Option.some.injEq] at hb
      cases hH : H[i]? with
      | none => rw [hH] at hb; cases hb
      | some x =>
        rw [hH] at hb
        cases x with
        | none => cases hb
        | some b0 => simp only [Option.join_some, Option.map_some, Option.some.injEq] at hb; subst hb; exact ⟨rfl, i, b0, hi, hH, rfl⟩
  have hsr : SR pc (canH ids H) w := by
    refine ⟨fun k r hk => ?_, fun k b hb => ?_, fun k k' b b' r r' hb _ hw => ?_⟩
    · rw [hlen]
      simp only [pc] at hk
      split at hk
      · rename_i i hi; exact (List.getElem?_eq_some_iff.1 hi).1
      · cases hk
    · obtain ⟨_, i, b0, hi, hH, rfl⟩ := hno k b hb
      obtain ⟨r, hr, hbr⟩ := hs.blk i b0 hH
      refine ⟨r, by simp only [pc, hi]; exact hr, ?_⟩
      have := renB_ok hto hbr
      exact ⟨this.lt, this.cell, this.own, fun h => (by cases h), this.same⟩
    · rw [(hno k b hb).1] at hw; cases hw
  have har : AR pc (args.map (renV (canTo ids) 4)) args' := ⟨by simpa using ha.1, fun i h1 h2 => by simpa using ren_ok hto 4 (ha.2 i (by simpa using h1) h2)⟩
  have hcall := hc (g + 1000000) _ _ r K h pc args' w har hsr ⟨hgl.gl, fun id b r hb hw _ => by rw [(hno id b hb).1] at hw; cases hw⟩
  rw [hgm] at hcall
  refine hcall.mono ?_
  rintro e w' ⟨p2, v', rfl, hv, st⟩
  have nw : ∀ k, ¬ Wr pc (canH ids H) k := fun k ⟨id, b, r, h1, h2, _⟩ => by rw [(hno id b h1).1] at h2; cases h2
  have hblk : ∀ k, k < w.heap.size → w'.heap[k]? = w.heap[k]? := fun k hk => st.block k hk (nw k)
  have hKl : ids.length ≤ K.length := by have := st.len; rwa [hlen] at this
  let q : Ren := fun id => if id < H.length then p id else p2 (ids.length + (id - H.length))
  have qlow : ∀ id, id < H.length → q id = p id := fun id h1 => if_pos h1
  have qhi : ∀ id, H.length ≤ id → q id = p2 (ids.length + (id - H.length)) := fun id h1 => if_neg (by omega)
  have hfrom : ∀ id k r, canFrom ids H.length id = some k → p2 id = some r → q k = some r := fun id k r h1 h2 => by
    unfold canFrom at h1
    split at h1
    · rename_i hl
      have hpo := st.old id (by rw [hlen]; exact hl)
      have hpk : p k = some r := by
        have hpc : pc id = p k := by show (match ids[id]? with | some i => p i | none => none) = p k; rw [h1]
        rw [← hpc, ← hpo]; exact h2
      rw [qlow k (hs.dom k r hpk)]; exact hpk
    · rename_i hl
      have h1 := Option.some.inj h1
      rw [← h1, qhi _ (Nat.le_add_right _ _)]
      rw [show ids.length + (H.length + (id - ids.length) - H.length) = id by omega]; exact h2
  have eq0 : Ext p q := fun id r hr => by rw [qlow id (hs.dom id r hr)]; exact hr
  have hnew : ∀ id (b : ABlk), H.length ≤ id → (H ++ (K.drop ids.length).map (Option.map (renB (canFrom ids H.length))))[id]? = some (some b) → ∃ b0, K[ids.length + (id - H.length)]? = some (some b0) ∧ b = renB (canFrom ids H.length) b0 := fun id b hl hb => by
    rw [List.getElem?_append_right hl, List.getElem?_map, List.getElem?_drop] at hb
    cases hk : K[ids.length + (id - H.length)]? with
    | none => rw [hk] at hb; cases hb
    | some x =>
      rw [hk] at hb
      cases x with
      | none => cases hb
      | some b0 => simp only [Option.map_some, Option.some.injEq] at hb; exact ⟨b0, rfl, hb.symm⟩
  refine ⟨q, v', rfl, ren_ok hfrom 4 hv, st.os, st.tape, st.output, st.size, fun k hk _ => hblk k hk, eq0, qlow, by simp, ⟨fun id r hr => ?_, fun id b hb => ?_, fun id id' b b' r r' hb hb' hw hne hr hr' => ?_⟩,
    fun id r hr hl => .inl ?_, fun id b hb _ => ?_, fun id b hl hb hw => ⟨b, ?_, hw⟩⟩
  · by_cases hl : id < H.length
    · simp; omega
    · rw [qhi id (by omega)] at hr
      have := st.sr.dom _ r hr
      simp; omega
  · by_cases hl : id < H.length
    · rw [List.getElem?_append_left hl] at hb
      obtain ⟨r, hr, hbr⟩ := hs.blk id b hb
      exact ⟨r, eq0 id r hr, (hbr.mono eq0).keep st.size (hblk _ hbr.lt)⟩
    · obtain ⟨b0, hb0, rfl⟩ := hnew id b (by omega) hb
      obtain ⟨r, hr, hbr⟩ := st.sr.blk _ b0 hb0
      exact ⟨r, by rw [qhi id (by omega)]; exact hr, renB_ok hfrom hbr⟩
  · have hlt : ∀ id (b : ABlk) r, id < H.length → (H ++ (K.drop ids.length).map (Option.map (renB (canFrom ids H.length))))[id]? = some (some b) → q id = some r → r.blk < w.heap.size := fun id b r hl hb hr => by
      rw [List.getElem?_append_left hl] at hb
      obtain ⟨r1, hr1, hbr⟩ := hs.blk id b hb
      rw [qlow id hl, hr1] at hr; injection hr with hr; subst hr; exact hbr.lt
    have hge : ∀ id r, H.length ≤ id → q id = some r → w.heap.size ≤ r.blk := fun id r hl hr => by
      rw [qhi id hl] at hr
      exact (st.fresh _ r hr (by rw [hlen]; omega)).resolve_right (nw _)
    by_cases hl : id < H.length <;> by_cases hl' : id' < H.length
    · rw [List.getElem?_append_left hl] at hb; rw [List.getElem?_append_left hl'] at hb'
      rw [qlow id hl] at hr; rw [qlow id' hl'] at hr'
      exact hs.inj id id' b b' r r' hb hb' hw hne hr hr'
    · have := hlt id b r hl hb hr; have := hge id' r' (by omega) hr'; omega
    · have := hlt id' b' r' hl' hb' hr'; have := hge id r (by omega) hr; omega
    · obtain ⟨b0, hb0, rfl⟩ := hnew id b (by omega) hb
      obtain ⟨b0', hb0', rfl⟩ := hnew id' b' (by omega) hb'
      rw [qhi id (by omega)] at hr; rw [qhi id' (by omega)] at hr'
      exact st.sr.inj _ _ b0 b0' r r' hb0 hb0' hw (by omega) hr hr'
  · rw [qhi id hl] at hr
    exact (st.fresh _ r hr (by rw [hlen]; omega)).resolve_right (nw _)
  · rw [List.getElem?_append_left (List.getElem?_eq_some_iff.1 hb).1]; exact hb
  · rw [List.getElem?_append_left hl] at hb; exact hb

theorem acall_ok (hc : CallOk P callf) (hs : SR p H w) (hgl : Gl p H w) {g : FuncId} {args args' : Array Value} (ha : AR p args args') (h : acall P callf g args H = some (v, H')) :
    (∃ v', (∀ w, (callFunc g args').run P w = .ok (.value v') w) ∧ VR p v v' ∧ H' = H) ∨
    (∀ w, (callFunc g args').run P w = .ok (.enter g args') w) ∧ Calls P g args' w fun e w' => ∃ p' v', e = .returned v' ∧ VR p' v v' ∧ St p H w p' H' w' := by
  unfold acall at h
  split at h
  · rename_i fn hfn
    split at h
    · cases h
    · rename_i hnum
      split at h
      · left
        cases hq : anative P g args with
        | none => rw [hq] at h; cases h
        | some u =>
          rw [hq] at h
          simp only [Option.map_some, Option.some.injEq, Prod.mk.injEq] at h
          obtain ⟨rfl, rfl⟩ := h
          unfold anative at hq
          split at hq
          · rename_i hfl
            have := flats_eq ha hfl
            subst this
            split at hq
            · rename_i z hz
              split at hq
              · rename_i hzf
                injection hq with hq; subst hq
                exact ⟨_, fun w => pureRun_run hz w, flat_refl hzf, rfl⟩
              · cases hq
            · cases hq
          · cases hq
      right
      rename_i hbody
      have hcond : (fn.name == "runtime.NumGoroutine") = false ∧ fn.body.isNone = false := ⟨by simpa using hnum, Bool.eq_false_iff.2 hbody⟩
      refine ⟨fun w => ?_, ?_⟩
      · unfold callFunc
        simp only [Sem.run_bind, show (program).run P w = .ok P w from rfl, Result.andThen_ok, hfn, hcond.1, Bool.false_eq_true, if_false, hcond.2]
        rfl
      · split at h
        · cases h
        rename_i hg
        have hg : g < 1000000 := Nat.lt_of_not_le hg
        have hgm : g % 1000000 = g := Nat.mod_eq_of_lt hg
        have hc0 : ∀ args H v H', callf g args H = some (v, H') → ∀ p args' w, AR p args args' → SR p H w → Gl p H w →
            Calls P g args' w fun e w' => ∃ p' v', e = .returned v' ∧ VR p' v v' ∧ St p H w p' H' w' := fun args H v H' h p args' w ha hs hgl => by
          have := hc g args H v H' h p args' w ha hs hgl
          rwa [hgm] at this
        split at h
        · rename_i r K hr
          simp only [Option.some.injEq, Prod.mk.injEq] at h
          obtain ⟨rfl, rfl⟩ := h
          exact canon_ok hc hs hgl ha _ hg hr
        split at h
        · rename_i hfl
          split at h
          · rename_i r K hr
            split at h
            · rename_i hrf
              simp only [Option.some.injEq, Prod.mk.injEq] at h
              obtain ⟨rfl, rfl⟩ := h
              have := flats_eq ha hfl
              subst this
              refine (hc0 args' [] r K hr (fun _ => none) args' w ⟨rfl, fun i h1 _ => flat_refl (List.all_eq_true.1 hfl _ (by simp))⟩ (.empty w) (.empty hgl.gl)).mono ?_
              rintro e w' ⟨p', v', rfl, hv, hst⟩
              have := hv.flat_eq hrf
              subst this
              exact ⟨p, v', rfl, flat_refl hrf, hst.hidden hs⟩
            · exact hc0 args H v H' h p args' w ha hs hgl
          · cases h
        · exact hc0 args H v H' h p args' w ha hs hgl
  · cases h

theorem calls_wp {g : FuncId} {args' : Array Value} {v : Value} (he : (execOp a.eval o).run P w = .ok (.enter g args') w)
    (hcall : Calls P g args' w fun e w' => ∃ p' v', e = .returned v' ∧ VR p' v v' ∧ St p H w p' H' w') {next : Act → World → Prop} {Q : Exit → Act → World → Prop}
    (hn : ∀ p' v' w', VR p' v v' → St p H w p' H' w' → next (a.put o.dst v') w') : o.wp P a w next Q := by
  unfold Oper.wp
  rw [he]
  refine hcall.mono ?_
  rintro e w' ⟨p', v', rfl, hv, hst⟩
  exact hn p' v' w' hv hst

theorem nilDiff_ok {T : TypeId} {x y x' y' : Value} (hx : VR p x x') (hy : VR p y y') (h : nilDiff (P.underlying T) x y = true) :
    pureRun P (Op.equal T x' y') = some false ∧ ∀ op q r, pureRun P (eqGuard op T q r x' y') = some () := by
  have main : ∀ n, pureRun P (Op.equalIn (n + 1) T x' y') = some false ∧ ∀ op q r, pureRun P (eqGuard op T q r x' y') = some () := by
    intro n
    generalize hu : P.underlying T = d at h
    unfold nilDiff at h
    split at h
    · have := hx.flat1_eq rfl; subst this
      cases hy with
      | same hf => simp [flat1] at hf
      | sl =>
        refine ⟨?_, fun op q r => by unfold eqGuard; split <;> rfl⟩
        unfold Op.equalIn
        rw [pureRun_bind, pureRun_underlying, hu]; rfl
    · have := hy.flat1_eq rfl; subst this
      cases hx with
      | same hf => simp [flat1] at hf
      | sl =>
        refine ⟨?_, fun op q r => by unfold eqGuard; split <;> rfl⟩
        unfold Op.equalIn
        rw [pureRun_bind, pureRun_underlying, hu]; rfl
    · have := hx.flat1_eq rfl; subst this
      cases hy with
      | same hf => simp [flat1] at hf
      | ptr =>
        refine ⟨?_, fun op q r => by unfold eqGuard; split <;> rfl⟩
        unfold Op.equalIn
        rw [pureRun_bind, pureRun_underlying, hu]; rfl
    · have := hy.flat1_eq rfl; subst this
      cases hx with
      | same hf => simp [flat1] at hf
      | ptr =>
        refine ⟨?_, fun op q r => by unfold eqGuard; split <;> rfl⟩
        unfold Op.equalIn
        rw [pureRun_bind, pureRun_underlying, hu]; rfl
    · have := hx.flat1_eq rfl; subst this
      cases hy with
      | same hf => simp [flat1] at hf
      | fn =>
        refine ⟨?_, fun op q r => by unfold eqGuard; split <;> rfl⟩
        unfold Op.equalIn
        rw [pureRun_bind, pureRun_underlying, hu]; rfl
    · have := hy.flat1_eq rfl; subst this
      cases hx with
      | same hf => simp [flat1] at hf
      | fn =>
        refine ⟨?_, fun op q r => by unfold eqGuard; split <;> rfl⟩
        unfold Op.equalIn
        rw [pureRun_bind, pureRun_underlying, hu]; rfl
    · cases h
  exact main 9999

theorem binOp_nil {T : TypeId} {x y x' y' : Value} (hx : VR p x x') (hy : VR p y y') (h : nilDiff (P.underlying T) x y = true) :
    pureRun P (binOp .eql T x' y') = some (.bool false) ∧ pureRun P (binOp .neq T x' y') = some (.bool true) := by
  have he := (nilDiff_ok hx hy h).1
  have k : binOp .eql T x' y' = (do pure (.bool (← Op.equal T x' y'))) ∧ binOp .neq T x' y' = (do pure (.bool (!(← Op.equal T x' y')))) := by
    generalize P.underlying T = d at h
    unfold nilDiff at h
    split at h <;> first
      | (cases h; done)
      | (have := hx.flat1_eq rfl; subst this; cases hy with
          | same hf => simp [flat1] at hf
          | _ => exact ⟨rfl, rfl⟩)
      | (have := hy.flat1_eq rfl; subst this; cases hx with
          | same hf => simp [flat1] at hf
          | _ => exact ⟨rfl, rfl⟩)
  rw [k.1, k.2]
  constructor <;> (rw [pureRun_bind, he]; rfl)

theorem lost_is : isLost lost = true := rfl
theorem okT_all {xs : Array Operand} {t : Array Value} (h : ¬ (xs.toList.all (okT t) = false)) : xs.toList.all okOpd = true ∧ ∀ x ∈ xs.toList, aev t x ≠ lost := by
  have h : xs.toList.all (okT t) = true := by simpa using h
  rw [List.all_eq_true] at h
  refine ⟨List.all_eq_true.2 fun x hx => ?_, fun x hx he => ?_⟩
  · have := h x hx; unfold okT at this; simp only [Bool.and_eq_true] at this; exact this.1
  · have := h x hx; unfold okT at this; rw [he, lost_is] at this; simp at this
theorem ok_all {xs : Array Operand} (h : ¬ (xs.toList.all okOpd = false)) : ∀ x ∈ xs.toList, okOpd x = true := by
  have h : xs.toList.all okOpd = true := by simpa using h
  exact fun x hx => List.all_eq_true.1 h x hx

theorem args_two {α : Type} {xs : Array α} {x y : α} (h : xs.toList = [x, y]) : xs = #[x, y] := by
  have := congrArg List.toArray h; simpa using this
theorem args_one {α : Type} {xs : Array α} {x : α} (h : xs.toList = [x]) : xs = #[x] := by
  have := congrArg List.toArray h; simpa using this

theorem eqFs_ok {d : Nat} {eq : TypeId → Value → Value → Option Bool} (ih : ∀ t x y b, eq t x y = some b → ∀ w, (Op.equalIn d t x y).run P w = .ok b w) (xs ys : Array Value) : ∀ (fs : List Field) (b : Bool), eqFs P eq xs ys fs = some b →
    ∀ w, (Op.eqFields d xs ys fs).run P w = .ok b w := by
  intro fs
  induction fs with
  | nil => intro b h w; simp only [eqFs, Option.some.injEq] at h; subst h; simp [Op.eqFields]
  | cons f fs ihf =>
    intro b h w
    unfold eqFs at h
    unfold Op.eqFields
    split at h
    · rename_i hn
      rw [if_pos hn]
      split at h
      · rename_i a b' ha hb
        split at h
        · rename_i r r' hr hr'
          simp only [Option.some.injEq] at h
          subst h
          simp only [Sem.run_bind, pureRun_run ha w, pureRun_run hb w, Result.andThen_ok, ih _ _ _ _ hr w]
          cases r with
          | false => simp
          | true => simpa using ihf r' hr' w
        · cases h
      · cases h
    · rename_i hn
      rw [if_neg hn]
      exact ihf b h w
theorem eqIs_ok {d : Nat} {eq : TypeId → Value → Value → Option Bool} (ih : ∀ t x y b, eq t x y = some b → ∀ w, (Op.equalIn d t x y).run P w = .ok b w) (e : TypeId) (c : Nat) (xs ys : Array Value) : ∀ (is : List Nat) (b : Bool), eqIs P eq e c xs ys is = some b →
    ∀ w, (Op.eqItems d e c xs ys is).run P w = .ok b w := by
  intro is
  induction is with
  | nil => intro b h w; simp only [eqIs, Option.some.injEq] at h; subst h; simp [Op.eqItems]
  | cons i is ihf =>
    intro b h w
    unfold eqIs at h
    unfold Op.eqItems
    split at h
    · rename_i a b' ha hb
      split at h
      · rename_i r r' hr hr'
        simp only [Option.some.injEq] at h
        subst h
        simp only [Sem.run_bind, pureRun_run ha w, pureRun_run hb w, Result.andThen_ok, ih _ _ _ _ hr w]
        cases r with
        | false => simp
        | true => simpa using ihf r' hr' w
      · cases h
    · cases h
theorem eqB_succ (d : Nat) (t : TypeId) (x y : Value) : eqB P (d + 1) t x y =
    match P.underlying t, x, y with
    | some .bool, .bool a, .bool b => some (a == b)
    | some (.int _), .int k a, .int k' b => if k = k' then some (a == b) else none
    | some .string, .string a, .string b => some (a == b)
    | some (.struct fs), .agg xs, .agg ys => if P.stoodInHeld t then none else eqFs P (eqB P d) xs ys fs.toList
    | some (.array n e), .agg xs, .agg ys => match P.info? e with
      | some _ => eqIs P (eqB P d) e (P.cellsOf e) xs ys (List.range n)
      | none => none
    | _, _, _ => none := rfl
theorem eqB_ok : ∀ (d : Nat) (t : TypeId) (x y : Value) (b : Bool), eqB P d t x y = some b → ∀ w, (Op.equalIn d t x y).run P w = .ok b w := by
  intro d
  induction d with
  | zero => intro t x y b h; cases h
  | succ d ih =>
    intro t x y b h w
    rw [eqB_succ] at h
    split at h
    · rename_i hu
      simp only [Option.some.injEq] at h; subst h
      exact run_equalIn_bool w d t _ _ hu
    · rename_i hu
      split at h
      · rename_i hk
        simp only [Option.some.injEq] at h; subst h hk
        exact run_equalIn_int w d t _ _ _ _ hu
      · cases h
    · rename_i hu
      simp only [Option.some.injEq] at h; subst h
      simp [Op.equalIn, run_underlying hu]
    · rename_i fs xs ys hu
      split at h
      · cases h
      · rename_i hs
        have hf : P.fieldsOf t = fs := by unfold Program.fieldsOf; rw [hu]
        rw [run_equalIn_struct w d t xs ys (by rw [hf]; exact hu) (by simpa using hs), hf]
        exact eqFs_ok ih xs ys _ b h w
    · rename_i n e xs ys hu
      split at h
      · rename_i i hi
        rw [run_equalIn_array w d xs ys hu hi]
        exact eqIs_ok ih e _ xs ys _ b h w
      · cases h
    · cases h

theorem equal_ok {T : TypeId} {x y : Value} {r : Bool} (D : Nat) (hD : D = Op.maxDepth) (h : eqB P D T x y = some r) (w : World) : (Op.equal T x y).run P w = .ok r w := by
  unfold Op.equal
  rw [← hD]
  exact eqB_ok D T x y r h w

theorem aeq_parts {op : BinOp} {T : TypeId} {q s : Operand} {x y : Value} {r : Bool} (h : aeq P op T q s x y = some r) : flat x = true ∧ flat y = true ∧ pureRun P (eqGuard op T q s x y) = some () ∧ ∃ D, D = Op.maxDepth ∧ eqB P D T x y = some r := by
  unfold aeq at h
  split at h
  · rename_i hf
    simp only [Bool.and_eq_true] at hf
    split at h
    · rename_i hg
      exact ⟨hf.1, hf.2, hg, Op.maxDepth, rfl, h⟩
    · cases h
  · cases h

theorem aeq_ok {op : BinOp} {T : TypeId} {q s : Operand} {xs ys : Array Value} {x' y' : Value} {r : Bool} (hx : VR p (.agg xs) x') (hy : VR p (.agg ys) y') (h : aeq P op T q s (.agg xs) (.agg ys) = some r) (w : World) :
    x' = .agg xs ∧ y' = .agg ys ∧ (eqGuard op T q s (.agg xs) (.agg ys)).run P w = .ok () w ∧ (Op.equal T (.agg xs) (.agg ys)).run P w = .ok r w := by
  obtain ⟨h1, h2, h3, D, hD, h4⟩ := aeq_parts h
  exact ⟨hx.flat_eq h1, hy.flat_eq h2, pureRun_run h3 w, equal_ok D hD h4 w⟩

theorem bytes_LR {ns : List Int} : ∀ {xs ys : List Value}, LR p xs ys → bytesIn xs = some ns → ys = ns.map (Value.int .u8) := by
  induction ns with
  | nil =>
    intro xs ys hl h
    cases xs with
    | nil => rw [hl.unnil]; rfl
    | cons x xs =>
      unfold bytesIn at h
      split at h
      · simp_all
      · cases hq : bytesIn _ with
        | none => rw [hq] at h; cases h
        | some q => rw [hq] at h; cases h
      · cases h
  | cons n ns ih =>
    intro xs ys hl h
    cases xs with
    | nil => cases h
    | cons x xs =>
      unfold bytesIn at h
      split at h
      · cases h
      · rename_i m r he
        injection he with he1 he2
        subst he1 he2
        cases hq : bytesIn xs with
        | none => rw [hq] at h; cases h
        | some q =>
          rw [hq] at h
          simp only [Option.map_some, Option.some.injEq, List.cons.injEq] at h
          obtain ⟨rfl, rfl⟩ := h
          obtain ⟨y, ys', rfl, hy, hr⟩ := hl.uncons
          rw [hy.flat1_eq rfl, ih hr hq]
          rfl
      · cases h
theorem convert_gives (hs : SR p H w) {src dst : TypeId} {x : Operand} (ho : o.op = .convert src dst x) (hk : VR p (aev t x) (a.eval x)) (h : aconvert P src dst H (aev t x) = some (v, H')) : Gives P o a p H w v H' := by
  unfold aconvert at h
  split at h
  · rename_i e id off n c hu hd hx
    rw [hx] at hk
    generalize hae : a.eval x = x' at hk
    cases hk with
    | same hf => simp [flat1] at hf
    | sl hr hn hc ho2 =>
      rename_i c' r
      split at h
      · rename_i b he hl
        split at h
        · rename_i hle
          cases hb : bytesIn ((b.cells.drop off).take n) with
          | none => rw [hb] at h; cases h
          | some ns =>
            rw [hb] at h
            simp only [Option.map_some, Option.some.injEq, Prod.mk.injEq] at h
            obtain ⟨rfl, rfl⟩ := h
            obtain ⟨r', ys, hr', hlr, hlen, hcell⟩ := cells_ok hs hl hle
            rw [hr] at hr'; injection hr' with hr'; subst hr'
            obtain rfl := bytes_LR hlr hb
            have hld := run_loadCells_list (P := P) w _ _ hcell
            rw [hlen] at hld
            have hrun := run_convert_bytes_string (P := P) w src dst e (some ⟨r.blk, r.base + off, none⟩) n c' hu he hd
            rw [run_bytesToString w _ n c' ns hld] at hrun
            exact ⟨p, _, w, .inl (by simp only [execOp, ho, hae, Sem.run_bind, hrun, Result.andThen_ok, Sem.run_pure]), .same rfl, .refl hs⟩
        · cases h
      · cases h
  · rename_i e i1 i2 i3 hu hd hx
    rw [hx] at hk
    generalize hae : a.eval x = x' at hk
    cases hk with
    | same hf => simp [flat1] at hf
    | emp =>
      rename_i ad c'
      split at h
      · rename_i he
        simp only [Option.some.injEq, Prod.mk.injEq] at h
        obtain ⟨rfl, rfl⟩ := h
        have hld := run_loadCells_list (P := P) w ad [] (fun j v hj => by simp at hj)
        have hrun := run_convert_bytes_string (P := P) w src dst e (some ad) 0 c' hu he hd
        rw [run_bytesToString w ad 0 c' [] hld] at hrun
        exact ⟨p, _, w, .inl (by simp only [execOp, ho, hae, Sem.run_bind, hrun, Result.andThen_ok, Sem.run_pure]; rfl), .same rfl, .refl hs⟩
      · cases h
  · rename_i e s hu hd hx
    rw [hx] at hk
    have hk := hk.flat1_eq rfl
    split at h
    · rename_i he
      simp only [Option.some.injEq, Prod.mk.injEq] at h
      obtain ⟨rfl, rfl⟩ := h
      have hrun := run_bytes_of_string (P := P) w src dst e s hu hd he
      have hsz : (bytesRow s (grownCap w s.size 0 e)).size = s.size + (grownCap w s.size 0 e - s.size) := by
        unfold bytesRow; rw [Array.size_append, Array.size_map, Array.size_replicate]; rfl
      have st := new_ro hs (s.data.map fun b => Value.int .u8 b.toNat).toList (bytesRow s (grownCap w s.size 0 e)) e ((bytesRow s (grownCap w s.size 0 e)).size, (bytesRow s (grownCap w s.size 0 e)).size + 1) (fun k v hv => by
        refine ⟨v, ?_, ?_⟩
        · unfold bytesRow
          rw [Array.getElem?_append_left (by have := (List.getElem?_eq_some_iff.1 hv).1; simpa using this)]
          simpa using hv
        · rw [Array.getElem?_toList, Array.getElem?_map] at hv
          cases hq : s.data[k]? with
          | none => rw [hq] at hv; cases hv
          | some q => rw [hq] at hv; simp only [Option.map_some, Option.some.injEq] at hv; subst hv; exact .same rfl)
      refine ⟨_, .slice (some ⟨w.heap.size, 0, none⟩) s.size (grownCap w s.size 0 e), _, .inl ?_, ?_, st.trans hs (drew_ok st.sr (w.drawn + 1))⟩
      · simp only [execOp, ho, hk, Sem.run_bind, hrun, Result.andThen_ok, Sem.run_pure]
        rfl
      · have := VR.sl (p := p.add H.length ⟨w.heap.size, 0, (bytesRow s (grownCap w s.size 0 e)).size, 0, false⟩) (id := H.length) (off := 0) (n := s.size) (c := 0) (c' := grownCap w s.size 0 e) (Ren.add_self _ _ _) (grownCap_ge w s.size 0 e) (fun h => absurd rfl h) (fun _ h => by cases h)
        simpa using this
    · cases h
  · cases h

/-- ANY OPERATION. -/
theorem aop_ok (hc : CallOk P callf) (hs : SR p H w) (hgl : Gl p H w) (ht : ∀ x ∈ o.op.operands.toList, okOpd x = true → VR p (aev t x) (a.eval x)) (h : aop P callf t H o = some (v, H')) {next : Act → World → Prop} {Q : Exit → Act → World → Prop}
    (hn : ∀ p' v' w', VR p' v v' → St p H w p' H' w' → next (a.put o.dst v') w') : o.wp P a w next Q := by
  unfold aop at h
  split at h
  · cases h
  · rename_i hops
    obtain ⟨hops, hlost⟩ := okT_all hops
    have hk : ∀ x ∈ o.op.operands.toList, VR p (aev t x) (a.eval x) := fun x hx => ht x hx (List.all_eq_true.1 hops x hx)
    unfold aopIn at h
    split at h
    · rename_i x ho
      simp only [Option.some.injEq, Prod.mk.injEq] at h
      obtain ⟨rfl, rfl⟩ := h
      have hx := (hk x (by simp [ho, Op.operands]))
      exact (Gives.pure (v' := a.eval x) hs (by simp [execOp, ho]; rfl) hx).wp hn
    · rename_i x ho
      simp only [Option.some.injEq, Prod.mk.injEq] at h
      obtain ⟨rfl, rfl⟩ := h
      have hx := (hk x (by simp [ho, Op.operands]))
      exact (Gives.pure (v' := a.eval x) hs (by simp [execOp, ho]; rfl) hx).wp hn
    · rename_i c x y ho
      have h1 := (hk c (by simp [ho, Op.operands]))
      have h2 := (hk x (by simp [ho, Op.operands]))
      have h3 := (hk y (by simp [ho, Op.operands]))
      split at h
      · rename_i hb
        rw [hb] at h1
        have h1 := h1.bool
        simp only [Option.some.injEq, Prod.mk.injEq] at h
        obtain ⟨rfl, rfl⟩ := h
        exact (Gives.pure (v' := a.eval x) hs (by simp only [execOp, ho, h1, asBool, pureRun_bind, pureRun_pure, Option.bind_some, if_true]) h2).wp hn
      · rename_i hb
        rw [hb] at h1
        have h1 := h1.bool
        simp only [Option.some.injEq, Prod.mk.injEq] at h
        obtain ⟨rfl, rfl⟩ := h
        exact (Gives.pure (v' := a.eval y) hs (by simp only [execOp, ho, h1, asBool, pureRun_bind, pureRun_pure, Option.bind_some, Bool.false_eq_true, if_false]) h3).wp hn
      · cases h
    · rename_i e ho
      exact (alloc_ok hs ho h).wp hn
    · rename_i e x ho
      simp only [Option.some.injEq, Prod.mk.injEq] at h
      obtain ⟨rfl, rfl⟩ := h
      exact (box_ok hs ho (hk x (by simp [ho, Op.operands])) (hlost x (by simp [ho, Op.operands]))).wp hn
    · rename_i T x ho
      cases hl : aload P T H (aev t x) with
      | none => rw [hl] at h; cases h
      | some u =>
        rw [hl] at h
        simp only [Option.map_some, Option.some.injEq, Prod.mk.injEq] at h
        obtain ⟨rfl, rfl⟩ := h
        exact (load_ok hs hgl ho (hk x (by simp [ho, Op.operands])) hl).wp hn
    · rename_i T x y ho
      cases hl : astore P T H (aev t x) (aev t y) with
      | none => rw [hl] at h; cases h
      | some K =>
        rw [hl] at h
        simp only [Option.map_some, Option.some.injEq, Prod.mk.injEq] at h
        obtain ⟨rfl, rfl⟩ := h
        exact (store_gives hs ho (hk x (by simp [ho, Op.operands])) (hk y (by simp [ho, Op.operands])) (hlost y (by simp [ho, Op.operands])) hl).wp hn
    · rename_i x ho
      have hx := (hk x (by simp [ho, Op.operands]))
      split at h
      · rename_i q hq
        simp only [Option.some.injEq, Prod.mk.injEq] at h
        obtain ⟨rfl, rfl⟩ := h
        rw [hq] at hx
        generalize hae : a.eval x = x' at hx
        cases hx with
        | same hf => simp [flat1] at hf
        | ptr hr => exact (Gives.pure hs (by simp only [execOp, ho, hae]; rfl) (.ptr hr)).wp hn
        | glob => exact (Gives.pure hs (by simp only [execOp, ho, hae]; rfl) .glob).wp hn
      · rename_i f b c hq
        simp only [Option.some.injEq, Prod.mk.injEq] at h
        obtain ⟨rfl, rfl⟩ := h
        rw [hq] at hx
        generalize hae : a.eval x = x' at hx
        cases hx with
        | same hf => simp [flat1] at hf
        | fn h1 h2 h3 h4 => exact (Gives.pure hs (by simp only [execOp, ho, hae]; rfl) (.fn h1 h2 h3 h4)).wp hn
      · cases h
    · rename_i s x f ho
      cases hl : afieldAddr P s f (aev t x) with
      | none => rw [hl] at h; cases h
      | some u =>
        rw [hl] at h
        simp only [Option.map_some, Option.some.injEq, Prod.mk.injEq] at h
        obtain ⟨rfl, rfl⟩ := h
        exact (fieldAddr_ok hs ho (hk x (by simp [ho, Op.operands])) hl).wp hn
    · rename_i T x y ho
      cases hl : aindexAddr P T (aev t x) (aev t y) with
      | none => rw [hl] at h; cases h
      | some u =>
        rw [hl] at h
        simp only [Option.map_some, Option.some.injEq, Prod.mk.injEq] at h
        obtain ⟨rfl, rfl⟩ := h
        exact (indexAddr_ok hs ho (hk x (by simp [ho, Op.operands])) (hk y (by simp [ho, Op.operands])) hl).wp hn
    · rename_i T x lo hi mx ho
      split at h
      · obtain ⟨rfl, hg⟩ := aflat_ok hs (by simp [ho]) hk h
        exact hg.wp hn
      · split at h
        · cases h
        · rename_i hmx
          have hmx : mx = none := by simpa using hmx
          subst hmx
          cases hl : asliceOf P T (aev t x) (lo.map (aev t)) (hi.map (aev t)) H with
          | none => rw [hl] at h; cases h
          | some u =>
            rw [hl] at h
            simp only [Option.map_some, Option.some.injEq, Prod.mk.injEq] at h
            obtain ⟨rfl, rfl⟩ := h
            exact (slice_ok hs ho (hk x (by simp [ho, Op.operands])) (fun y hy => hk y (by simp [ho, Op.operands, hy])) (fun y hy => hk y (by simp [ho, Op.operands, hy])) hl).wp hn
    · rename_i T x y ho
      exact (makeSlice_ok hs ho (hk x (by simp [ho, Op.operands])) (hk y (by simp [ho, Op.operands])) h).wp hn
    · rename_i T n ps ho
      have hin : ∀ x ∈ ps.toList, x.2 ∈ o.op.operands.toList := fun x hx => by
        simp only [ho, Op.operands, List.mem_map]
        exact ⟨x, hx, rfl⟩
      exact (buildSlice_ok hs ho (fun x hx => ⟨hk x.2 (hin x hx), hlost x.2 (hin x hx)⟩) h).wp hn
    · -- build
      rename_i T ps ho
      split at h
      · rename_i hz
        unfold apass at h
        split at h
        · rename_i u hu
          simp only [Option.some.injEq, Prod.mk.injEq] at h
          obtain ⟨rfl, rfl⟩ := h
          have hpr : PR p (ps.map fun x => (x.1, aev t x.2)).toList (ps.map fun x => (x.1, a.eval x.2)).toList := by
            refine ⟨by simp, fun k h1 h2 => ?_⟩
            simp only [List.getElem_map, Array.toList_map, true_and]
            have hin : ((ps.toList[k]'(by simpa using h1)).2) ∈ o.op.operands.toList := by
              simp only [ho, Op.operands, List.mem_map]
              exact ⟨ps.toList[k]'(by simpa using h1), by simp, rfl⟩
            exact ⟨hk _ hin, hlost _ hin⟩
          have hb : pureRun P (Instr.build T (ps.map fun x => (x.1, aev t x.2))) = some u := by
            simp only [execOp, ho, pureRun_bind] at hu
            cases hq : pureRun P (Instr.build T (ps.map fun x => (x.1, aev t x.2))) with
            | none => rw [hq] at hu; cases hu
            | some q => rw [hq] at hu; simp only [Option.bind_some, pureRun_pure, Option.some.injEq, Next.value.injEq] at hu; rw [hu]
          obtain ⟨z, hzz⟩ := Option.isSome_iff_exists.1 hz
          obtain ⟨i', u0, _, _, rfl, hfl, hzr, _⟩ := pureRun_zero hzz
          obtain ⟨v', h1, h2⟩ := build_ok hpr (fun z' hz' => by rw [hzr] at hz'; injection hz' with hz'; subst hz'; exact flats_AR hfl) hb
          exact (Gives.pure hs (by simp only [execOp, ho, pureRun_bind, h1, Option.bind_some, pureRun_pure]) h2).wp hn
        · cases h
      · cases h
    · -- extract
      rename_i x i ho
      unfold apass at h
      split at h
      · rename_i u hu
        simp only [Option.some.injEq, Prod.mk.injEq] at h
        obtain ⟨rfl, rfl⟩ := h
        have hb : pureRun P (Instr.extract (aev t x) i) = some u := by
          simp only [execOp, ho, pureRun_bind] at hu
          cases hq : pureRun P (Instr.extract (aev t x) i) with
          | none => rw [hq] at hu; cases hu
          | some q => rw [hq] at hu; simp only [Option.bind_some, pureRun_pure, Option.some.injEq, Next.value.injEq] at hu; rw [hu]
        obtain ⟨v', h1, h2⟩ := extract_ok ((hk x (by simp [ho, Op.operands]))) (hlost x (by simp [ho, Op.operands])) hb
        exact (Gives.pure hs (by simp only [execOp, ho, pureRun_bind, h1, Option.bind_some, pureRun_pure]) h2).wp hn
      · cases h
    · -- field
      rename_i T x f ho
      unfold apass at h
      split at h
      · rename_i u hu
        simp only [Option.some.injEq, Prod.mk.injEq] at h
        obtain ⟨rfl, rfl⟩ := h
        have hb : pureRun P (Instr.field T (aev t x) f) = some u := by
          simp only [execOp, ho, pureRun_bind] at hu
          cases hq : pureRun P (Instr.field T (aev t x) f) with
          | none => rw [hq] at hu; cases hu
          | some q => rw [hq] at hu; simp only [Option.bind_some, pureRun_pure, Option.some.injEq, Next.value.injEq] at hu; rw [hu]
        obtain ⟨v', h1, h2⟩ := field_ok ((hk x (by simp [ho, Op.operands]))) hb
        exact (Gives.pure hs (by simp only [execOp, ho, pureRun_bind, h1, Option.bind_some, pureRun_pure]) h2).wp hn
      · cases h
    · -- makeFunc
      rename_i fn xs ys ho
      unfold apass at h
      split at h
      · rename_i u hu
        simp only [Option.some.injEq, Prod.mk.injEq] at h
        obtain ⟨rfl, rfl⟩ := h
        have hu : Value.func fn (xs.map (aev t)) (ys.map (aev t)) = u := by
          simp only [execOp, ho, pureRun_bind, Instr.makeFunc, pureRun_pure, Option.bind_some, Option.some.injEq, Next.value.injEq] at hu
          exact hu
        subst hu
        have h1 := opds_ok (xs := xs) fun x hx => hk x (by simp [ho, Op.operands]; exact .inl (by simpa using hx))
        have h2 := opds_ok (xs := ys) fun x hx => hk x (by simp [ho, Op.operands]; exact .inr (by simpa using hx))
        exact (Gives.pure (v' := .func fn (xs.map a.eval) (ys.map a.eval)) hs (by simp only [execOp, ho, pureRun_bind, Instr.makeFunc, pureRun_pure, Option.bind_some]) (.fn h1.1 h1.2 h2.1 h2.2)).wp hn
      · cases h
    · -- calls
      rename_i c ho
      split at h
      · rename_i f hce
        have hf := (hk f (by simp [ho, Op.operands, Call.operands, hce]))
        split at h
        · rename_i g first cap hfe
          rw [hfe] at hf
          generalize hae : a.eval f = f' at hf
          cases hf with
          | same hf => simp [flat1] at hf
          | fn h1 h2 h3 h4 =>
            rename_i first' cap'
            have hargs := opds_ok (xs := c.args) fun x hx => hk x (by simp [ho, Op.operands, Call.operands, hce]; exact .inr (by simpa using hx))
            have har : AR p (first ++ c.args.map (aev t) ++ cap) (first' ++ c.args.map a.eval ++ cap') := AR.append (AR.append ⟨h1, h2⟩ hargs) ⟨h3, h4⟩
            rcases acall_ok hc hs hgl har h with ⟨v', h5, hv, rfl⟩ | ⟨h5, h6⟩
            · exact Gives.wp ⟨p, v', w, .inl (by simp only [execOp, ho, resolve, hce, Deferred.ofValue, hae, Sem.run_bind, Sem.run_pure, Result.andThen_ok, invoke, h5]), hv, .refl hs⟩ hn
            refine calls_wp (g := g) ?_ h6 hn
            simp only [execOp, ho, resolve, hce, Deferred.ofValue, hae, Sem.run_bind, Sem.run_pure, Result.andThen_ok, invoke, h5]
        · cases h
      · -- append
        rename_i hce
        split at h
        · rename_i s x T T' hxs hTs
          have hx2 := args_two hxs
          have hT2 := args_two hTs
          split at h
          · rename_i e' hu'
            exact (append_gives hs ho hce hx2 hT2 (hk s (by simp [ho, Op.operands, Call.operands, hce, hx2])) (hk x (by simp [ho, Op.operands, Call.operands, hce, hx2])) hu' (.inr ⟨e', rfl⟩) (pos := o.pos) h).wp hn
          · rename_i hu'
            exact (append_gives hs ho hce hx2 hT2 (hk s (by simp [ho, Op.operands, Call.operands, hce, hx2])) (hk x (by simp [ho, Op.operands, Call.operands, hce, hx2])) hu' (.inl rfl) (pos := o.pos) h).wp hn
          · cases h
        · cases h
      · -- copy
        rename_i hce
        split at h
        · rename_i s x T T' hxs hTs
          have hx2 := args_two hxs
          have hT2 := args_two hTs
          exact (copy_gives hs ho hce hx2 hT2 (hk s (by simp [ho, Op.operands, Call.operands, hce, hx2])) (hk x (by simp [ho, Op.operands, Call.operands, hce, hx2])) h).wp hn
        · cases h
      · -- len
        rename_i hce
        split at h
        · rename_i x T hxs hTs
          have hx1 := args_one hxs
          have hT1 := args_one hTs
          split at h
          · rename_i q n k e hv hu
            simp only [Option.some.injEq, Prod.mk.injEq] at h
            obtain ⟨rfl, rfl⟩ := h
            exact (len_gives hs ho hce hx1 hT1 (hk x (by simp [ho, Op.operands, Call.operands, hce, hx1])) hv hu).wp hn
          · obtain ⟨rfl, hg⟩ := aflat_ok hs (by simp [ho]) hk h
            exact hg.wp hn
        · cases h
      · obtain ⟨rfl, hg⟩ := aflat_ok hs (by simp [ho]) hk h
        exact hg.wp hn
      · cases h
    · -- binOp
      rename_i op T x y T2 ho
      have hx := (hk x (by simp [ho, Op.operands]))
      have hy := (hk y (by simp [ho, Op.operands]))
      split at h
      · rename_i hd
        obtain ⟨h1, h2⟩ := binOp_nil hx hy hd
        have hg := (nilDiff_ok hx hy hd).2
        split at h
        · simp only [Option.some.injEq, Prod.mk.injEq] at h
          obtain ⟨rfl, rfl⟩ := h
          exact (Gives.pure (v' := .bool false) hs (by simp only [execOp, ho, pureRun_bind, hg, h1, Option.bind_some, pureRun_pure]) (.same rfl)).wp hn
        · simp only [Option.some.injEq, Prod.mk.injEq] at h
          obtain ⟨rfl, rfl⟩ := h
          exact (Gives.pure (v' := .bool true) hs (by simp only [execOp, ho, pureRun_bind, hg, h2, Option.bind_some, pureRun_pure]) (.same rfl)).wp hn
        · cases h
      · split at h
        · rename_i xs ys hxe hye
          cases hq : aeq P _ T x y (.agg xs) (.agg ys) with
          | none => rw [hq] at h; cases h
          | some r =>
            rw [hq] at h
            simp only [Option.map_some, Option.some.injEq, Prod.mk.injEq] at h
            obtain ⟨rfl, rfl⟩ := h
            rw [hxe] at hx; rw [hye] at hy
            obtain ⟨h1, h2, h3, h4⟩ := aeq_ok hx hy hq w
            exact Gives.wp ⟨p, .bool r, w, .inl (by simp only [execOp, ho, h1, h2, Sem.run_bind, h3, Result.andThen_ok, binOp, h4, Sem.run_pure]), .same rfl, .refl hs⟩ hn
        · rename_i xs ys hxe hye
          cases hq : aeq P _ T x y (.agg xs) (.agg ys) with
          | none => rw [hq] at h; cases h
          | some r =>
            rw [hq] at h
            simp only [Option.map_some, Option.some.injEq, Prod.mk.injEq] at h
            obtain ⟨rfl, rfl⟩ := h
            rw [hxe] at hx; rw [hye] at hy
            obtain ⟨h1, h2, h3, h4⟩ := aeq_ok hx hy hq w
            exact Gives.wp ⟨p, .bool (!r), w, .inl (by simp only [execOp, ho, h1, h2, Sem.run_bind, h3, Result.andThen_ok, binOp, h4, Sem.run_pure]), .same rfl, .refl hs⟩ hn
        · obtain ⟨rfl, hg⟩ := aflat_ok hs (by simp [ho]) hk h
          exact hg.wp hn
    · rename_i src dst x ho
      split at h
      · obtain ⟨rfl, hg⟩ := aflat_ok hs (by simp [ho]) hk h
        exact hg.wp hn
      · exact (convert_gives hs ho (hk x (by simp [ho, Op.operands])) h).wp hn
    · rename_i ho
      obtain ⟨rfl, hg⟩ := aflat_ok hs (by simp [ho]) hk h
      exact hg.wp hn
    · rename_i ho
      obtain ⟨rfl, hg⟩ := aflat_ok hs (by simp [ho]) hk h
      exact hg.wp hn
    · cases h
end
end Go.Proofs.YtfpcmckachpnpaaDoor.Vx
