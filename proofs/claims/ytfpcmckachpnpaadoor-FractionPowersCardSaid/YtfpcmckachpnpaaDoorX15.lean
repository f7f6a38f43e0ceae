/- The run over a memory with names of its own answers what the model answers: a function's text, and its calls. -/
import Derived.Test.YtfpcmckachpnpaaDoorX14
import Derived.LoopN
import Derived.Scope
namespace Go.Proofs.YtfpcmckachpnpaaDoor.Vx
open Go Go.RowKit

section
variable {P : Program} {callf : CallF} {hi : Hints} {L0 : Nat}

theorem evCode_zero (c : Code) (t : Array Value) (H : AH) : evCode P callf hi L0 0 c t H = none := rfl
theorem evCode_succ (n : Nat) (c : Code) (t : Array Value) (H : AH) : evCode P callf hi L0 (n + 1) c t H =
    match c with
    | .skip | .label _ => some (.normal, t, H)
    | .region _ ops false => (aops P callf ops (List.range ops.size) t H).map fun (t, H) => (.normal, t, H)
    | .region id ops true => (adraw P callf (hi.mode id ops) ops t H).map fun (t, H) => (.normal, t, H)
    | .seq a b => match evCode P callf hi L0 n a t H with
      | some (.normal, t, H) => evCode P callf hi L0 n b t H
      | r => r
    | .cond c a b => if okOpd c then match aev t c with
        | .bool true => evCode P callf hi L0 n a t H
        | .bool false => evCode P callf hi L0 n b t H
        | _ => none
      else none
    | .block id b => match evCode P callf hi L0 n b t H with
      | some (.exit id', t, H) => if id' = id then some (.normal, t, H) else some (.exit id', t, H)
      | r => r
    | .loop b => match gcAt L0 (hi.roots (headId b)) (forgetT (hi.forget (headId b)) t) H with
      | some (t, H) => match evCode P callf hi L0 n b t H with
        | some (.normal, t, H) => evCode P callf hi L0 n (.loop b) t H
        | r => r
      | none => none
    | .scope b => match evCode P callf hi L0 n b t H with
      | some (.goto _, _, _) => none
      | r => r
    | .exit id => some (.exit id, t, H)
    | .ret => some (.ret, t, H)
    | _ => none := rfl

theorem veqL_eq {eq : Value → Value → Bool} (he : ∀ a b, eq a b = true → a = b) : ∀ (xs ys : List Value), veqL eq xs ys = true → xs = ys := by
  intro xs
  induction xs with
  | nil => intro ys h; cases ys with
    | nil => rfl
    | cons y ys => cases h
  | cons x xs ih => intro ys h; cases ys with
    | nil => cases h
    | cons y ys =>
      simp only [veqL, Bool.and_eq_true] at h
      rw [he _ _ h.1, ih _ h.2]
theorem arr_eq {xs ys : Array Value} (h : xs.toList = ys.toList) : xs = ys := by rw [← Array.toArray_toList (xs := xs), h]
theorem str_eq {a b : ByteArray} (h : (a.data == b.data) = true) : a = b := by
  simp only [beq_iff_eq] at h
  cases a; cases b; simp_all
theorem veq_eq : ∀ (n : Nat) (a b : Value), veq n a b = true → a = b := by
  intro n
  induction n with
  | zero =>
    intro a b h
    unfold veq at h
    split at h
    all_goals first | (cases h; done) | rfl | (rw [str_eq h]; done) | (simp only [Bool.and_eq_true, beq_iff_eq] at h; simp_all; done) | (rename_i q; cases q)
  | succ n ih =>
    intro a b h
    unfold veq at h
    split at h
    all_goals first | (cases h; done) | rfl | (rw [str_eq h]; done) | (rename_i q; cases q; rw [arr_eq (veqL_eq ih _ _ h)]; done) |
      (rename_i q; cases q; simp only [Bool.and_eq_true, beq_iff_eq] at h; rw [h.1.1, arr_eq (veqL_eq ih _ _ h.1.2), arr_eq (veqL_eq ih _ _ h.2)]; done) | (simp only [Bool.and_eq_true, beq_iff_eq] at h; simp_all; done)
/-- What holds at the end of a text, of a call that began at p0, H0, w0. -/
def Ends (p0 : Ren) (H0 : AH) (w0 : World) (Q : Exit → Act → World → Prop) (e : Exit) (t' : Array Value) (H' : AH) : Prop :=
  ∀ p' a' w', AR p' t' a'.tmps → a'.defers = [] → St p0 H0 w0 p' H' w' → Q e a' w'

def CodeOk (P : Program) (callf : CallF) (hi : Hints) (p0 : Ren) (H0 : AH) (w0 : World) (n : Nat) (c : Code) : Prop :=
  ∀ t H e t' H', evCode P callf hi H0.length n c t H = some (e, t', H') → ∀ p a w Q, AR p t a.tmps → a.defers = [] → St p0 H0 w0 p H w → Ends p0 H0 w0 Q e t' H' → c.wp P Q a w

theorem then_of {X : Act → World → Prop} {Q : Exit → Act → World → Prop} {e : Exit} {a : Act} {w : World} (he : e ≠ .normal) (h : Q e a w) : Exit.then X Q e a w := by
  cases e <;> first | exact absurd rfl he | exact h

theorem forget_ok {p : Ren} {tmps : Array Value} : ∀ (l : List Tmp) {t : Array Value}, AR p t tmps → AR p (forgetT l t) tmps := by
  intro l
  induction l with
  | nil => intro t h; exact h
  | cons i l ih =>
    intro t h
    refine ih ⟨by simpa using h.1, fun j h1 h2 => ?_⟩
    rw [Array.getElem_setIfInBounds (by simpa using h1)]
    split
    · exact .junk
    · exact h.2 j _ h2

theorem addAll_nodup : ∀ (l acc : List Nat), acc.Nodup → (addAll acc l).Nodup := by
  intro l
  induction l with
  | nil => intro acc h; exact h
  | cons i l ih =>
    intro acc h
    unfold addAll
    simp only [List.foldl_cons]
    refine ih _ ?_
    split
    · exact h
    · rename_i hc
      rw [List.nodup_append]
      refine ⟨h, by simp, fun x hx y hy => ?_⟩
      simp only [List.mem_singleton] at hy
      subst hy
      intro he
      subst he
      simp [hx] at hc

theorem gcAt_ok {p0 p : Ren} {H0 H H2 : AH} {w0 w : World} {roots : Option (List Tmp)} {t t2 tmps : Array Value} (h : gcAt H0.length roots t H = some (t2, H2)) (hs0 : SR p0 H0 w0) (ht : AR p t tmps) (st : St p0 H0 w0 p H w) :
    ∃ p2, AR p2 t2 tmps ∧ St p0 H0 w0 p2 H2 w := by
  unfold gcAt at h
  split at h
  · simp only [Option.some.injEq, Prod.mk.injEq] at h
    obtain ⟨rfl, rfl⟩ := h
    exact ⟨p, ht, st⟩
  · rename_i l
    simp only at h
    split at h
    · rename_i hcond
      generalize hkd : (addAll [] (l.flatMap fun i => idsOf (t.getD i undef))).filter (fun id => decide (H0.length ≤ id)) = keep at h hcond
      simp only [Option.some.injEq, Prod.mk.injEq] at h
      obtain ⟨rfl, rfl⟩ := h
      have hnd : keep.Nodup := by rw [← hkd]; exact (addAll_nodup _ _ List.nodup_nil).sublist (List.filter_sublist ..)
      have hge : ∀ x ∈ keep, H0.length ≤ x := fun x hx => by rw [← hkd] at hx; simpa using (List.mem_filter.1 hx).2
      have hL := st.len
      let p2 : Ren := fun id => if id < H0.length then p id else match keep[id - H0.length]? with
        | some old => p old
        | none => none
      have plow : ∀ id, id < H0.length → p2 id = p id := fun id h => if_pos h
      have phi : ∀ id old, H0.length ≤ id → keep[id - H0.length]? = some old → p2 id = p old := fun id old h h2 => by
        show (if id < H0.length then p id else _) = _
        rw [if_neg (by omega), h2]
      have pnone : ∀ id, H0.length ≤ id → keep[id - H0.length]? = none → p2 id = none := fun id h h2 => by
        show (if id < H0.length then p id else _) = _
        rw [if_neg (by omega), h2]
      have hto : ∀ id k r, keepTo H0.length keep id = some k → p id = some r → p2 k = some r := fun id k r h1 h2 => by
        unfold keepTo at h1
        split at h1
        · rename_i hl
          have h1 := Option.some.inj h1
          rw [← h1, plow id hl]; exact h2
        · cases hi : keep.idxOf? id with
          | none => rw [hi] at h1; cases h1
          | some j =>
            rw [hi] at h1
            have h1 := Option.some.inj h1
            have h1 : j + H0.length = k := h1
            rw [phi k id (by omega) (by rw [show k - H0.length = j by omega]; exact idx_get hi)]; exact h2
      have flatB : ∀ {b : ABlk} {r : Rb}, b.cells.all flat1 = true → BR p w b r → BR p2 w b r := fun {b r} hf hb =>
        ⟨hb.lt, fun k v hv => by
          obtain ⟨v', h1, h2⟩ := hb.cell k v hv
          have := List.all_eq_true.1 hf v (List.mem_of_getElem? hv)
          have he := h2.flat1_eq this
          subst he
          exact ⟨v', h1, .same this⟩, hb.own, hb.wr, hb.same⟩
      have keepOk : ∀ {b : ABlk} {r : Rb}, BR p w b r → BR p2 w (keepB H0.length keep b) r := fun {b r} hb => by
        unfold keepB
        split
        · rename_i hf; exact flatB hf hb
        · exact renB_ok hto hb
      have keepWr : ∀ b : ABlk, (keepB H0.length keep b).wr = b.wr := fun b => by unfold keepB; split <;> rfl
      have lenT : (H.take H0.length).length = H0.length := by simp; omega
      -- what the new memory has
      have low : ∀ id (b' : ABlk), id < H0.length → ((H.take H0.length).map (Option.map fun b => if b.wr then keepB H0.length keep b else b) ++ keep.map fun i => ((H[i]?).join).map (keepB H0.length keep))[id]? = some (some b') →
          ∃ b, H[id]? = some (some b) ∧ b' = (if b.wr then keepB H0.length keep b else b) := fun id b' hl hb => by
        rw [List.getElem?_append_left (by rw [List.length_map, lenT]; exact hl), List.getElem?_map, List.getElem?_take, if_pos hl] at hb
        cases hh : H[id]? with
        | none => rw [hh] at hb; cases hb
        | some x =>
          rw [hh] at hb
          cases x with
          | none => cases hb
          | some b => simp only [Option.map_some, Option.some.injEq] at hb; exact ⟨b, rfl, hb.symm⟩
      have high : ∀ id (b' : ABlk), H0.length ≤ id → ((H.take H0.length).map (Option.map fun b => if b.wr then keepB H0.length keep b else b) ++ keep.map fun i => ((H[i]?).join).map (keepB H0.length keep))[id]? = some (some b') →
          ∃ old b, keep[id - H0.length]? = some old ∧ H[old]? = some (some b) ∧ b' = keepB H0.length keep b := fun id b' hl hb => by
        rw [List.getElem?_append_right (by rw [List.length_map, lenT]; exact hl), List.length_map, lenT, List.getElem?_map] at hb
        cases hk : keep[id - H0.length]? with
        | none => rw [hk] at hb; cases hb
        | some old =>
          rw [hk] at hb
          cases hh : H[old]? with
          | none => rw [Option.map_some, hh] at hb; cases hb
          | some x =>
            rw [Option.map_some, hh] at hb
            cases x with
            | none => cases hb
            | some b => simp only [Option.join_some, Option.map_some, Option.some.injEq] at hb; exact ⟨old, b, rfl, hh, hb.symm⟩
      -- where a block was
      have was : ∀ id (b' : ABlk) r, ((H.take H0.length).map (Option.map fun b => if b.wr then keepB H0.length keep b else b) ++ keep.map fun i => ((H[i]?).join).map (keepB H0.length keep))[id]? = some (some b') → p2 id = some r →
          ∃ old b, H[old]? = some (some b) ∧ p old = some r ∧ b'.wr = b.wr ∧ ((id < H0.length ∧ old = id) ∨ (H0.length ≤ id ∧ keep[id - H0.length]? = some old)) := fun id b' r hb hr => by
        by_cases hl : id < H0.length
        · obtain ⟨b, h1, rfl⟩ := low id b' hl hb
          rw [plow id hl] at hr
          exact ⟨id, b, h1, hr, by split <;> first | exact keepWr b | rfl, .inl ⟨hl, rfl⟩⟩
        · obtain ⟨old, b, h1, h2, rfl⟩ := high id b' (by omega) hb
          rw [phi id old (by omega) h1] at hr
          exact ⟨old, b, h2, hr, keepWr b, .inr ⟨by omega, h1⟩⟩
      refine ⟨p2, ⟨by simpa using ht.1, fun i h1 h2 => by simpa using ren_ok hto 4 (ht.2 i (by simpa using h1) h2)⟩, st.os, st.tape, st.output, st.size, st.block, fun id r hr => ?_, fun id hl => by rw [plow id hl]; exact st.old id hl, by simp; omega,
        ⟨fun id r hr => ?_, fun id b' hb => ?_, fun id id' b b' r r' hb hb' hw hne hr hr' => ?_⟩, fun id r hr hl => ?_, fun id b hb hw => ?_, fun id b' hl hb hw => ?_⟩
      · rw [plow id (hs0.dom id r hr)]; exact st.ext id r hr
      · by_cases hl : id < H0.length
        · simp; omega
        · cases hk : keep[id - H0.length]? with
          | none => rw [pnone id (by omega) hk] at hr; cases hr
          | some old => have := (List.getElem?_eq_some_iff.1 hk).1; simp; omega
      · by_cases hl : id < H0.length
        · obtain ⟨b, h1, rfl⟩ := low id b' hl hb
          obtain ⟨r, hr, hbr⟩ := st.sr.blk id b h1
          refine ⟨r, by rw [plow id hl]; exact hr, ?_⟩
          split
          · exact keepOk hbr
          · rename_i hnw
            have hm : some b ∈ H.take H0.length := List.mem_of_getElem? (i := id) (by rw [List.getElem?_take, if_pos hl]; exact h1)
            have hc := List.all_eq_true.1 hcond _ hm
            simp only [Bool.or_eq_true] at hc
            rcases hc with (hc | hc) | hc
            · exact absurd hc hnw
            · exact flatB hc hbr
            · exact ⟨hbr.lt, fun k v hv => by
                obtain ⟨v', h2, h3⟩ := hbr.cell k v hv
                have he := veq_eq 5 _ _ (List.all_eq_true.1 hc v (List.mem_of_getElem? hv))
                exact ⟨v', h2, by rw [← he]; exact ren_ok hto 4 h3⟩, hbr.own, hbr.wr, hbr.same⟩
        · obtain ⟨old, b, h1, h2, rfl⟩ := high id b' (by omega) hb
          obtain ⟨r, hr, hbr⟩ := st.sr.blk old b h2
          exact ⟨r, by rw [phi id old (by omega) h1]; exact hr, keepOk hbr⟩
      · obtain ⟨o1, b1, h1, h2, h3, h4⟩ := was id b r hb hr
        obtain ⟨o2, b2, h5, h6, h7, h8⟩ := was id' b' r' hb' hr'
        refine st.sr.inj o1 o2 b1 b2 r r' h1 h5 (by rw [← h3]; exact hw) (fun he => ?_) h2 h6
        subst he
        rcases h4 with ⟨h4, rfl⟩ | ⟨h4, h9⟩ <;> rcases h8 with ⟨h8, h10⟩ | ⟨h8, h10⟩
        · exact hne h10
        · have := hge _ (List.mem_of_getElem? h10); omega
        · have := hge _ (List.mem_of_getElem? h9); omega
        · obtain ⟨a1, a2⟩ := List.getElem?_eq_some_iff.1 h9
          obtain ⟨a3, a4⟩ := List.getElem?_eq_some_iff.1 h10
          have := (List.getElem_inj hnd).1 (a2.trans a4.symm)
          omega
      · cases hk : keep[id - H0.length]? with
        | none => rw [pnone id hl hk] at hr; cases hr
        | some old =>
          rw [phi id old hl hk] at hr
          exact st.fresh old r hr (hge old (List.mem_of_getElem? hk))
      · have hl := (List.getElem?_eq_some_iff.1 hb).1
        have h1 := st.ro id b hb hw
        rw [List.getElem?_append_left (by rw [List.length_map, lenT]; exact hl), List.getElem?_map, List.getElem?_take, if_pos hl, h1]
        simp [hw]
      · obtain ⟨b, h1, rfl⟩ := low id b' hl hb
        refine st.oown id b hl h1 ?_
        split at hw
        · rename_i h2; exact h2
        · exact hw
    · cases h

theorem code_ok (hm : P.follows .mixedOrders = true) (hc : CallOk P callf) {p0 : Ren} {H0 : AH} {w0 : World} (hs0 : SR p0 H0 w0) (hG0 : Gl p0 H0 w0) : ∀ n, (∀ c, CodeOk P callf hi p0 H0 w0 n c) ∧
    (∀ b t H e t' H', evCode P callf hi H0.length n (.loop b) t H = some (e, t', H') → ∃ k, ∀ p a w Q, AR p t a.tmps → a.defers = [] → St p0 H0 w0 p H w → Ends p0 H0 w0 Q e t' H' → Code.rounds P b Q k a w) := by
  intro n
  induction n with
  | zero => exact ⟨fun c t H e t' H' h => (by cases h), fun b t H e t' H' h => (by cases h)⟩
  | succ n ih =>
    obtain ⟨ihc, ihl⟩ := ih
    have loops : ∀ b t H e t' H', evCode P callf hi H0.length (n + 1) (.loop b) t H = some (e, t', H') → ∃ k, ∀ p a w Q, AR p t a.tmps → a.defers = [] → St p0 H0 w0 p H w → Ends p0 H0 w0 Q e t' H' → Code.rounds P b Q k a w := by
      intro b t H e t' H' h
      rw [evCode_succ] at h
      simp only at h
      cases hg : gcAt H0.length (hi.roots (headId b)) (forgetT (hi.forget (headId b)) t) H with
      | none => rw [hg] at h; cases h
      | some x =>
        obtain ⟨tg, Hg⟩ := x
        rw [hg] at h
        simp only at h
        cases hb : evCode P callf hi H0.length n b tg Hg with
        | none => rw [hb] at h; cases h
        | some x =>
          obtain ⟨e1, t1, H1⟩ := x
          rw [hb] at h
          by_cases he : e1 = .normal
          · subst he
            simp only at h
            obtain ⟨k, hk⟩ := ihl b t1 H1 e t' H' h
            refine ⟨k + 1, fun p a w Q ht hd hs hq => ?_⟩
            rw [rounds_succ]
            obtain ⟨p2, ht2, st2⟩ := gcAt_ok hg hs0 (forget_ok _ ht) hs
            exact ihc b tg Hg .normal t1 H1 hb p2 a w _ ht2 hd st2 fun p' a' w' h1 h2 h3 => hk p' a' w' Q h1 h2 h3 hq
          · have h : e1 = e ∧ t1 = t' ∧ H1 = H' := by
              cases e1 <;> first | exact absurd rfl he | (simp only [Option.some.injEq, Prod.mk.injEq] at h; exact h)
            obtain ⟨rfl, rfl, rfl⟩ := h
            refine ⟨1, fun p a w Q ht hd hs hq => ?_⟩
            rw [rounds_succ]
            obtain ⟨p2, ht2, st2⟩ := gcAt_ok hg hs0 (forget_ok _ ht) hs
            exact ihc b tg Hg e1 t1 H1 hb p2 a w _ ht2 hd st2 fun p' a' w' h1 h2 h3 => then_of he (hq p' a' w' h1 h2 h3)
    refine ⟨fun c t H e t' H' h p a w Q ht hd hs hq => ?_, loops⟩
    have h0 := h
    rw [evCode_succ] at h
    split at h
    · simp only [Option.some.injEq, Prod.mk.injEq] at h
      obtain ⟨rfl, rfl, rfl⟩ := h
      exact wp_skip (hq p a w ht hd hs)
    · simp only [Option.some.injEq, Prod.mk.injEq] at h
      obtain ⟨rfl, rfl, rfl⟩ := h
      exact wp_label (hq p a w ht hd hs)
    · rename_i id ops
      cases hr : aops P callf ops (List.range ops.size) t H with
      | none => rw [hr] at h; cases h
      | some x =>
        rw [hr] at h
        simp only [Option.map_some, Option.some.injEq, Prod.mk.injEq] at h
        obtain ⟨rfl, rfl, rfl⟩ := h
        exact wp_region (aops_ok hc _ _ _ _ _ hr p a w ht hd hs.sr (hs.glob hG0) fun p' a' w' h1 h2 h3 => hq p' a' w' h1 h2 (hs.trans hs0 h3))
    · rename_i id ops
      cases hr : adraw P callf (hi.mode id ops) ops t H with
      | none => rw [hr] at h; cases h
      | some x =>
        rw [hr] at h
        simp only [Option.map_some, Option.some.injEq, Prod.mk.injEq] at h
        obtain ⟨rfl, rfl, rfl⟩ := h
        exact adraw_ok hm hc hr ht hd hs.sr (hs.glob hG0) fun p' a' w' h1 h2 h3 => hq p' a' w' h1 h2 (hs.trans hs0 h3)
    · rename_i x y
      cases hb : evCode P callf hi H0.length n x t H with
      | none => rw [hb] at h; cases h
      | some r =>
        obtain ⟨e1, t1, H1⟩ := r
        rw [hb] at h
        refine wp_seq ?_
        by_cases he : e1 = .normal
        · subst he
          simp only at h
          exact ihc x t H .normal t1 H1 hb p a w _ ht hd hs fun p' a' w' h1 h2 h3 => ihc y t1 H1 e t' H' h p' a' w' Q h1 h2 h3 hq
        · have h : e1 = e ∧ t1 = t' ∧ H1 = H' := by
            cases e1 <;> first | exact absurd rfl he | (simp only [Option.some.injEq, Prod.mk.injEq] at h; exact h)
          obtain ⟨rfl, rfl, rfl⟩ := h
          exact ihc x t H e1 t1 H1 hb p a w _ ht hd hs fun p' a' w' h1 h2 h3 => then_of he (hq p' a' w' h1 h2 h3)
    · rename_i c x y
      split at h
      · rename_i hok
        have hcv := opd_ok ht hok
        split at h
        · rename_i hb
          rw [hb] at hcv
          exact wp_cond_true hcv.bool (ihc x t H e t' H' h p a w Q ht hd hs hq)
        · rename_i hb
          rw [hb] at hcv
          exact wp_cond_false hcv.bool (ihc y t H e t' H' h p a w Q ht hd hs hq)
        · cases h
      · cases h
    · rename_i id x
      refine wp_block ?_
      cases hb : evCode P callf hi H0.length n x t H with
      | none => rw [hb] at h; cases h
      | some r =>
        obtain ⟨e1, t1, H1⟩ := r
        rw [hb] at h
        refine ihc x t H e1 t1 H1 hb p a w _ ht hd hs fun p' a' w' h1 h2 h3 => ?_
        cases e1 with
        | exit id' =>
          simp only [Exit.inBlock] at h ⊢
          split at h
          · rename_i hi
            simp only [Option.some.injEq, Prod.mk.injEq] at h
            obtain ⟨rfl, rfl, rfl⟩ := h
            rw [if_pos hi]; exact hq p' a' w' h1 h2 h3
          · rename_i hi
            simp only [Option.some.injEq, Prod.mk.injEq] at h
            obtain ⟨rfl, rfl, rfl⟩ := h
            rw [if_neg hi]; exact hq p' a' w' h1 h2 h3
        | _ =>
          simp only [Option.some.injEq, Prod.mk.injEq] at h
          obtain ⟨rfl, rfl, rfl⟩ := h
          exact hq p' a' w' h1 h2 h3
    · rename_i b
      obtain ⟨k, hk⟩ := loops b t H e t' H' h0
      exact wp_loop_rounds k (hk p a w Q ht hd hs hq)
    · rename_i x
      refine wp_scope_straight ?_
      cases hb : evCode P callf hi H0.length n x t H with
      | none => rw [hb] at h; cases h
      | some r =>
        obtain ⟨e1, t1, H1⟩ := r
        rw [hb] at h
        refine ihc x t H e1 t1 H1 hb p a w _ ht hd hs fun p' a' w' h1 h2 h3 => ?_
        cases e1 with
        | goto l => cases h
        | _ =>
          simp only [Option.some.injEq, Prod.mk.injEq] at h
          obtain ⟨rfl, rfl, rfl⟩ := h
          exact hq p' a' w' h1 h2 h3
    · simp only [Option.some.injEq, Prod.mk.injEq] at h
      obtain ⟨rfl, rfl, rfl⟩ := h
      exact wp_exit (hq p a w ht hd hs)
    · simp only [Option.some.injEq, Prod.mk.injEq] at h
      obtain ⟨rfl, rfl, rfl⟩ := h
      exact wp_ret (hq p a w ht hd hs)
    · cases h

/-- More fuel does no harm. -/
theorem evCode_mono : ∀ (n : Nat) (c : Code) (t : Array Value) (H : AH) (r : Exit × Array Value × AH), evCode P callf hi L0 n c t H = some r → ∀ m, n ≤ m → evCode P callf hi L0 m c t H = some r := by
  intro n
  induction n with
  | zero => intro c t H r h; cases h
  | succ n ih =>
    intro c t H r h m hm
    obtain ⟨m, rfl⟩ : ∃ k, m = k + 1 := ⟨m - 1, by omega⟩
    have ih : ∀ (c : Code) (t : Array Value) (H : AH) (r : Exit × Array Value × AH), evCode P callf hi L0 n c t H = some r → evCode P callf hi L0 m c t H = some r := fun c t H r h => ih c t H r h m (by omega)
    rw [evCode_succ] at h ⊢
    cases c with
    | region id ops d => cases d <;> exact h
    | seq a b =>
      simp only at h ⊢
      cases hq : evCode P callf hi L0 n a t H with
      | none => rw [hq] at h; cases h
      | some x =>
        rw [hq] at h; rw [ih _ _ _ _ hq]
        obtain ⟨e, t1, H1⟩ := x
        cases e <;> first | exact ih _ _ _ _ h | exact h
    | cond x a b =>
      simp only at h ⊢
      split at h
      · rename_i hc
        rw [if_pos hc]
        split at h
        · exact ih _ _ _ _ h
        · exact ih _ _ _ _ h
        · cases h
      · cases h
    | block id b =>
      simp only at h ⊢
      cases hq : evCode P callf hi L0 n b t H with
      | none => rw [hq] at h; cases h
      | some x => rw [hq] at h; rw [ih _ _ _ _ hq]; exact h
    | loop b =>
      simp only at h ⊢
      cases hg : gcAt L0 (hi.roots (headId b)) (forgetT (hi.forget (headId b)) t) H with
      | none => rw [hg] at h; cases h
      | some x =>
        obtain ⟨t0, H0⟩ := x
        rw [hg] at h
        simp only at h ⊢
        cases hq : evCode P callf hi L0 n b t0 H0 with
        | none => rw [hq] at h; cases h
        | some x =>
          rw [hq] at h; rw [ih _ _ _ _ hq]
          obtain ⟨e, t1, H1⟩ := x
          cases e <;> first | exact ih _ _ _ _ h | exact h
    | scope b =>
      simp only at h ⊢
      cases hq : evCode P callf hi L0 n b t H with
      | none => rw [hq] at h; cases h
      | some x => rw [hq] at h; rw [ih _ _ _ _ hq]; exact h
    | _ => exact h

/-- A loop from behind its head on. -/
def evRound (P : Program) (callf : CallF) (hi : Hints) (L0 n : Nat) (b : Code) (t : Array Value) (H : AH) : Option (Exit × Array Value × AH) :=
  match evCode P callf hi L0 n b t H with
  | some (.normal, t, H) => evCode P callf hi L0 n (.loop b) t H
  | r => r
theorem evRound_mono {n m : Nat} {b : Code} {t : Array Value} {H : AH} {r : Exit × Array Value × AH} (h : evRound P callf hi L0 n b t H = some r) (hm : n ≤ m) : evRound P callf hi L0 m b t H = some r := by
  unfold evRound at h ⊢
  cases hq : evCode P callf hi L0 n b t H with
  | none => rw [hq] at h; cases h
  | some x =>
    rw [hq] at h; rw [evCode_mono n _ _ _ _ hq m hm]
    obtain ⟨e, t1, H1⟩ := x
    cases e <;> first | exact evCode_mono n _ _ _ _ h m hm | exact h
theorem evCode_loop (n : Nat) (b : Code) (t : Array Value) (H : AH) : evCode P callf hi L0 (n + 1) (.loop b) t H =
    match gcAt L0 (hi.roots (headId b)) (forgetT (hi.forget (headId b)) t) H with
    | some (t, H) => evRound P callf hi L0 n b t H
    | none => none := rfl

/-- How a loop goes on that has states of one form: round by round. -/
def iter {S R : Type} (step : S → Option (S ⊕ R)) : Nat → S → Option R
  | 0, _ => none
  | k + 1, s => match step s with
    | some (.inl s') => iter step k s'
    | some (.inr r) => some r
    | none => none

/-- A LOOP WHOSE STATES HAVE ONE FORM. -/
theorem loop_ok {S : Type} {b : Code} (T : S → Array Value) (M : S → AH) (step : S → Option (S ⊕ (Exit × Array Value × AH)))
    (hin : ∀ s s', step s = some (.inl s') → ∃ n t H, evCode P callf hi L0 n b (T s) (M s) = some (.normal, t, H) ∧ gcAt L0 (hi.roots (headId b)) (forgetT (hi.forget (headId b)) t) H = some (T s', M s'))
    (hout : ∀ s r, step s = some (.inr r) → r.1 ≠ .normal ∧ ∃ n, evCode P callf hi L0 n b (T s) (M s) = some r) :
    ∀ (k : Nat) (s : S) (r : Exit × Array Value × AH), iter step k s = some r → ∃ n, evRound P callf hi L0 n b (T s) (M s) = some r := by
  intro k
  induction k with
  | zero => intro s r h; cases h
  | succ k ih =>
    intro s r h
    unfold iter at h
    cases hs : step s with
    | none => rw [hs] at h; cases h
    | some x =>
      rw [hs] at h
      cases x with
      | inl s' =>
        obtain ⟨n, t, H, h1, h2⟩ := hin s s' hs
        obtain ⟨m, h3⟩ := ih s' r h
        refine ⟨max n m + 1, ?_⟩
        unfold evRound
        rw [evCode_mono n _ _ _ _ h1 _ (by omega)]
        simp only
        rw [evCode_loop, h2]
        exact evRound_mono h3 (by omega)
      | inr r' =>
        simp only [Option.some.injEq] at h
        subst h
        obtain ⟨h1, n, h2⟩ := hout s r' hs
        refine ⟨n, ?_⟩
        unfold evRound
        rw [h2]
        obtain ⟨e, t1, H1⟩ := r'
        cases e <;> first | exact absurd rfl h1 | rfl

theorem ares_ok {p : Ren} {H : AH} {w : World} (hs : SR p H w) (hgl : Gl p H w) {t : Array Value} {tmps : Array Value} (ht : AR p t tmps) : ∀ (rs : List ResultVar) (vs : List Value), ares P t H rs = some vs →
    ∃ vs', (rs.mapM (m := Sem) fun | .tmp t => pure (tmps.getD t undef) | .cell a T => do loadVar T (← asAddr (tmps.getD a undef))).run P w = .ok vs' w ∧ LR p vs vs' := by
  intro rs
  induction rs with
  | nil =>
    intro vs h
    simp only [ares, Option.some.injEq] at h
    subst h
    exact ⟨[], by simp, .nil⟩
  | cons r rs ih =>
    intro vs h
    cases r with
    | tmp i =>
      simp only [ares] at h
      cases hr : ares P t H rs with
      | none => rw [hr] at h; cases h
      | some us =>
        rw [hr] at h
        simp only [Option.map_some, Option.some.injEq] at h
        subst h
        obtain ⟨us', h1, h2⟩ := ih us hr
        refine ⟨tmps.getD i undef :: us', ?_, .cons ?_ h2⟩
        · simp only [List.mapM_cons, Sem.run_bind, Sem.run_pure, Result.andThen_ok, h1]
        · exact opd_ok (a := ⟨tmps, []⟩) (x := .tmp i) ht rfl
    | cell i T =>
      simp only [ares] at h
      split at h
      · rename_i v us hv hr
        simp only [Option.some.injEq] at h
        subst h
        obtain ⟨us', h1, h2⟩ := ih us hr
        have hx : VR p (t.getD i undef) (tmps.getD i undef) := opd_ok (a := ⟨tmps, []⟩) (x := .tmp i) ht rfl
        obtain ⟨v', h3, h4⟩ := aload_ok (P := P) hs hgl hx hv
        refine ⟨v' :: us', ?_, .cons h4 h2⟩
        have h5 : (do loadVar T (← asAddr (tmps.getD i undef)) : Sem Value).run P w = .ok v' w := by
          generalize tmps.getD i undef = x' at h3 hx
          unfold aload at hv
          split at hv
          · rename_i id off hxe
            rw [hxe] at hx
            cases hx with
            | same hf => simp [flat1] at hf
            | ptr hr' => exact h3
          · rename_i g off hxe
            rw [hxe] at hx
            generalize hq : (some 0 : Option Nat) = q at hx
            cases hx with
            | same hf => simp [flat1] at hf
            | ptr hr' => cases hq
            | glob => exact h3
          · cases hv
        simp only [Sem.run_bind] at h5
        simp only [List.mapM_cons, Sem.run_bind, h5, Sem.run_pure, Result.andThen_ok, h1]
      · cases h

/-- A FUNCTION ANSWERS AS ITS TEXT SAYS if what it calls answers as callf says. -/
theorem evFn_ok (hm : P.follows .mixedOrders = true) (hc : CallOk P callf) (hi : Hints) (L : Nat) : CallOk P (evFn P callf hi L) := by
  intro f args H v H' h p args' w ha hs hgl
  unfold evFn at h
  split at h
  · cases h
  rename_i hlt
  rw [Nat.mod_eq_of_lt (Nat.lt_of_not_le hlt)]
  cases hf : P.funcs[f]? with
  | none => rw [hf] at h; cases h
  | some fn =>
    rw [hf] at h
    simp only at h
    cases hb : fn.body with
    | none => rw [hb] at h; cases h
    | some c =>
      rw [hb] at h
      simp only at h
      refine calls_of_wp hf hb ?_
      have ht : AR p (args ++ Array.replicate (fn.ntmps - args.size) undef) (args' ++ Array.replicate (fn.ntmps - args'.size) undef) := by
        rw [ha.1]
        exact ha.append ⟨rfl, fun i h1 h2 => by simp only [Array.getElem_replicate]; exact undef_ok⟩
      cases hr : evCode P callf hi H.length L c (args ++ Array.replicate (fn.ntmps - args.size) undef) H with
      | none => rw [hr] at h; cases h
      | some r =>
        obtain ⟨e, t', H1⟩ := r
        rw [hr] at h
        refine (code_ok hm hc hs hgl L).1 c _ H e t' H1 hr p _ w _ ht rfl (.refl hs) fun p' a' w' h1 h2 h3 => ?_
        have fin : (match ares P t' H1 fn.results.toList with
          | some [v] => some (v, H1)
          | some vs => some (.tuple vs.toArray, H1)
          | none => none) = some (v, H') → a'.defers = [] ∧ ∃ v', (results fn a'.tmps).run P w' = .ok v' w' ∧ ∃ p' v'', Ending.returned v' = .returned v'' ∧ VR p' v v'' ∧ St p H w p' H' w' := by
          intro h
          refine ⟨h2, ?_⟩
          cases hra : ares P t' H1 fn.results.toList with
          | none => rw [hra] at h; cases h
          | some vs =>
            obtain ⟨vs', h4, h5⟩ := ares_ok (P := P) h3.sr (h3.glob hgl) h1 _ _ hra
            rw [hra] at h
            have hrun : (results fn a'.tmps).run P w' = .ok (if h : vs'.toArray.size = 1 then vs'.toArray[0] else .tuple vs'.toArray) w' := by
              unfold results
              rw [Sem.run_bind]
              have : (Array.mapM (m := Sem) (fun x => match x with | .tmp t => pure (a'.tmps.getD t undef) | .cell a T => do loadVar T (← asAddr (a'.tmps.getD a undef))) fn.results).run P w' = .ok vs'.toArray w' := by
                rw [← Array.toArray_toList (xs := fn.results), List.mapM_toArray, Sem.run_map, h4, Result.andThen_ok]
              erw [this]
              rw [Result.andThen_ok, Sem.run_pure]
            refine ⟨_, hrun, p', _, rfl, ?_⟩
            by_cases h1' : ∃ v0, vs = [v0]
            · obtain ⟨v0, rfl⟩ := h1'
              simp only [Option.some.injEq, Prod.mk.injEq] at h
              obtain ⟨rfl, rfl⟩ := h
              obtain ⟨v0', r', rfl, h6, h7⟩ := h5.uncons
              obtain rfl := h7.unnil
              exact ⟨by simpa using h6, h3⟩
            · have hne : vs.length ≠ 1 := fun hl => h1' (List.length_eq_one_iff.1 hl)
              have h : Value.tuple vs.toArray = v ∧ H1 = H' := by
                split at h
                · rename_i v0 hv0; injection hv0 with hv0; exact absurd ⟨v0, hv0⟩ h1'
                · rename_i us _ hus; injection hus with hus; subst hus; simpa using h
                · rename_i hn; cases hn
              obtain ⟨rfl, rfl⟩ := h
              rw [dif_neg (by simp; rw [← h5.1]; exact hne)]
              exact ⟨.tup h5.array.1 h5.array.2, h3⟩
        cases e with
        | normal => exact fin h
        | ret => exact fin h
        | _ => cases h


theorem evFn_mono {n m : Nat} {f : FuncId} {args : Array Value} {H : AH} {r : Value × AH} (h : evFn P callf hi n f args H = some r) (hm : n ≤ m) : evFn P callf hi m f args H = some r := by
  unfold evFn at h ⊢
  split at h
  · cases h
  rename_i hlt
  rw [if_neg hlt]
  cases hf : P.funcs[f]? with
  | none => rw [hf] at h; cases h
  | some fn =>
    rw [hf] at h
    simp only at h ⊢
    cases hb : fn.body with
    | none => rw [hb] at h; cases h
    | some c =>
      rw [hb] at h
      simp only at h ⊢
      cases hq : evCode P callf hi H.length n c (args ++ Array.replicate (fn.ntmps - args.size) undef) H with
      | none => rw [hq] at h; cases h
      | some x => rw [hq] at h; rw [evCode_mono n _ _ _ _ hq m hm]; exact h

theorem evFn_lt {L : Nat} {f : FuncId} {args : Array Value} {H : AH} {r : Value × AH} (h : evFn P callf hi L f args H = some r) : f < 1000000 := by
  unfold evFn at h
  split at h
  · cases h
  · rename_i hlt; exact Nat.lt_of_not_le hlt

theorem beqB_eq {a b : ABlk} (h : beqB a b = true) : a = b := by
  unfold beqB at h
  simp only [Bool.and_eq_true, beq_iff_eq] at h
  have := veqL_eq (veq_eq 5) _ _ h.2
  cases a; cases b; simp_all
theorem heq_eq : ∀ (xs ys : AH), heq xs ys = true → xs = ys := by
  intro xs
  induction xs with
  | nil => intro ys h; cases ys with
    | nil => rfl
    | cons y ys => cases h
  | cons x xs ih => intro ys h; cases ys with
    | nil => cases x <;> cases h
    | cons y ys =>
      cases x <;> cases y <;> first | cases h | skip
      · rw [ih _ h]
      · simp only [heq, Bool.and_eq_true] at h
        rw [beqB_eq h.1, ih _ h.2]

def MemoOk (P : Program) (memo : Memo) : Prop := CallOk P (ask memo)
theorem memo_nil : MemoOk P [] := fun _ _ _ _ _ h => by cases h
def still (H : AH) : Bool := H.all fun | some b => !b.wr | none => true
theorem still_wr {H : AH} (h : still H = true) {id : Nat} {b : ABlk} (hb : H[id]? = some (some b)) : b.wr = false := by
  unfold still at h
  have := List.all_eq_true.1 h _ (List.mem_of_getElem? hb)
  simpa using this

theorem St.thin {p q : Ren} {H K : AH} {w w' : World} {x : Value} {keep : Option (List Nat)} {v v' : Value} {H' : AH} (hst : still H = true) (hs : SR p H w) (st : St p H w q K w') (hv : VR q x v') (ht : thin keep H (x, K) = some (v, H')) :
    ∃ q', VR q' v v' ∧ St p H w q' H' w' := by
  unfold Vx.thin at ht
  split at ht
  · split at ht
    · rename_i hf
      simp only [Option.some.injEq, Prod.mk.injEq] at ht
      obtain ⟨rfl, rfl⟩ := ht
      have := hv.flat_eq hf
      subst this
      have hb : ∀ k, k < w.heap.size → w'.heap[k]? = w.heap[k]? := fun k hk => st.block k hk fun ⟨id, b, r, hb, hw, _⟩ => by rw [still_wr hst hb] at hw; cases hw
      exact ⟨p, flat_refl hf, st.os, st.tape, st.output, st.size, fun k hk _ => hb k hk, .refl _, fun _ _ => rfl, Nat.le_refl _,
        ⟨hs.dom, fun id b hb' => let ⟨r, hr, hbr⟩ := hs.blk id b hb'; ⟨r, hr, hbr.keep st.size (hb _ hbr.lt)⟩, hs.inj⟩,
        fun id r hr hl => absurd (hs.dom id r hr) (by omega), fun _ _ h _ => h, fun _ b' _ h hb => ⟨b', h, hb⟩⟩
    · cases ht
  · rename_i l
    simp only [Option.some.injEq, Prod.mk.injEq] at ht
    obtain ⟨rfl, rfl⟩ := ht
    have len : (K.zipIdx.map fun (b, i) => if i < H.length || l.contains i then b else none).length = K.length := by simp
    have sub : ∀ (id : Nat) (b : ABlk), (K.zipIdx.map fun (b, i) => if i < H.length || l.contains i then b else none)[id]? = some (some b) → K[id]? = some (some b) := fun id b hb => by
      rw [List.getElem?_map, List.getElem?_zipIdx] at hb
      cases hk : K[id]? with
      | none => rw [hk] at hb; cases hb
      | some y =>
        rw [hk] at hb
        simp only [Option.map_some, Nat.zero_add, Option.some.injEq] at hb
        split at hb
        · rw [hb]
        · cases hb
    refine ⟨q, hv, st.os, st.tape, st.output, st.size, st.block, st.ext, st.old, by rw [len]; exact st.len, ⟨fun id r hr => by rw [len]; exact st.sr.dom id r hr, fun id b hb => st.sr.blk id b (sub id b hb),
      fun id id' b b' r r' hb hb' => st.sr.inj id id' b b' r r' (sub id b hb) (sub id' b' hb')⟩, st.fresh, fun id b hb hw => ?_, fun id b hl hb hw => st.oown id b hl (sub id b hb) hw⟩
    have h1 := st.ro id b hb hw
    have hl := (List.getElem?_eq_some_iff.1 hb).1
    rw [List.getElem?_map, List.getElem?_zipIdx, h1]
    simp [hl]

/-- A known answer that some run gives. -/
theorem memo_cons {l : Memo} (h : MemoOk P l) (k : Known) (hlt : k.f < 1000000) (hc : CallOk P callf) {keep : Option (List Nat)}
    (hk : (still k.mem, (callf k.f k.args k.mem).bind (thin keep k.mem)) = (true, some (k.v, k.out))) : MemoOk P (k :: l) := by
  obtain ⟨hst, hk⟩ := Prod.mk.inj hk
  intro g args H v H' hg p args' w ha hs hgl
  unfold ask at hg
  split at hg
  · rename_i he
    simp only [Bool.and_eq_true, beq_iff_eq] at he
    obtain ⟨⟨rfl, h1⟩, h2⟩ := he
    have h1 := arr_eq (veqL_eq (veq_eq 5) _ _ h1)
    have h2 := heq_eq _ _ h2
    subst h1 h2
    simp only [Option.some.injEq, Prod.mk.injEq] at hg
    obtain ⟨rfl, rfl⟩ := hg
    cases hq : callf k.f k.args k.mem with
    | none => rw [hq] at hk; cases hk
    | some x =>
      rw [hq] at hk
      have := hc k.f k.args k.mem x.1 x.2 hq p args' w ha hs hgl
      rw [Nat.mod_eq_of_lt hlt] at this
      rw [(Nat.add_mod_right k.f 1000000).trans (Nat.mod_eq_of_lt hlt)]
      refine this.mono ?_
      rintro e w' ⟨p', v', rfl, hv, st⟩
      obtain ⟨q', h1, h2⟩ := st.thin hst hs hv hk
      exact ⟨q', v', rfl, h1, h2⟩
  · exact h g args H v H' hg p args' w ha hs hgl

/-- A CALL. -/
theorem evCall_ok (hm : P.follows .mixedOrders = true) {memo : Memo} (hmemo : MemoOk P memo) (L : Nat) : ∀ n, CallOk P (evCall P memo L n) := by
  intro n
  induction n with
  | zero => intro f args H v H' h; cases h
  | succ n ih =>
    intro f args H v H' h
    have h : (if 1000000 ≤ f then ask memo f args H else evFn P (evCall P memo L n) auto L f args H) = some (v, H') := h
    split at h
    · exact hmemo f args H v H' h
    · exact evFn_ok hm ih auto L f args H v H' h

/-- A CALL THAT ANSWERS true OVER NO NAMED BLOCK AT ALL answers true in every world, in every order, and leaves all that was there. -/
theorem true_ok (hm : P.follows .mixedOrders = true) {memo : Memo} (hmemo : MemoOk P memo) {L n : Nat} {f : FuncId} (hf : f < 1000000) (h : isTrue (evCall P memo L n f #[] []) = true) (w : World) (hgl : GlobOk w) :
    Calls P f #[] w fun e w' => e = .returned (.bool true) ∧ Below w.heap.size w w' := by
  cases hr : evCall P memo L n f #[] [] with
  | none => rw [hr] at h; cases h
  | some x =>
    obtain ⟨v, H'⟩ := x
    rw [hr] at h
    have hv : v = .bool true := by
      unfold isTrue at h
      split at h
      · rename_i H hx; simp only [Option.some.injEq, Prod.mk.injEq] at hx; exact hx.1
      · cases h
    subst hv
    have hall := evCall_ok hm hmemo L n f #[] [] _ H' hr (fun _ => none) #[] w ⟨rfl, fun i h => by simp at h⟩ (.empty w) (.empty hgl)
    rw [Nat.mod_eq_of_lt hf] at hall
    refine hall.mono ?_
    rintro e w' ⟨p', v', rfl, hv, st⟩
    rw [hv.bool]
    refine ⟨rfl, st.os, st.tape, st.output, st.size, fun k hk => st.block k hk fun ⟨id, b, r, hb, _⟩ => by simp at hb⟩
end
end Go.Proofs.YtfpcmckachpnpaaDoor.Vx
