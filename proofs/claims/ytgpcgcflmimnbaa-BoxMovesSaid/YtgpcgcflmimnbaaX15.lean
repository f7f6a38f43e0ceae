/- The run over a memory with names of its own answers what the model answers: a function's text, and its calls. -/
import Derived.Test.YtgpcgcflmimnbaaX14
import Derived.LoopN
import Derived.Scope
namespace Go.Proofs.Ytgpcgcflmimnbaa.Vx
open Go Go.RowKit

section
variable {P : Program} {callf : CallF} {md : Nat → Array Oper → Nat}

theorem evCode_zero (c : Code) (t : Array Value) (H : AH) : evCode P callf md 0 c t H = none := rfl
theorem evCode_succ (n : Nat) (c : Code) (t : Array Value) (H : AH) : evCode P callf md (n + 1) c t H =
    match c with
    | .skip | .label _ => some (.normal, t, H)
    | .region _ ops false => (aops P callf ops (List.range ops.size) t H).map fun (t, H) => (.normal, t, H)
    | .region id ops true => (adraw P callf (md id ops) ops t H).map fun (t, H) => (.normal, t, H)
    | .seq a b => match evCode P callf md n a t H with
      | some (.normal, t, H) => evCode P callf md n b t H
      | r => r
    | .cond c a b => if okOpd c then match aev t c with
        | .bool true => evCode P callf md n a t H
        | .bool false => evCode P callf md n b t H
        | _ => none
      else none
    | .block id b => match evCode P callf md n b t H with
      | some (.exit id', t, H) => if id' = id then some (.normal, t, H) else some (.exit id', t, H)
      | r => r
    | .loop b => match evCode P callf md n b t H with
      | some (.normal, t, H) => evCode P callf md n (.loop b) t H
      | r => r
    | .scope b => match evCode P callf md n b t H with
      | some (.goto _, _, _) => none
      | r => r
    | .exit id => some (.exit id, t, H)
    | .ret => some (.ret, t, H)
    | _ => none := rfl

/-- What holds at the end of a text. -/
def Ends (p : Ren) (H : AH) (w : World) (Q : Exit → Act → World → Prop) (e : Exit) (t' : Array Value) (H' : AH) : Prop :=
  ∀ p' a' w', AR p' t' a'.tmps → a'.defers = [] → St p H w p' H' w' → Q e a' w'

def CodeOk (P : Program) (callf : CallF) (md : Nat → Array Oper → Nat) (n : Nat) (c : Code) : Prop :=
  ∀ t H e t' H', evCode P callf md n c t H = some (e, t', H') → ∀ p a w Q, AR p t a.tmps → a.defers = [] → SR p H w → Ends p H w Q e t' H' → c.wp P Q a w

theorem Ends.after {p q : Ren} {H K L : AH} {w u : World} {Q : Exit → Act → World → Prop} {e : Exit} {t' : Array Value} (hs : SR p H w) (h : Ends p H w Q e t' L) (st : St p H w q K u) : Ends q K u Q e t' L :=
  fun p' a' w' h1 h2 h3 => h p' a' w' h1 h2 (st.trans hs h3)

theorem then_of {X : Act → World → Prop} {Q : Exit → Act → World → Prop} {e : Exit} {a : Act} {w : World} (he : e ≠ .normal) (h : Q e a w) : Exit.then X Q e a w := by
  cases e <;> first | exact absurd rfl he | exact h

theorem code_ok (hm : P.follows .mixedOrders = true) (hc : CallOk P callf) : ∀ n, (∀ c, CodeOk P callf md n c) ∧
    (∀ b t H e t' H', evCode P callf md n (.loop b) t H = some (e, t', H') → ∃ k, ∀ p a w Q, AR p t a.tmps → a.defers = [] → SR p H w → Ends p H w Q e t' H' → Code.rounds P b Q k a w) := by
  intro n
  induction n with
  | zero => exact ⟨fun c t H e t' H' h => (by cases h), fun b t H e t' H' h => (by cases h)⟩
  | succ n ih =>
    obtain ⟨ihc, ihl⟩ := ih
    have loops : ∀ b t H e t' H', evCode P callf md (n + 1) (.loop b) t H = some (e, t', H') → ∃ k, ∀ p a w Q, AR p t a.tmps → a.defers = [] → SR p H w → Ends p H w Q e t' H' → Code.rounds P b Q k a w := by
      intro b t H e t' H' h
      rw [evCode_succ] at h
      simp only at h
      cases hb : evCode P callf md n b t H with
      | none => rw [hb] at h; cases h
      | some x =>
        obtain ⟨e1, t1, H1⟩ := x
        rw [hb] at h
        by_cases he : e1 = .normal
        · subst he
          simp only at h
          obtain ⟨k, hk⟩ := ihl b t1 H1 e t' H' h
          refine ⟨k + 1, fun p a w Q ht hd hs hq => ?_⟩
          rw [rounds_succ]
          exact ihc b t H .normal t1 H1 hb p a w _ ht hd hs fun p' a' w' h1 h2 h3 => hk p' a' w' Q h1 h2 h3.sr (hq.after hs h3)
        · have h : e1 = e ∧ t1 = t' ∧ H1 = H' := by
            cases e1 <;> first | exact absurd rfl he | (simp only [Option.some.injEq, Prod.mk.injEq] at h; exact h)
          obtain ⟨rfl, rfl, rfl⟩ := h
          refine ⟨1, fun p a w Q ht hd hs hq => ?_⟩
          rw [rounds_succ]
          exact ihc b t H e1 t1 H1 hb p a w _ ht hd hs fun p' a' w' h1 h2 h3 => then_of he (hq p' a' w' h1 h2 h3)
    refine ⟨fun c t H e t' H' h p a w Q ht hd hs hq => ?_, loops⟩
    have h0 := h
    rw [evCode_succ] at h
    split at h
    · simp only [Option.some.injEq, Prod.mk.injEq] at h
      obtain ⟨rfl, rfl, rfl⟩ := h
      exact wp_skip (hq p a w ht hd (.refl hs))
    · simp only [Option.some.injEq, Prod.mk.injEq] at h
      obtain ⟨rfl, rfl, rfl⟩ := h
      exact wp_label (hq p a w ht hd (.refl hs))
    · rename_i id ops
      cases hr : aops P callf ops (List.range ops.size) t H with
      | none => rw [hr] at h; cases h
      | some x =>
        rw [hr] at h
        simp only [Option.map_some, Option.some.injEq, Prod.mk.injEq] at h
        obtain ⟨rfl, rfl, rfl⟩ := h
        exact wp_region (aops_ok hc _ _ _ _ _ hr p a w ht hd hs hq)
    · rename_i id ops
      cases hr : adraw P callf (md id ops) ops t H with
      | none => rw [hr] at h; cases h
      | some x =>
        rw [hr] at h
        simp only [Option.map_some, Option.some.injEq, Prod.mk.injEq] at h
        obtain ⟨rfl, rfl, rfl⟩ := h
        exact adraw_ok hm hc hr ht hd hs hq
    · rename_i x y
      cases hb : evCode P callf md n x t H with
      | none => rw [hb] at h; cases h
      | some r =>
        obtain ⟨e1, t1, H1⟩ := r
        rw [hb] at h
        refine wp_seq ?_
        by_cases he : e1 = .normal
        · subst he
          simp only at h
          exact ihc x t H .normal t1 H1 hb p a w _ ht hd hs fun p' a' w' h1 h2 h3 => ihc y t1 H1 e t' H' h p' a' w' Q h1 h2 h3.sr (hq.after hs h3)
        · have h : e1 = e ∧ t1 = t' ∧ H1 = H' := by
            cases e1 <;> first | exact absurd rfl he | (simp only [Option.some.injEq, Prod.mk.injEq] at h; exact h)
          obtain ⟨rfl, rfl, rfl⟩ := h
          exact ihc x t H e1 t1 H1 hb p a w _ ht hd hs fun p' a' w' h1 h2 h3 => then_of he (hq p' a' w' h1 h2 h3)
    · rename_i c x y
      split at h
      · rename_i hok
        have hcv := opd_ok ht hok
        split at h
        · rename_i hb
          rw [hb] at hcv
          exact wp_cond_true hcv.bool (ihc x t H e t' H' h p a w Q ht hd hs hq)
        · rename_i hb
          rw [hb] at hcv
          exact wp_cond_false hcv.bool (ihc y t H e t' H' h p a w Q ht hd hs hq)
        · cases h
      · cases h
    · rename_i id x
      refine wp_block ?_
      cases hb : evCode P callf md n x t H with
      | none => rw [hb] at h; cases h
      | some r =>
        obtain ⟨e1, t1, H1⟩ := r
        rw [hb] at h
        refine ihc x t H e1 t1 H1 hb p a w _ ht hd hs fun p' a' w' h1 h2 h3 => ?_
        cases e1 with
        | exit id' =>
          simp only [Exit.inBlock] at h ⊢
          split at h
          · rename_i hi
            simp only [Option.some.injEq, Prod.mk.injEq] at h
            obtain ⟨rfl, rfl, rfl⟩ := h
            rw [if_pos hi]; exact hq p' a' w' h1 h2 h3
          · rename_i hi
            simp only [Option.some.injEq, Prod.mk.injEq] at h
            obtain ⟨rfl, rfl, rfl⟩ := h
            rw [if_neg hi]; exact hq p' a' w' h1 h2 h3
        | _ =>
          simp only [Option.some.injEq, Prod.mk.injEq] at h
          obtain ⟨rfl, rfl, rfl⟩ := h
          exact hq p' a' w' h1 h2 h3
    · rename_i b
      obtain ⟨k, hk⟩ := loops b t H e t' H' h0
      exact wp_loop_rounds k (hk p a w Q ht hd hs hq)
    · rename_i x
      refine wp_scope_straight ?_
      cases hb : evCode P callf md n x t H with
      | none => rw [hb] at h; cases h
      | some r =>
        obtain ⟨e1, t1, H1⟩ := r
        rw [hb] at h
        refine ihc x t H e1 t1 H1 hb p a w _ ht hd hs fun p' a' w' h1 h2 h3 => ?_
        cases e1 with
        | goto l => cases h
        | _ =>
          simp only [Option.some.injEq, Prod.mk.injEq] at h
          obtain ⟨rfl, rfl, rfl⟩ := h
          exact hq p' a' w' h1 h2 h3
    · simp only [Option.some.injEq, Prod.mk.injEq] at h
      obtain ⟨rfl, rfl, rfl⟩ := h
      exact wp_exit (hq p a w ht hd (.refl hs))
    · simp only [Option.some.injEq, Prod.mk.injEq] at h
      obtain ⟨rfl, rfl, rfl⟩ := h
      exact wp_ret (hq p a w ht hd (.refl hs))
    · cases h

theorem ares_ok {p : Ren} {H : AH} {w : World} (hs : SR p H w) {t : Array Value} {tmps : Array Value} (ht : AR p t tmps) : ∀ (rs : List ResultVar) (vs : List Value), ares P t H rs = some vs →
    ∃ vs', (rs.mapM (m := Sem) fun | .tmp t => pure (tmps.getD t undef) | .cell a T => do loadVar T (← asAddr (tmps.getD a undef))).run P w = .ok vs' w ∧ LR p vs vs' := by
  intro rs
  induction rs with
  | nil =>
    intro vs h
    simp only [ares, Option.some.injEq] at h
    subst h
    exact ⟨[], by simp, .nil⟩
  | cons r rs ih =>
    intro vs h
    cases r with
    | tmp i =>
      simp only [ares] at h
      cases hr : ares P t H rs with
      | none => rw [hr] at h; cases h
      | some us =>
        rw [hr] at h
        simp only [Option.map_some, Option.some.injEq] at h
        subst h
        obtain ⟨us', h1, h2⟩ := ih us hr
        refine ⟨tmps.getD i undef :: us', ?_, .cons ?_ h2⟩
        · simp only [List.mapM_cons, Sem.run_bind, Sem.run_pure, Result.andThen_ok, h1]
        · exact opd_ok (a := ⟨tmps, []⟩) (x := .tmp i) ht rfl
    | cell i T =>
      simp only [ares] at h
      split at h
      · rename_i v us hv hr
        simp only [Option.some.injEq] at h
        subst h
        obtain ⟨us', h1, h2⟩ := ih us hr
        have hx : VR p (t.getD i undef) (tmps.getD i undef) := opd_ok (a := ⟨tmps, []⟩) (x := .tmp i) ht rfl
        obtain ⟨v', h3, h4⟩ := aload_ok (P := P) hs hx hv
        refine ⟨v' :: us', ?_, .cons h4 h2⟩
        have h5 : (do loadVar T (← asAddr (tmps.getD i undef)) : Sem Value).run P w = .ok v' w := by
          generalize tmps.getD i undef = x' at h3 hx
          unfold aload at hv
          split at hv
          · rename_i id off hxe
            rw [hxe] at hx
            cases hx with
            | same hf => simp [flat1] at hf
            | ptr hr' => exact h3
          · cases hv
        simp only [Sem.run_bind] at h5
        simp only [List.mapM_cons, Sem.run_bind, h5, Sem.run_pure, Result.andThen_ok, h1]
      · cases h

/-- A FUNCTION ANSWERS AS ITS TEXT SAYS if what it calls answers as callf says. -/
theorem evFn_ok (hm : P.follows .mixedOrders = true) (hc : CallOk P callf) (md : Nat → Array Oper → Nat) (L : Nat) : CallOk P (evFn P callf md L) := by
  intro f args H v H' h p args' w ha hs
  unfold evFn at h
  split at h
  · cases h
  rename_i hlt
  rw [Nat.mod_eq_of_lt (Nat.lt_of_not_le hlt)]
  cases hf : P.funcs[f]? with
  | none => rw [hf] at h; cases h
  | some fn =>
    rw [hf] at h
    simp only at h
    cases hb : fn.body with
    | none => rw [hb] at h; cases h
    | some c =>
      rw [hb] at h
      simp only at h
      refine calls_of_wp hf hb ?_
      have ht : AR p (args ++ Array.replicate (fn.ntmps - args.size) undef) (args' ++ Array.replicate (fn.ntmps - args'.size) undef) := by
        rw [ha.1]
        exact ha.append ⟨rfl, fun i h1 h2 => by simp only [Array.getElem_replicate]; exact undef_ok⟩
      cases hr : evCode P callf md L c (args ++ Array.replicate (fn.ntmps - args.size) undef) H with
      | none => rw [hr] at h; cases h
      | some r =>
        obtain ⟨e, t', H1⟩ := r
        rw [hr] at h
        refine (code_ok hm hc L).1 c _ H e t' H1 hr p _ w _ ht rfl hs fun p' a' w' h1 h2 h3 => ?_
        have fin : (match ares P t' H1 fn.results.toList with
          | some [v] => some (v, H1)
          | some vs => some (.tuple vs.toArray, H1)
          | none => none) = some (v, H') → a'.defers = [] ∧ ∃ v', (results fn a'.tmps).run P w' = .ok v' w' ∧ ∃ p' v'', Ending.returned v' = .returned v'' ∧ VR p' v v'' ∧ St p H w p' H' w' := by
          intro h
          refine ⟨h2, ?_⟩
          cases hra : ares P t' H1 fn.results.toList with
          | none => rw [hra] at h; cases h
          | some vs =>
            obtain ⟨vs', h4, h5⟩ := ares_ok (P := P) h3.sr h1 _ _ hra
            rw [hra] at h
            have hrun : (results fn a'.tmps).run P w' = .ok (if h : vs'.toArray.size = 1 then vs'.toArray[0] else .tuple vs'.toArray) w' := by
              unfold results
              rw [Sem.run_bind]
              have : (Array.mapM (m := Sem) (fun x => match x with | .tmp t => pure (a'.tmps.getD t undef) | .cell a T => do loadVar T (← asAddr (a'.tmps.getD a undef))) fn.results).run P w' = .ok vs'.toArray w' := by
                rw [← Array.toArray_toList (xs := fn.results), List.mapM_toArray, Sem.run_map, h4, Result.andThen_ok]
              erw [this]
              rw [Result.andThen_ok, Sem.run_pure]
            refine ⟨_, hrun, p', _, rfl, ?_⟩
            by_cases h1' : ∃ v0, vs = [v0]
            · obtain ⟨v0, rfl⟩ := h1'
              simp only [Option.some.injEq, Prod.mk.injEq] at h
              obtain ⟨rfl, rfl⟩ := h
              obtain ⟨v0', r', rfl, h6, h7⟩ := h5.uncons
              obtain rfl := h7.unnil
              exact ⟨by simpa using h6, h3⟩
            · have hne : vs.length ≠ 1 := fun hl => h1' (List.length_eq_one_iff.1 hl)
              have h : Value.tuple vs.toArray = v ∧ H1 = H' := by
                split at h
                · rename_i v0 hv0; injection hv0 with hv0; exact absurd ⟨v0, hv0⟩ h1'
                · rename_i us _ hus; injection hus with hus; subst hus; simpa using h
                · rename_i hn; cases hn
              obtain ⟨rfl, rfl⟩ := h
              rw [dif_neg (by simp; rw [← h5.1]; exact hne)]
              exact ⟨.tup h5.array.1 h5.array.2, h3⟩
        cases e with
        | normal => exact fin h
        | ret => exact fin h
        | _ => cases h


theorem evFn_lt {L : Nat} {f : FuncId} {args : Array Value} {H : AH} {r : Value × AH} (h : evFn P callf md L f args H = some r) : f < 1000000 := by
  unfold evFn at h
  split at h
  · cases h
  · rename_i hlt; exact Nat.lt_of_not_le hlt

theorem veqL_eq {eq : Value → Value → Bool} (he : ∀ a b, eq a b = true → a = b) : ∀ (xs ys : List Value), veqL eq xs ys = true → xs = ys := by
  intro xs
  induction xs with
  | nil => intro ys h; cases ys with
    | nil => rfl
    | cons y ys => cases h
  | cons x xs ih => intro ys h; cases ys with
    | nil => cases h
    | cons y ys =>
      simp only [veqL, Bool.and_eq_true] at h
      rw [he _ _ h.1, ih _ h.2]
theorem arr_eq {xs ys : Array Value} (h : xs.toList = ys.toList) : xs = ys := by rw [← Array.toArray_toList (xs := xs), h]
theorem str_eq {a b : ByteArray} (h : (a.data == b.data) = true) : a = b := by
  simp only [beq_iff_eq] at h
  cases a; cases b; simp_all
theorem veq_eq : ∀ (n : Nat) (a b : Value), veq n a b = true → a = b := by
  intro n
  induction n with
  | zero =>
    intro a b h
    unfold veq at h
    split at h
    all_goals first | (cases h; done) | rfl | (rw [str_eq h]; done) | (simp only [Bool.and_eq_true, beq_iff_eq] at h; simp_all; done) | (rename_i q; cases q)
  | succ n ih =>
    intro a b h
    unfold veq at h
    split at h
    all_goals first | (cases h; done) | rfl | (rw [str_eq h]; done) | (rename_i q; cases q; rw [arr_eq (veqL_eq ih _ _ h)]; done) |
      (rename_i q; cases q; simp only [Bool.and_eq_true, beq_iff_eq] at h; rw [h.1.1, arr_eq (veqL_eq ih _ _ h.1.2), arr_eq (veqL_eq ih _ _ h.2)]; done) | (simp only [Bool.and_eq_true, beq_iff_eq] at h; simp_all; done)
theorem beqB_eq {a b : ABlk} (h : beqB a b = true) : a = b := by
  unfold beqB at h
  simp only [Bool.and_eq_true, beq_iff_eq] at h
  have := veqL_eq (veq_eq 5) _ _ h.2
  cases a; cases b; simp_all
theorem heq_eq : ∀ (xs ys : AH), heq xs ys = true → xs = ys := by
  intro xs
  induction xs with
  | nil => intro ys h; cases ys with
    | nil => rfl
    | cons y ys => cases h
  | cons x xs ih => intro ys h; cases ys with
    | nil => cases x <;> cases h
    | cons y ys =>
      cases x <;> cases y <;> first | cases h | skip
      · rw [ih _ h]
      · simp only [heq, Bool.and_eq_true] at h
        rw [beqB_eq h.1, ih _ h.2]

def MemoOk (P : Program) (memo : Memo) : Prop := CallOk P (ask memo)
theorem memo_nil : MemoOk P [] := fun _ _ _ _ _ h => by cases h
def still (H : AH) : Bool := H.all fun | some b => !b.wr | none => true
theorem still_wr {H : AH} (h : still H = true) {id : Nat} {b : ABlk} (hb : H[id]? = some (some b)) : b.wr = false := by
  unfold still at h
  have := List.all_eq_true.1 h _ (List.mem_of_getElem? hb)
  simpa using this

theorem St.thin {p q : Ren} {H K : AH} {w w' : World} {x : Value} {keep : Option (List Nat)} {v v' : Value} {H' : AH} (hst : still H = true) (hs : SR p H w) (st : St p H w q K w') (hv : VR q x v') (ht : thin keep H (x, K) = some (v, H')) :
    ∃ q', VR q' v v' ∧ St p H w q' H' w' := by
  unfold Vx.thin at ht
  split at ht
  · split at ht
    · rename_i hf
      simp only [Option.some.injEq, Prod.mk.injEq] at ht
      obtain ⟨rfl, rfl⟩ := ht
      have := hv.flat_eq hf
      subst this
      have hb : ∀ k, k < w.heap.size → w'.heap[k]? = w.heap[k]? := fun k hk => st.block k hk fun ⟨id, b, r, hb, hw, _⟩ => by rw [still_wr hst hb] at hw; cases hw
      exact ⟨p, flat_refl hf, st.os, st.tape, st.output, st.size, fun k hk _ => hb k hk, .refl _, fun _ _ => rfl, Nat.le_refl _,
        ⟨hs.dom, fun id b hb' => let ⟨r, hr, hbr⟩ := hs.blk id b hb'; ⟨r, hr, hbr.keep st.size (hb _ hbr.lt)⟩, hs.inj⟩,
        fun id r hr hl => absurd (hs.dom id r hr) (by omega), fun _ _ h _ => h, fun _ b' _ h hb => ⟨b', h, hb⟩⟩
    · cases ht
  · rename_i l
    simp only [Option.some.injEq, Prod.mk.injEq] at ht
    obtain ⟨rfl, rfl⟩ := ht
    have len : (K.zipIdx.map fun (b, i) => if i < H.length || l.contains i then b else none).length = K.length := by simp
    have sub : ∀ (id : Nat) (b : ABlk), (K.zipIdx.map fun (b, i) => if i < H.length || l.contains i then b else none)[id]? = some (some b) → K[id]? = some (some b) := fun id b hb => by
      rw [List.getElem?_map, List.getElem?_zipIdx] at hb
      cases hk : K[id]? with
      | none => rw [hk] at hb; cases hb
      | some y =>
        rw [hk] at hb
        simp only [Option.map_some, Nat.zero_add, Option.some.injEq] at hb
        split at hb
        · rw [hb]
        · cases hb
    refine ⟨q, hv, st.os, st.tape, st.output, st.size, st.block, st.ext, st.old, by rw [len]; exact st.len, ⟨fun id r hr => by rw [len]; exact st.sr.dom id r hr, fun id b hb => st.sr.blk id b (sub id b hb),
      fun id id' b b' r r' hb hb' => st.sr.inj id id' b b' r r' (sub id b hb) (sub id' b' hb')⟩, st.fresh, fun id b hb hw => ?_, fun id b hl hb hw => st.oown id b hl (sub id b hb) hw⟩
    have h1 := st.ro id b hb hw
    have hl := (List.getElem?_eq_some_iff.1 hb).1
    rw [List.getElem?_map, List.getElem?_zipIdx, h1]
    simp [hl]

/-- A known answer that some run gives. -/
theorem memo_cons {l : Memo} (h : MemoOk P l) (k : Known) (hlt : k.f < 1000000) (hc : CallOk P callf) {keep : Option (List Nat)}
    (hk : (still k.mem, (callf k.f k.args k.mem).bind (thin keep k.mem)) = (true, some (k.v, k.out))) : MemoOk P (k :: l) := by
  obtain ⟨hst, hk⟩ := Prod.mk.inj hk
  intro g args H v H' hg p args' w ha hs
  unfold ask at hg
  split at hg
  · rename_i he
    simp only [Bool.and_eq_true, beq_iff_eq] at he
    obtain ⟨⟨rfl, h1⟩, h2⟩ := he
    have h1 := arr_eq (veqL_eq (veq_eq 5) _ _ h1)
    have h2 := heq_eq _ _ h2
    subst h1 h2
    simp only [Option.some.injEq, Prod.mk.injEq] at hg
    obtain ⟨rfl, rfl⟩ := hg
    cases hq : callf k.f k.args k.mem with
    | none => rw [hq] at hk; cases hk
    | some x =>
      rw [hq] at hk
      have := hc k.f k.args k.mem x.1 x.2 hq p args' w ha hs
      rw [Nat.mod_eq_of_lt hlt] at this
      rw [(Nat.add_mod_right k.f 1000000).trans (Nat.mod_eq_of_lt hlt)]
      refine this.mono ?_
      rintro e w' ⟨p', v', rfl, hv, st⟩
      obtain ⟨q', h1, h2⟩ := st.thin hst hs hv hk
      exact ⟨q', v', rfl, h1, h2⟩
  · exact h g args H v H' hg p args' w ha hs

/-- A CALL. -/
theorem evCall_ok (hm : P.follows .mixedOrders = true) {memo : Memo} (hmemo : MemoOk P memo) (L : Nat) : ∀ n, CallOk P (evCall P memo L n) := by
  intro n
  induction n with
  | zero => intro f args H v H' h; cases h
  | succ n ih =>
    intro f args H v H' h
    have h : (if 1000000 ≤ f then ask memo f args H else evFn P (evCall P memo L n) (fun _ _ => 3) L f args H) = some (v, H') := h
    split at h
    · exact hmemo f args H v H' h
    · exact evFn_ok hm ih (fun _ _ => 3) L f args H v H' h

/-- A CALL THAT ANSWERS true OVER NO NAMED BLOCK AT ALL answers true in every world, in every order, and leaves all that was there. -/
theorem true_ok (hm : P.follows .mixedOrders = true) {memo : Memo} (hmemo : MemoOk P memo) {L n : Nat} {f : FuncId} (hf : f < 1000000) (h : isTrue (evCall P memo L n f #[] []) = true) (w : World) :
    Calls P f #[] w fun e w' => e = .returned (.bool true) ∧ Below w.heap.size w w' := by
  cases hr : evCall P memo L n f #[] [] with
  | none => rw [hr] at h; cases h
  | some x =>
    obtain ⟨v, H'⟩ := x
    rw [hr] at h
    have hv : v = .bool true := by
      unfold isTrue at h
      split at h
      · rename_i H hx; simp only [Option.some.injEq, Prod.mk.injEq] at hx; exact hx.1
      · cases h
    subst hv
    have hall := evCall_ok hm hmemo L n f #[] [] _ H' hr (fun _ => none) #[] w ⟨rfl, fun i h => by simp at h⟩ (.empty w)
    rw [Nat.mod_eq_of_lt hf] at hall
    refine hall.mono ?_
    rintro e w' ⟨p', v', rfl, hv, st⟩
    rw [hv.bool]
    refine ⟨rfl, st.os, st.tape, st.output, st.size, fun k hk => st.block k hk fun ⟨id, b, r, hb, _⟩ => by simp at hb⟩
end
end Go.Proofs.Ytgpcgcflmimnbaa.Vx
