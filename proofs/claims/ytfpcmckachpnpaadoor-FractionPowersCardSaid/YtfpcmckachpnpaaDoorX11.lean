/- The run over a memory with names of its own answers what the model answers: the operations of a region, in their order; and what each kind of operation looks at. -/
import Derived.Test.YtfpcmckachpnpaaDoorX10
namespace Go.Proofs.YtfpcmckachpnpaaDoor.Vx
open Go Go.RowKit

section
variable {P : Program} {callf : CallF} {ops : Array Oper}

theorem VR.bool_iff {p : Ren} {u u' : Value} (h : VR p u u') (hb : ∀ n, u ≠ .chan (some n)) (hl : isLost u = false) : (match some u with | some (.bool b) => some b | _ => none) = (match some u' with | some (.bool b) => some b | _ => (none : Option Bool)) := by
  cases h <;> first | rfl | exact absurd rfl (hb _) | cases hl

theorem wanted_eq {p : Ren} {t : Array Value} {a : Act} (ht : AR p t a.tmps) (o : Oper) (hb : blind ops t o = false) : Region.wanted o (yielded ops t) = Region.wanted o (yielded ops a.tmps) := by
  unfold Region.wanted
  unfold blind at hb
  cases hg : o.guard with
  | none => rfl
  | some x =>
    obtain ⟨j, want⟩ := x
    rw [hg] at hb
    have : yielded ops t j = yielded ops a.tmps j := by
      unfold yielded
      simp only at hb
      cases hd : (ops[j]?).bind (·.dst) with
      | none => rfl
      | some d =>
        rw [hd] at hb
        simp only [Option.bind_some] at hb ⊢
        cases hu : t[d]? with
        | none => rw [ht.none hu]
        | some u =>
          obtain ⟨u', h1, h2⟩ := ht.get hu
          rw [h1]
          rw [hu] at hb
          refine h2.bool_iff (fun n hn => ?_) ?_
          · rw [hn] at hb; cases hb
          · split at hb
            · cases hb
            · rename_i hq; simp only [Option.some.injEq] at hq; subst hq; exact hb
            · rename_i hq; cases hq
    simp only [this]

theorem put_ok {p : Ren} {t : Array Value} {a : Act} (ht : AR p t a.tmps) {dst : Option Tmp} {v v' : Value} (hv : VR p v v') : AR p (aput t dst v) (a.put dst v').tmps := by
  cases dst with
  | none => exact ht
  | some d => exact ht.set d hv
theorem put_defers {a : Act} {dst : Option Tmp} {v : Value} : (a.put dst v).defers = a.defers := by cases dst <;> rfl

theorem undef_ok {p : Ren} : VR p undef undef := .tup rfl fun i h => by simp at h

theorem aops_ok (hc : CallOk P callf) {Q : Exit → Act → World → Prop} : ∀ (l : List Nat) (t : Array Value) (H : AH) (t' : Array Value) (H' : AH), aops P callf ops l t H = some (t', H') →
    ∀ (p : Ren) (a : Act) (w : World), AR p t a.tmps → a.defers = [] → SR p H w → Gl p H w →
      (∀ p' a' w', AR p' t' a'.tmps → a'.defers = [] → St p H w p' H' w' → Q .normal a' w') → wpOps P ops Q l a w := by
  intro l
  induction l with
  | nil =>
    intro t H t' H' h p a w ht hd hs _ hq
    simp only [aops, Option.some.injEq, Prod.mk.injEq] at h
    obtain ⟨rfl, rfl⟩ := h
    exact hq p a w ht hd (.refl hs)
  | cons i r ih =>
    intro t H t' H' h p a w ht hd hs hgl hq
    unfold aops at h
    simp only [wpOps]
    cases ho : ops[i]? with
    | none =>
      rw [ho] at h
      exact ih t H t' H' h p a w ht hd hs hgl hq
    | some o =>
      rw [ho] at h
      simp only at h ⊢
      split at h
      · cases h
      rename_i hbl
      rw [← wanted_eq ht o (by simpa using hbl)]
      split at h
      · rename_i hw
        rw [if_pos hw]
        split at h
        · rename_i v K hv
          refine .inl (aop_ok hc hs hgl (fun x _ hx => opd_ok ht hx) hv fun p' v' w' hvv hst => ?_)
          refine ih _ K t' H' h p' _ w' (put_ok (ht.mono hst.ext) hvv) (by rw [put_defers]; exact hd) hst.sr (hst.glob hgl) fun p2 a2 w2 h1 h2 h3 => ?_
          exact hq p2 a2 w2 h1 h2 (hst.trans hs h3)
        · cases h
      · rename_i hw
        rw [if_neg hw]
        exact ih _ H t' H' h p _ w (put_ok ht undef_ok) (by rw [put_defers]; exact hd) hs hgl hq

theorem aflat_any {t : Array Value} {H K : AH} {o : Oper} {v : Value} (h : aflat P t H o = some (v, K)) : K = H ∧ ∀ H2, aflat P t H2 o = some (v, H2) := by
  unfold aflat at h ⊢
  split at h
  · rename_i hf
    split at h
    · rename_i u hu
      split at h
      · rename_i hfl
        simp only [Option.some.injEq, Prod.mk.injEq] at h
        obtain ⟨rfl, rfl⟩ := h
        exact ⟨rfl, fun H2 => by simp only [hf, if_true, hfl]⟩
      · cases h
    · cases h
  · cases h
theorem apass_any {t : Array Value} {H K : AH} {o : Oper} {v : Value} (h : apass P t H o = some (v, K)) : K = H ∧ ∀ H2, apass P t H2 o = some (v, H2) := by
  unfold apass at h ⊢
  split at h
  · rename_i u hu
    simp only [Option.some.injEq, Prod.mk.injEq] at h
    obtain ⟨rfl, rfl⟩ := h
    exact ⟨rfl, fun H2 => by rfl⟩
  · cases h

theorem calm_any {t : Array Value} {H K : AH} {o : Oper} {v : Value} (hk : kindOf o.op = .calm) (h : aop P callf t H o = some (v, K)) : K = H ∧ ∀ H2, aop P callf t H2 o = some (v, H2) := by
  unfold aop at h ⊢
  split at h
  · cases h
  · rename_i hops
    simp only [if_neg hops]
    clear hops
    unfold aopIn at h ⊢
    obtain ⟨dst, op, type, pos, after, guard⟩ := o
    cases op <;> simp only [kindOf, reduceCtorEq] at hk <;> simp only at h ⊢
    case move x => simp only [Option.some.injEq, Prod.mk.injEq] at h ⊢; exact ⟨h.2.symm, fun H2 => ⟨h.1, trivial⟩⟩
    case assign x => simp only [Option.some.injEq, Prod.mk.injEq] at h ⊢; exact ⟨h.2.symm, fun H2 => ⟨h.1, trivial⟩⟩
    case pick c x y =>
      split at h <;> first | (cases h; done) | (simp only [Option.some.injEq, Prod.mk.injEq] at h; exact ⟨h.2.symm, fun H2 => by simp [h.1]⟩)
    case nilCheck x =>
      split at h <;> first | (cases h; done) | (simp only [Option.some.injEq, Prod.mk.injEq] at h; exact ⟨h.2.symm, fun H2 => by simp [h.1]⟩)
    case fieldAddr s x f =>
      cases hq : afieldAddr P s f (aev t x) with
      | none => rw [hq] at h; cases h
      | some u => rw [hq] at h; simp only [Option.map_some, Option.some.injEq, Prod.mk.injEq] at h ⊢; exact ⟨h.2.symm, fun H2 => ⟨h.1, trivial⟩⟩
    case indexAddr s x i =>
      cases hq : aindexAddr P s (aev t x) (aev t i) with
      | none => rw [hq] at h; cases h
      | some u => rw [hq] at h; simp only [Option.map_some, Option.some.injEq, Prod.mk.injEq] at h ⊢; exact ⟨h.2.symm, fun H2 => ⟨h.1, trivial⟩⟩
    case build T ps =>
      split at h
      · rename_i hz
        have := apass_any h
        exact ⟨this.1, fun H2 => by rw [if_pos hz]; exact this.2 H2⟩
      · cases h
    case extract => exact apass_any h
    case field => exact apass_any h
    case makeFunc => exact apass_any h
    case binOp op T x y T2 =>
      split at h
      · rename_i hd
        split at h <;> first | (cases h; done) | (simp only [Option.some.injEq, Prod.mk.injEq] at h; exact ⟨h.2.symm, fun H2 => by rw [if_pos hd]; simp [h.1]⟩)
      · rename_i hd
        simp only [if_neg hd]
        split at h
        · cases hq : aeq P _ T x y (.agg _) (.agg _) with
          | none => rw [hq] at h; cases h
          | some r => rw [hq] at h; simp only [Option.map_some, Option.some.injEq, Prod.mk.injEq] at h ⊢; exact ⟨h.2.symm, fun H2 => ⟨h.1, trivial⟩⟩
        · cases hq : aeq P _ T x y (.agg _) (.agg _) with
          | none => rw [hq] at h; cases h
          | some r => rw [hq] at h; simp only [Option.map_some, Option.some.injEq, Prod.mk.injEq] at h ⊢; exact ⟨h.2.symm, fun H2 => ⟨h.1, trivial⟩⟩
        · exact aflat_any h
    case unOp => exact aflat_any h
    case index => exact aflat_any h
    case call c =>
      obtain ⟨callee, args, argTypes⟩ := c
      cases callee with
      | value f => simp at hk
      | invoke r m => simp at hk
      | builtin b =>
        cases b <;> simp only [reduceCtorEq] at hk <;> simp only at h ⊢
        case len =>
          split at h
          · rename_i x T hx hT
            split at h
            · simp only [Option.some.injEq, Prod.mk.injEq] at h
              obtain ⟨rfl, rfl⟩ := h
              exact ⟨rfl, fun H2 => rfl⟩
            · exact aflat_any h
          · cases h
        all_goals exact aflat_any h

theorem look_any {t : Array Value} {H K : AH} {o : Oper} {v : Value} (hk : kindOf o.op = .look) (h : aop P callf t H o = some (v, K)) :
    K = H ∧ ∀ H2, (∀ x ∈ reach o.op, ∀ id, idOf (aev t x) = some id → ∀ b, live H id = some b → ∃ b2, live H2 id = some b2 ∧ b2.cells = b.cells ∧ b2.own = b.own ∧ b2.esz = b.esz) →
      aop P callf t H2 o = some (v, H2) := by
  unfold aop at h ⊢
  split at h
  · cases h
  · rename_i hops
    simp only [if_neg hops]
    clear hops
    unfold aopIn at h ⊢
    obtain ⟨dst, op, type, pos, after, guard⟩ := o
    cases op <;> simp only [kindOf, reduceCtorEq] at hk <;> simp only at h ⊢
    case call c =>
      exfalso
      obtain ⟨callee, args, argTypes⟩ := c
      cases callee with
      | value f => simp at hk
      | invoke r m => simp at hk
      | builtin b => cases b <;> simp at hk
    case load T x =>
      cases hq : aload P T H (aev t x) with
      | none => rw [hq] at h; cases h
      | some u =>
        rw [hq] at h
        simp only [Option.map_some, Option.some.injEq, Prod.mk.injEq] at h
        obtain ⟨rfl, rfl⟩ := h
        refine ⟨rfl, fun H2 h2 => ?_⟩
        have h2 := h2 x (by simp [reach])
        have : aload P T H2 (aev t x) = some u := by
          unfold aload at hq ⊢
          split at hq
          · rename_i id off hv
            have h2 := h2 id (by rw [hv]; rfl)
            split at hq
            · rename_i b hl hagg
              obtain ⟨b2, hl2, hc, _, _⟩ := h2 b hl
              rw [hl2, hagg]
              simp only [hc]
              exact hq
            · rename_i b hl hagg
              obtain ⟨b2, hl2, hc, _, _⟩ := h2 b hl
              rw [hl2, hagg]
              simp only [hc]
              exact hq
            · cases hq
          · exact hq
          · cases hq
        rw [this]; rfl
    case slice T x lo hi mx =>
      split at h
      · rename_i hf
        have := aflat_any h
        exact ⟨this.1, fun H2 _ => by rw [if_pos hf]; exact this.2 H2⟩
      · rename_i hf
        split at h
        · cases h
        · rename_i hm
          cases hq : asliceOf P T (aev t x) (lo.map (aev t)) (hi.map (aev t)) H with
          | none => rw [hq] at h; cases h
          | some u =>
            rw [hq] at h
            simp only [Option.map_some, Option.some.injEq, Prod.mk.injEq] at h
            obtain ⟨rfl, rfl⟩ := h
            refine ⟨rfl, fun H2 h2 => ?_⟩
            rw [if_neg hf, if_neg hm]
            have h2 := h2 x (by simp [reach])
            have : asliceOf P T (aev t x) (lo.map (aev t)) (hi.map (aev t)) H2 = some u := by
              unfold asliceOf at hq ⊢
              split at hq
              · exact hq
              · rename_i e id off n c hu hv
                have h2 := h2 id (by rw [hv]; rfl)
                split at hq
                · rename_i i l hh hi' hends
                  split at hq
                  · rename_i hc; rw [if_pos hc]; exact hq
                  · rename_i hc
                    rw [if_neg hc]
                    split at hq
                    · rename_i hl; rw [if_pos hl]; exact hq
                    · rename_i hl
                      rw [if_neg hl]
                      split at hq
                      · rename_i hn
                        rw [if_pos hn]
                        split at hq
                        · rename_i b hb
                          obtain ⟨b2, hl2, _, ho, hz⟩ := h2 b hb
                          rw [hl2]
                          simp only [ho, hz]
                          exact hq
                        · cases hq
                      · rename_i hln; rw [if_neg hln]; exact hq
                · cases hq
              · exact hq
              · cases hq
            rw [this]; rfl

theorem make_any {t : Array Value} {H K : AH} {o : Oper} {v : Value} (hk : kindOf o.op = .make) (h : aop P callf t H o = some (v, K)) :
    ∃ blk, K = H ++ [some blk] ∧ ∀ H2 : AH, H2.length = H.length → aop P callf t H2 o = some (v, H2 ++ [some blk]) := by
  unfold aop at h ⊢
  split at h
  · cases h
  · rename_i hops
    simp only [if_neg hops]
    clear hops
    unfold aopIn at h ⊢
    obtain ⟨dst, op, type, pos, after, guard⟩ := o
    cases op <;> simp only [kindOf, reduceCtorEq] at hk <;> simp only at h ⊢
    case call c =>
      exfalso
      obtain ⟨callee, args, argTypes⟩ := c
      cases callee with
      | value f => simp at hk
      | invoke r m => simp at hk
      | builtin b => cases b <;> simp at hk
    case alloc e =>
      unfold aalloc at h ⊢
      split at h
      · simp only [Option.some.injEq, Prod.mk.injEq] at h
        obtain ⟨rfl, rfl⟩ := h
        exact ⟨_, rfl, fun H2 h2 => by rw [h2]⟩
      · cases h
    case box e x =>
      simp only [Option.some.injEq, Prod.mk.injEq] at h
      obtain ⟨rfl, rfl⟩ := h
      exact ⟨_, rfl, fun H2 h2 => by rw [h2]⟩
    case makeSlice T l c =>
      unfold amakeSlice at h ⊢
      split at h
      · split at h
        · split at h
          · rename_i hcond
            simp only [Option.some.injEq, Prod.mk.injEq] at h
            obtain ⟨rfl, rfl⟩ := h
            exact ⟨_, rfl, fun H2 h2 => by rw [if_pos hcond, h2]⟩
          · cases h
        · cases h
      · cases h
    case buildSlice T n ps =>
      unfold abuildSlice at h ⊢
      split at h
      · split at h
        · split at h
          · cases h
          · rename_i hlim
            split at h
            · rename_i cells hf
              simp only [Option.some.injEq, Prod.mk.injEq] at h
              obtain ⟨rfl, rfl⟩ := h
              exact ⟨_, rfl, fun H2 h2 => by rw [if_neg hlim, h2]⟩
            · cases h
        · cases h
      · cases h

/-- What a write does to memory: one block changed, some made. -/
def app (u : Option (Nat × Option ABlk)) (H : AH) : AH :=
  match u with
  | none => H
  | some (id, x) => H.set id x
theorem app_len (u : Option (Nat × Option ABlk)) (H : AH) : (app u H).length = H.length := by
  unfold app; split <;> simp
theorem app_ne {u : Option (Nat × Option ABlk)} {H : AH} {id : Nat} (h : ∀ x, u ≠ some (id, x)) : (app u H)[id]? = H[id]? := by
  unfold app
  split
  · rfl
  · rename_i k x
    have : k ≠ id := fun e => h x (by rw [e])
    rw [List.getElem?_set_ne this]
theorem app_eq {H : AH} {id : Nat} {x : Option ABlk} (h : id < H.length) : (app (some (id, x)) H)[id]? = some x := by
  simp [app, h]

theorem app_congr {u : Option (Nat × Option ABlk)} {H H2 : AH} {id : Nat} (hl : H2.length = H.length) (h : H2[id]? = H[id]?) : (app u H2)[id]? = (app u H)[id]? := by
  unfold app
  split
  · exact h
  · rename_i k x
    rw [List.getElem?_set, List.getElem?_set, hl, h]

theorem live_congr {H H2 : AH} {id : Nat} (h : H2[id]? = H[id]?) : live H2 id = live H id := by unfold live; rw [h]
theorem live_get {H : AH} {id : Nat} {b : ABlk} (h : live H id = some b) : H[id]? = some (some b) := live_some h

theorem storeAt_any {H H' : AH} {id off : Nat} {xs : List Value} (h : astoreAt H id off xs = some H') :
    ∃ b x, H[id]? = some (some b) ∧ b.wr = true ∧ H' = app (some (id, some x)) H ∧ ∀ H2 : AH, H2[id]? = H[id]? → astoreAt H2 id off xs = some (app (some (id, some x)) H2) := by
  unfold astoreAt at h
  split at h
  · rename_i b hb
    split at h
    · rename_i hc
      simp only [Option.some.injEq] at h
      refine ⟨b, _, live_some hb, by simp only [Bool.and_eq_true] at hc; exact hc.1.1, h.symm, fun H2 h2 => ?_⟩
      unfold astoreAt
      rw [live_congr h2, hb]
      simp only [hc, if_true]
      rfl
    · cases h
  · cases h

theorem srcOf_any {size : Nat} {H H2 : AH} {x : Value} (h2 : ∀ id, idOf x = some id → H2[id]? = H[id]?) : srcOf size H2 x = srcOf size H x := by
  unfold srcOf
  split
  · rename_i id off n c
    rw [live_congr (h2 id rfl)]
  · rfl
  · rfl
  · rfl
  · rfl

/-- A write, over whatever memory that has the blocks that it touches. -/
theorem write_any {t : Array Value} {H K : AH} {o : Oper} {v : Value} (hk : kindOf o.op = .write) (h : aop P callf t H o = some (v, K)) :
    ∃ u N, K = app u H ++ N ∧ (∀ id x, u = some (id, x) → id ∈ ((marks o.op).filterMap fun x => idOf (aev t x)) ∧ ∃ b, H[id]? = some (some b) ∧ b.wr = true) ∧
      ∀ H2 : AH, H2.length = H.length → (∀ id ∈ ((reach o.op).filterMap fun x => idOf (aev t x)), H2[id]? = H[id]?) → aop P callf t H2 o = some (v, app u H2 ++ N) := by
  unfold aop at h ⊢
  split at h
  · cases h
  · rename_i hops
    simp only [if_neg hops]
    clear hops
    unfold aopIn at h ⊢
    obtain ⟨dst, op, type, pos, after, guard⟩ := o
    cases op <;> simp only [kindOf, reduceCtorEq] at hk <;> simp only at h ⊢
    case convert src dst x =>
      split at h
      · rename_i hf
        have := aflat_any h
        refine ⟨none, [], by rw [this.1]; simp [app], fun id y h => (by cases h), fun H2 _ _ => ?_⟩
        rw [if_pos hf, this.2 H2]; simp [app]
      · rename_i hf
        simp only [if_neg hf]
        unfold aconvert at h ⊢
        split at h
        · rename_i e id off n c hu hd hv
          split at h
          · rename_i b he hl
            split at h
            · rename_i hle
              cases hb : bytesIn ((b.cells.drop off).take n) with
              | none => rw [hb] at h; cases h
              | some ns =>
                rw [hb] at h
                simp only [Option.map_some, Option.some.injEq, Prod.mk.injEq] at h
                obtain ⟨rfl, rfl⟩ := h
                refine ⟨none, [], by simp [app], fun id y h => (by cases h), fun H2 hl2 h2 => ?_⟩
                have := h2 id (by simp [reach, hv, idOf])
                simp only [he, live_congr this, hl, hle, if_true, hb, Option.map_some, app, List.append_nil]
            · cases h
          · cases h
        · rename_i e i1 i2 i3 hu hd hv
          split at h
          · rename_i he
            simp only [Option.some.injEq, Prod.mk.injEq] at h
            obtain ⟨rfl, rfl⟩ := h
            exact ⟨none, [], by simp [app], fun id y h => (by cases h), fun H2 hl2 h2 => by simp only [app, List.append_nil]⟩
          · cases h
        · rename_i e s hu hd hv
          split at h
          · rename_i he
            simp only [Option.some.injEq, Prod.mk.injEq] at h
            obtain ⟨rfl, rfl⟩ := h
            exact ⟨none, [_], rfl, fun id y h => (by cases h), fun H2 hl2 h2 => by simp only [app, hl2]⟩
          · cases h
        · cases h
    case store T x y =>
      cases hq : astore P T H (aev t x) (aev t y) with
      | none => rw [hq] at h; cases h
      | some H' =>
        rw [hq] at h
        simp only [Option.map_some, Option.some.injEq, Prod.mk.injEq] at h
        obtain ⟨rfl, rfl⟩ := h
        unfold astore at hq
        split at hq
        · rename_i id off i hx hi
          split at hq
          · rename_i hsz
            obtain ⟨b, x', hb, hw, rfl, hall⟩ := storeAt_any hq
            refine ⟨some (id, some x'), [], by simp, fun id' y' h' => ?_, fun H2 hl h2 => ?_⟩
            · simp only [Option.some.injEq, Prod.mk.injEq] at h'
              obtain ⟨rfl, rfl⟩ := h'
              exact ⟨by simp [marks, hx, idOf], b, hb, hw⟩
            · have := h2 id (by simp [reach, hx, idOf])
              unfold astore
              rw [hx, hi]
              simp only [hsz, if_true, hall H2 this, Option.map_some, List.append_nil]
          · cases hq
        · cases hq
    case call c =>
      obtain ⟨callee, args, argTypes⟩ := c
      cases callee with
      | value f => simp at hk
      | invoke r m => simp at hk
      | builtin b =>
        cases b <;> simp only [reduceCtorEq] at hk <;> simp only at h ⊢
        case append =>
          split at h
          · rename_i s x T T' hx hT
            have hh : aappend P T pos (aev t s) (aev t x) H = some (v, K) ∧ ∀ H2 r, aappend P T pos (aev t s) (aev t x) H2 = some r →
                (match P.underlying T' with | some (.slice _) | some .string => aappend P T pos (aev t s) (aev t x) H2 | _ => none) = some r := by
              split at h
              · rename_i hu'; exact ⟨h, fun H2 r hr => by rw [hu']; exact hr⟩
              · rename_i hu'; exact ⟨h, fun H2 r hr => by rw [hu']; exact hr⟩
              · cases h
            clear h
            obtain ⟨h, hback⟩ := hh
            suffices hgoal : ∃ u N, K = app u H ++ N ∧ (∀ id y, u = some (id, y) → id ∈ (marks (.call ⟨.builtin .append, args, argTypes⟩)).filterMap (fun x => idOf (aev t x)) ∧ ∃ b, H[id]? = some (some b) ∧ b.wr = true) ∧
                ∀ H2 : AH, H2.length = H.length → (∀ id ∈ (reach (.call ⟨.builtin .append, args, argTypes⟩)).filterMap (fun x => idOf (aev t x)), H2[id]? = H[id]?) → aappend P T pos (aev t s) (aev t x) H2 = some (v, app u H2 ++ N) by
              obtain ⟨u, N, h1, h2, h3⟩ := hgoal
              exact ⟨u, N, h1, h2, fun H2 a1 a2 => hback H2 _ (h3 H2 a1 a2)⟩
            · have hargs : args.toList = [s, x] := hx
              simp only [reach, marks, hargs]
              unfold aappend at h
              split at h
              · rename_i e hu
                split at h
                · rename_i i hi
                  split at h
                  · rename_i m new z hsrc hz
                    split at h
                    · cases h
                    · rename_i hone
                      have sx : ∀ H2 : AH, (∀ id ∈ [s, x].filterMap (fun x => idOf (aev t x)), H2[id]? = H[id]?) → srcOf i.size H2 (aev t x) = some (m, new) := fun H2 h2 => by
                        rw [srcOf_any fun id hid => h2 id (by simp [List.mem_filterMap]; exact .inr hid), hsrc]
                      split at h
                      · rename_i hs0
                        split at h
                        · rename_i hm0
                          simp only [Option.some.injEq, Prod.mk.injEq] at h
                          obtain ⟨rfl, rfl⟩ := h
                          refine ⟨none, [], by simp [app], fun _ _ h => (by cases h), fun H2 hl h2 => ?_⟩
                          unfold aappend
                          simp only [hu, hi, sx H2 h2, hz, hone, hs0, hm0, if_true, app, List.append_nil]
                          simp
                        · rename_i hm0
                          split at h
                          · rename_i hlim
                            simp only [Option.some.injEq, Prod.mk.injEq] at h
                            obtain ⟨rfl, rfl⟩ := h
                            refine ⟨none, _, by rfl, fun _ _ h => (by cases h), fun H2 hl h2 => ?_⟩
                            unfold aappend
                            simp only [hu, hi, sx H2 h2, hz, hone, hs0, hm0, if_false, if_pos hlim, hl, app]
                            simp
                          · cases h
                      · rename_i id off n c hs1
                        split at h
                        · rename_i b hlv
                          have same : ∀ H2 : AH, (∀ id ∈ [s, x].filterMap (fun x => idOf (aev t x)), H2[id]? = H[id]?) → H2[id]? = H[id]? := fun H2 h2 => h2 id (by simp [hs1, idOf])
                          split at h
                          · rename_i hm0
                            simp only [Option.some.injEq, Prod.mk.injEq] at h
                            obtain ⟨rfl, rfl⟩ := h
                            refine ⟨none, [], by simp [app], fun _ _ h => (by cases h), fun H2 hl h2 => ?_⟩
                            unfold aappend
                            simp only [hu, hi, sx H2 h2, hz, hone, hs1, hm0, live_congr (same H2 h2), hlv, if_true, app, List.append_nil]
                            simp
                          · rename_i hm0
                            split at h
                            · rename_i hcap
                              split at h
                              · rename_i H' hst
                                simp only [Option.some.injEq, Prod.mk.injEq] at h
                                obtain ⟨rfl, rfl⟩ := h
                                obtain ⟨b2, x2, hb2, hw2, rfl, hall⟩ := storeAt_any hst
                                refine ⟨some (id, some x2), [], by simp, fun id' y' h' => ?_, fun H2 hl h2 => ?_⟩
                                · simp only [Option.some.injEq, Prod.mk.injEq] at h'
                                  obtain ⟨rfl, rfl⟩ := h'
                                  exact ⟨by simp [hs1, idOf], b2, hb2, hw2⟩
                                · unfold aappend
                                  simp only [hu, hi, sx H2 h2, hz, hone, hs1, hm0, live_congr (same H2 h2), hlv, if_false, if_pos hcap, hall H2 (same H2 h2), List.append_nil]
                                  simp
                              · cases h
                            · rename_i hcap
                              split at h
                              · cases h
                              · rename_i hlim
                                split at h
                                · rename_i hc0
                                  split at h
                                  · rename_i hle
                                    simp only [Option.some.injEq, Prod.mk.injEq] at h
                                    obtain ⟨rfl, rfl⟩ := h
                                    refine ⟨none, _, by rfl, fun _ _ h => (by cases h), fun H2 hl h2 => ?_⟩
                                    unfold aappend
                                    simp only [hu, hi, sx H2 h2, hz, hone, hs1, hm0, live_congr (same H2 h2), hlv, if_false, if_neg hcap, if_neg hlim, if_pos hc0, if_pos hle, hl, app]
                                    simp
                                  · cases h
                                · rename_i hc0
                                  split at h
                                  · rename_i hw
                                    split at h
                                    case isTrue hsh =>
                                      simp only [Option.some.injEq, Prod.mk.injEq] at h
                                      obtain ⟨rfl, rfl⟩ := h
                                      refine ⟨some (id, some _), _, by rfl, fun id' y' h' => ?_, fun H2 hl h2 => ?_⟩
                                      · simp only [Option.some.injEq, Prod.mk.injEq] at h'
                                        obtain ⟨rfl, rfl⟩ := h'
                                        exact ⟨by simp [hs1, idOf], b, live_some hlv, hw.1⟩
                                      · unfold aappend
                                        simp only [hu, hi, sx H2 h2, hz, hone, hs1, hm0, live_congr (same H2 h2), hlv, if_false, if_neg hcap, if_neg hlim, if_neg hc0, if_pos hw, hl, app, hsh, if_true]
                                        simp
                                    case isFalse hsh =>
                                      simp only [Option.some.injEq, Prod.mk.injEq] at h
                                      obtain ⟨rfl, rfl⟩ := h
                                      refine ⟨some (id, none), _, by rfl, fun id' y' h' => ?_, fun H2 hl h2 => ?_⟩
                                      · simp only [Option.some.injEq, Prod.mk.injEq] at h'
                                        obtain ⟨rfl, rfl⟩ := h'
                                        exact ⟨by simp [hs1, idOf], b, live_some hlv, hw.1⟩
                                      · unfold aappend
                                        simp only [hu, hi, sx H2 h2, hz, hone, hs1, hm0, live_congr (same H2 h2), hlv, if_false, if_neg hcap, if_neg hlim, if_neg hc0, if_pos hw, hl, app, hsh, if_false, Bool.false_eq_true]
                                        simp
                                  · cases h
                        · cases h
                      · rename_i hs1
                        split at h
                        · rename_i hm0
                          simp only [Option.some.injEq, Prod.mk.injEq] at h
                          obtain ⟨rfl, rfl⟩ := h
                          refine ⟨none, [], by simp [app], fun _ _ h => (by cases h), fun H2 hl h2 => ?_⟩
                          unfold aappend
                          simp only [hu, hi, sx H2 h2, hz, hone, hs1, hm0, if_true, app, List.append_nil]
                          simp
                        · cases h
                      · cases h
                  · cases h
                · cases h
              · cases h
          · cases h
        case copy =>
          split at h
          · rename_i d x T T' hx hT
            have hargs : args.toList = [d, x] := hx
            simp only [reach, marks, hargs]
            unfold acopy at h
            split at h
            · rename_i e hu
              split at h
              · rename_i i hi
                split at h
                · rename_i id off n c id' off' n' c' hd hx'
                  split at h
                  · rename_i b hlv
                    split at h
                    · rename_i hle
                      split at h
                      · rename_i H' hst
                        simp only [Option.some.injEq, Prod.mk.injEq] at h
                        obtain ⟨rfl, rfl⟩ := h
                        obtain ⟨b2, x2, hb2, hw2, rfl, hall⟩ := storeAt_any hst
                        refine ⟨some (id, some x2), [], by simp, fun k y' h' => ?_, fun H2 hl h2 => ?_⟩
                        · simp only [Option.some.injEq, Prod.mk.injEq] at h'
                          obtain ⟨rfl, rfl⟩ := h'
                          exact ⟨by simp [hd, idOf], b2, hb2, hw2⟩
                        · have s1 : H2[id]? = H[id]? := h2 id (by simp [hd, idOf])
                          have s2 : H2[id']? = H[id']? := h2 id' (by simp [hx', idOf])
                          unfold acopy
                          simp only [hu, hi, hd, hx', live_congr s2, hlv, if_pos hle, hall H2 s1, List.append_nil]
                      · cases h
                    · cases h
                  · cases h
                · rename_i hd hx'
                  simp only [Option.some.injEq, Prod.mk.injEq] at h
                  obtain ⟨rfl, rfl⟩ := h
                  exact ⟨none, [], by simp [app], fun _ _ h => (by cases h), fun H2 hl h2 => by unfold acopy; simp only [hu, hi, hd, hx', app, List.append_nil]⟩
                · rename_i hd hx'
                  simp only [Option.some.injEq, Prod.mk.injEq] at h
                  obtain ⟨rfl, rfl⟩ := h
                  exact ⟨none, [], by simp [app], fun _ _ h => (by cases h), fun H2 hl h2 => by unfold acopy; simp only [hu, hi, hd, hx', app, List.append_nil]⟩
                · cases h
              · cases h
            · cases h
          · cases h
end
end Go.Proofs.YtfpcmckachpnpaaDoor.Vx
