/- The run over a memory with names of its own answers what the model answers: the operations of a region, in their order; and what each kind of operation looks at. -/
import Derived.Test.YtdbdoagljioijaaX10
namespace Go.Proofs.Ytdbdoagljioijaa.Vx
open Go Go.RowKit

section
variable {P : Program} {callf : CallF} {ops : Array Oper}

theorem VR.bool_iff {p : Ren} {u u' : Value} (h : VR p u u') : (match some u with | some (.bool b) => some b | _ => none) = (match some u' with | some (.bool b) => some b | _ => (none : Option Bool)) := by
  cases h <;> rfl

theorem wanted_eq {p : Ren} {t : Array Value} {a : Act} (ht : AR p t a.tmps) (o : Oper) : Region.wanted o (yielded ops t) = Region.wanted o (yielded ops a.tmps) := by
  have : yielded ops t = yielded ops a.tmps := by
    funext j
    unfold yielded
    cases hd : (ops[j]?).bind (·.dst) with
    | none => rfl
    | some d =>
      simp only [Option.bind_some]
      cases hu : t[d]? with
      | none => rw [ht.none hu]
      | some u =>
        obtain ⟨u', h1, h2⟩ := ht.get hu
        rw [h1]
        exact h2.bool_iff
  rw [this]

theorem put_ok {p : Ren} {t : Array Value} {a : Act} (ht : AR p t a.tmps) {dst : Option Tmp} {v v' : Value} (hv : VR p v v') : AR p (aput t dst v) (a.put dst v').tmps := by
  cases dst with
  | none => exact ht
  | some d => exact ht.set d hv
theorem put_defers {a : Act} {dst : Option Tmp} {v : Value} : (a.put dst v).defers = a.defers := by cases dst <;> rfl

theorem undef_ok {p : Ren} : VR p undef undef := .tup rfl fun i h => by simp at h

theorem aops_ok (hc : CallOk P callf) {Q : Exit → Act → World → Prop} : ∀ (l : List Nat) (t : Array Value) (H : AH) (t' : Array Value) (H' : AH), aops P callf ops l t H = some (t', H') →
    ∀ (p : Ren) (a : Act) (w : World), AR p t a.tmps → a.defers = [] → SR p H w →
      (∀ p' a' w', AR p' t' a'.tmps → a'.defers = [] → St p H w p' H' w' → Q .normal a' w') → wpOps P ops Q l a w := by
  intro l
  induction l with
  | nil =>
    intro t H t' H' h p a w ht hd hs hq
    simp only [aops, Option.some.injEq, Prod.mk.injEq] at h
    obtain ⟨rfl, rfl⟩ := h
    exact hq p a w ht hd (.refl hs)
  | cons i r ih =>
    intro t H t' H' h p a w ht hd hs hq
    unfold aops at h
    simp only [wpOps]
    cases ho : ops[i]? with
    | none =>
      rw [ho] at h
      exact ih t H t' H' h p a w ht hd hs hq
    | some o =>
      rw [ho] at h
      simp only at h ⊢
      rw [← wanted_eq ht o]
      split at h
      · rename_i hw
        rw [if_pos hw]
        split at h
        · rename_i v K hv
          refine .inl (aop_ok hc hs (fun x _ hx => opd_ok ht hx) hv fun p' v' w' hvv hst => ?_)
          refine ih _ K t' H' h p' _ w' (put_ok (ht.mono hst.ext) hvv) (by rw [put_defers]; exact hd) hst.sr fun p2 a2 w2 h1 h2 h3 => ?_
          exact hq p2 a2 w2 h1 h2 (hst.trans hs h3)
        · cases h
      · rename_i hw
        rw [if_neg hw]
        exact ih _ H t' H' h p _ w (put_ok ht undef_ok) (by rw [put_defers]; exact hd) hs hq

theorem aflat_any {t : Array Value} {H K : AH} {o : Oper} {v : Value} (h : aflat P t H o = some (v, K)) : K = H ∧ ∀ H2, aflat P t H2 o = some (v, H2) := by
  unfold aflat at h ⊢
  split at h
  · rename_i hf
    split at h
    · rename_i u hu
      split at h
      · rename_i hfl
        simp only [Option.some.injEq, Prod.mk.injEq] at h
        obtain ⟨rfl, rfl⟩ := h
        exact ⟨rfl, fun H2 => by simp only [hf, if_true, hfl]⟩
      · cases h
    · cases h
  · cases h
theorem apass_any {t : Array Value} {H K : AH} {o : Oper} {v : Value} (h : apass P t H o = some (v, K)) : K = H ∧ ∀ H2, apass P t H2 o = some (v, H2) := by
  unfold apass at h ⊢
  split at h
  · rename_i u hu
    simp only [Option.some.injEq, Prod.mk.injEq] at h
    obtain ⟨rfl, rfl⟩ := h
    exact ⟨rfl, fun H2 => by rfl⟩
  · cases h

theorem calm_any {t : Array Value} {H K : AH} {o : Oper} {v : Value} (hk : kindOf o.op = .calm) (h : aop P callf t H o = some (v, K)) : K = H ∧ ∀ H2, aop P callf t H2 o = some (v, H2) := by
  unfold aop at h ⊢
  split at h
  · cases h
  · rename_i hops
    simp only [if_neg hops]
    clear hops
    unfold aopIn at h ⊢
    obtain ⟨dst, op, type, pos, after, guard⟩ := o
    cases op <;> simp only [kindOf, reduceCtorEq] at hk <;> simp only at h ⊢
    case move x => simp only [Option.some.injEq, Prod.mk.injEq] at h ⊢; exact ⟨h.2.symm, fun H2 => ⟨h.1, trivial⟩⟩
    case assign x => simp only [Option.some.injEq, Prod.mk.injEq] at h ⊢; exact ⟨h.2.symm, fun H2 => ⟨h.1, trivial⟩⟩
    case pick c x y =>
      split at h <;> first | (cases h; done) | (simp only [Option.some.injEq, Prod.mk.injEq] at h; exact ⟨h.2.symm, fun H2 => by simp [h.1]⟩)
    case nilCheck x =>
      split at h <;> first | (cases h; done) | (simp only [Option.some.injEq, Prod.mk.injEq] at h; exact ⟨h.2.symm, fun H2 => by simp [h.1]⟩)
    case fieldAddr s x f =>
      cases hq : afieldAddr P s f (aev t x) with
      | none => rw [hq] at h; cases h
      | some u => rw [hq] at h; simp only [Option.map_some, Option.some.injEq, Prod.mk.injEq] at h ⊢; exact ⟨h.2.symm, fun H2 => ⟨h.1, trivial⟩⟩
    case indexAddr s x i =>
      cases hq : aindexAddr P s (aev t x) (aev t i) with
      | none => rw [hq] at h; cases h
      | some u => rw [hq] at h; simp only [Option.map_some, Option.some.injEq, Prod.mk.injEq] at h ⊢; exact ⟨h.2.symm, fun H2 => ⟨h.1, trivial⟩⟩
    case build T ps =>
      split at h
      · rename_i hz
        have := apass_any h
        exact ⟨this.1, fun H2 => by rw [if_pos hz]; exact this.2 H2⟩
      · cases h
    case extract => exact apass_any h
    case field => exact apass_any h
    case makeFunc => exact apass_any h
    case binOp op T x y T2 =>
      split at h
      · rename_i hd
        split at h <;> first | (cases h; done) | (simp only [Option.some.injEq, Prod.mk.injEq] at h; exact ⟨h.2.symm, fun H2 => by rw [if_pos hd]; simp [h.1]⟩)
      · rename_i hd
        simp only [if_neg hd]
        split at h
        · cases hq : aeq P _ T x y (.agg _) (.agg _) with
          | none => rw [hq] at h; cases h
          | some r => rw [hq] at h; simp only [Option.map_some, Option.some.injEq, Prod.mk.injEq] at h ⊢; exact ⟨h.2.symm, fun H2 => ⟨h.1, trivial⟩⟩
        · cases hq : aeq P _ T x y (.agg _) (.agg _) with
          | none => rw [hq] at h; cases h
          | some r => rw [hq] at h; simp only [Option.map_some, Option.some.injEq, Prod.mk.injEq] at h ⊢; exact ⟨h.2.symm, fun H2 => ⟨h.1, trivial⟩⟩
        · exact aflat_any h
    case unOp => exact aflat_any h
    case convert => exact aflat_any h
    case index => exact aflat_any h
    case call c =>
      obtain ⟨callee, args, argTypes⟩ := c
      cases callee with
      | value f => simp at hk
      | invoke r m => simp at hk
      | builtin b =>
        cases b <;> simp only [reduceCtorEq] at hk <;> simp only at h ⊢
        case len =>
          split at h
          · rename_i x T hx hT
            split at h
            · simp only [Option.some.injEq, Prod.mk.injEq] at h
              obtain ⟨rfl, rfl⟩ := h
              exact ⟨rfl, fun H2 => rfl⟩
            · exact aflat_any h
          · cases h
        all_goals exact aflat_any h

def idOf : Value → Option Nat
  | .pointer (some ⟨id, _, none⟩) => some id
  | .slice (some ⟨id, _, none⟩) _ _ => some id
  | _ => none

theorem look_any {t : Array Value} {H K : AH} {o : Oper} {v : Value} (hk : kindOf o.op = .look) (h : aop P callf t H o = some (v, K)) :
    K = H ∧ ∀ H2, (∀ x ∈ o.op.operands.toList, ∀ id, idOf (aev t x) = some id → ∀ b, live H id = some b → ∃ b2, live H2 id = some b2 ∧ b2.cells = b.cells ∧ b2.own = b.own ∧ b2.esz = b.esz) →
      aop P callf t H2 o = some (v, H2) := by
  unfold aop at h ⊢
  split at h
  · cases h
  · rename_i hops
    simp only [if_neg hops]
    clear hops
    unfold aopIn at h ⊢
    obtain ⟨dst, op, type, pos, after, guard⟩ := o
    cases op <;> simp only [kindOf, reduceCtorEq] at hk <;> simp only at h ⊢
    case call c =>
      exfalso
      obtain ⟨callee, args, argTypes⟩ := c
      cases callee with
      | value f => simp at hk
      | invoke r m => simp at hk
      | builtin b => cases b <;> simp at hk
    case load T x =>
      cases hq : aload P T H (aev t x) with
      | none => rw [hq] at h; cases h
      | some u =>
        rw [hq] at h
        simp only [Option.map_some, Option.some.injEq, Prod.mk.injEq] at h
        obtain ⟨rfl, rfl⟩ := h
        refine ⟨rfl, fun H2 h2 => ?_⟩
        have h2 := h2 x (by simp [Op.operands])
        have : aload P T H2 (aev t x) = some u := by
          unfold aload at hq ⊢
          split at hq
          · rename_i id off hv
            have h2 := h2 id (by rw [hv]; rfl)
            split at hq
            · rename_i b hl hagg
              obtain ⟨b2, hl2, hc, _, _⟩ := h2 b hl
              rw [hl2, hagg]
              simp only [hc]
              exact hq
            · rename_i b hl hagg
              obtain ⟨b2, hl2, hc, _, _⟩ := h2 b hl
              rw [hl2, hagg]
              simp only [hc]
              exact hq
            · cases hq
          · cases hq
        rw [this]; rfl
    case slice T x lo hi mx =>
      split at h
      · rename_i hf
        have := aflat_any h
        exact ⟨this.1, fun H2 _ => by rw [if_pos hf]; exact this.2 H2⟩
      · rename_i hf
        split at h
        · cases h
        · rename_i hm
          cases hq : asliceOf P T (aev t x) (lo.map (aev t)) (hi.map (aev t)) H with
          | none => rw [hq] at h; cases h
          | some u =>
            rw [hq] at h
            simp only [Option.map_some, Option.some.injEq, Prod.mk.injEq] at h
            obtain ⟨rfl, rfl⟩ := h
            refine ⟨rfl, fun H2 h2 => ?_⟩
            rw [if_neg hf, if_neg hm]
            have h2 := h2 x (by simp [Op.operands])
            have : asliceOf P T (aev t x) (lo.map (aev t)) (hi.map (aev t)) H2 = some u := by
              unfold asliceOf at hq ⊢
              split at hq
              · exact hq
              · rename_i e id off n c hu hv
                have h2 := h2 id (by rw [hv]; rfl)
                split at hq
                · rename_i i l hh hi' hends
                  split at hq
                  · rename_i hc; rw [if_pos hc]; exact hq
                  · rename_i hc
                    rw [if_neg hc]
                    split at hq
                    · rename_i hl; rw [if_pos hl]; exact hq
                    · rename_i hl
                      rw [if_neg hl]
                      split at hq
                      · rename_i hn
                        rw [if_pos hn]
                        split at hq
                        · rename_i b hb
                          obtain ⟨b2, hl2, _, ho, hz⟩ := h2 b hb
                          rw [hl2]
                          simp only [ho, hz]
                          exact hq
                        · cases hq
                      · cases hq
                · cases hq
              · cases hq
            rw [this]; rfl

theorem make_any {t : Array Value} {H K : AH} {o : Oper} {v : Value} (hk : kindOf o.op = .make) (h : aop P callf t H o = some (v, K)) :
    ∃ blk, K = H ++ [some blk] ∧ ∀ H2 : AH, H2.length = H.length → aop P callf t H2 o = some (v, H2 ++ [some blk]) := by
  unfold aop at h ⊢
  split at h
  · cases h
  · rename_i hops
    simp only [if_neg hops]
    clear hops
    unfold aopIn at h ⊢
    obtain ⟨dst, op, type, pos, after, guard⟩ := o
    cases op <;> simp only [kindOf, reduceCtorEq] at hk <;> simp only at h ⊢
    case call c =>
      exfalso
      obtain ⟨callee, args, argTypes⟩ := c
      cases callee with
      | value f => simp at hk
      | invoke r m => simp at hk
      | builtin b => cases b <;> simp at hk
    case alloc e =>
      unfold aalloc at h ⊢
      split at h
      · simp only [Option.some.injEq, Prod.mk.injEq] at h
        obtain ⟨rfl, rfl⟩ := h
        exact ⟨_, rfl, fun H2 h2 => by rw [h2]⟩
      · cases h
    case box e x =>
      simp only [Option.some.injEq, Prod.mk.injEq] at h
      obtain ⟨rfl, rfl⟩ := h
      exact ⟨_, rfl, fun H2 h2 => by rw [h2]⟩
    case makeSlice T l c =>
      unfold amakeSlice at h ⊢
      split at h
      · split at h
        · split at h
          · rename_i hcond
            simp only [Option.some.injEq, Prod.mk.injEq] at h
            obtain ⟨rfl, rfl⟩ := h
            exact ⟨_, rfl, fun H2 h2 => by rw [if_pos hcond, h2]⟩
          · cases h
        · cases h
      · cases h
    case buildSlice T n ps =>
      unfold abuildSlice at h ⊢
      split at h
      · split at h
        · split at h
          · cases h
          · rename_i hlim
            split at h
            · rename_i cells hf
              simp only [Option.some.injEq, Prod.mk.injEq] at h
              obtain ⟨rfl, rfl⟩ := h
              exact ⟨_, rfl, fun H2 h2 => by rw [if_neg hlim, h2]⟩
            · cases h
        · cases h
      · cases h
end
end Go.Proofs.Ytdbdoagljioijaa.Vx
