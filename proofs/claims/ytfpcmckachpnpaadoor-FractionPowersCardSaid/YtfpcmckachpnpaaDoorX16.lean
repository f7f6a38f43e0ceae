/- The run over a memory with names of its own, with tests that are left open: a tree of ways. -/
import Derived.Test.YtfpcmckachpnpaaDoorXS
namespace Go.Proofs.YtfpcmckachpnpaaDoor.Vx
open Go Go.RowKit

inductive Tr (α : Type) where
  | leaf (a : Option α)
  | node (d : Nat) (b : Bool) (x y : Tr α)

def Tr.res {α : Type} : Tr α → Option α
  | .leaf a => a
  | .node _ b x y => if b then x.res else y.res
def Tr.bind {α β : Type} (x : Tr α) (f : α → Tr β) : Tr β :=
  match x with
  | .leaf none => .leaf none
  | .leaf (some a) => f a
  | .node d b x y => .node d b (x.bind f) (y.bind f)
theorem Tr.res_bind {α β : Type} (x : Tr α) (f : α → Tr β) : (x.bind f).res = x.res.bind fun a => (f a).res := by
  induction x with
  | leaf a => cases a <;> rfl
  | node d b x y ihx ihy => simp only [Tr.bind, Tr.res]; cases b <;> simp_all

/-- A number that is one of the first ones, each way of its own. -/
def splitN {β : Type} (d : Nat) (kd : IntKind) (n : Int) (f : Value → Tr β) : (len lo : Nat) → Tr β
  | 0, _ => .leaf none
  | len + 1, lo => .node d (n == (lo : Int)) (f (.int kd lo)) (splitN d kd n f len (lo + 1))

/-- A slot whose value is to be told apart: a bool, or a number below a bound. -/
def splitV {β : Type} (fl : List (Nat × Nat)) (dst : Option Tmp) (v : Value) (f : Value → Tr β) : Tr β :=
  match dst with
  | some d => match fl.find? (fun x => x.1 == d) with
    | some (_, len) => match v with
      | .bool b => .node d b (f (.bool true)) (f (.bool false))
      | .int kd n => if len = 0 then f v else splitN d kd n f len 0
      | _ => f v
    | none => f v
  | none => f v

theorem splitN_res {β : Type} {d : Nat} {kd : IntKind} {n : Int} {f : Value → Tr β} {r : β} : ∀ (len lo : Nat), (splitN d kd n f len lo).res = some r → (f (.int kd n)).res = some r := by
  intro len
  induction len with
  | zero => intro lo h; cases h
  | succ len ih =>
    intro lo h
    simp only [splitN, Tr.res] at h
    split at h
    · rename_i hb
      have : n = (lo : Int) := by simpa using hb
      subst this; exact h
    · exact ih (lo + 1) h
theorem splitV_res {β : Type} {fl : List (Nat × Nat)} {dst : Option Tmp} {v : Value} {f : Value → Tr β} {r : β} (h : (splitV fl dst v f).res = some r) : (f v).res = some r := by
  unfold splitV at h
  split at h
  · split at h
    · split at h
      · simp only [Tr.res] at h
        split at h
        · rename_i hb; subst hb; exact h
        · rename_i hb; rw [Bool.eq_false_iff.2 hb]; exact h
      · split at h
        · exact h
        · exact splitN_res _ _ h
      · exact h
    · exact h
  · exact h

def flagged (fl : List (Nat × Nat)) : Option Tmp → Bool
  | some d => (fl.find? (fun z => z.1 == d)).isSome
  | none => false

/-- A function that the model answers by itself; with a flag, its last argument is told apart. -/
def natT (P : Program) (fl : List (Nat × Nat)) (dst : Option Tmp) (g : FuncId) (args : Array Value) (H : AH) : Tr (Value × AH) :=
  match dst with
  | some d => match fl.find? (fun x => x.1 == d) with
    | some (_, len) => if len = 0 then .leaf ((anative P g args).map fun v => (v, H)) else match args.toList with
      | [a, b, .int k n] => splitN d k n (fun v => .leaf ((anative P g #[a, b, v]).map fun v => (v, H))) len 0
      | _ => .leaf ((anative P g args).map fun v => (v, H))
    | none => .leaf ((anative P g args).map fun v => (v, H))
  | none => .leaf ((anative P g args).map fun v => (v, H))
theorem natT_res {P : Program} {fl : List (Nat × Nat)} {dst : Option Tmp} {g : FuncId} {args : Array Value} {H : AH} {r : Value × AH} (h : (natT P fl dst g args H).res = some r) : (anative P g args).map (fun v => (v, H)) = some r := by
  unfold natT at h
  split at h
  · split at h
    · split at h
      · exact h
      · split at h
        · rename_i a b k n ha
          have := splitN_res _ _ h
          rw [show args = #[a, b, .int k n] by rw [← Array.toArray_toList (xs := args), ha]]
          exact this
        · exact h
    · exact h
  · exact h

/-- What a call answers, in ways. -/
structure CallT where
  t : FuncId → Array Value → AH → Tr (Value × AH)
  /-- What a call answers that only looks at memory, and the test under which it does. -/
  ro : FuncId → Array Value → AH → Option (Bool × Value)
instance : CoeFun CallT (fun _ => FuncId → Array Value → AH → Tr (Value × AH)) := ⟨CallT.t⟩
structure TOk (callT : CallT) (callf : CallF) : Prop where
  t : ∀ g args H r, (callT g args H).res = some r → callf g args H = some r
  ro : ∀ g args H v, callT.ro g args H = some (true, v) → callf g args H = some (v, H)

/-- Is an operation one whose memory or string is open? By the slot that it writes; a store by that of its address (3000000 + the slot). -/
def symF (fl : List (Nat × Nat)) (o : Oper) : Bool := match o.op with
  | .store _ (.tmp d) _ => fl.any fun z => z.1 == 3000000 + d
  | _ => match o.dst with
    | some d => fl.any fun z => z.1 == 3000000 + d
    | none => false
def symQ (P : Program) (fl : List (Nat × Nat)) (t : Array Value) (H : AH) (o : Oper) : Option (Bool × Value) := if symF fl o then sopQ P t H o else none
def symW (P : Program) (fl : List (Nat × Nat)) (t : Array Value) (H : AH) (o : Oper) : Option (Bool × Value × AH) := if symF fl o then sopW P t H o else none
theorem symQ_ok {P : Program} {callf : CallF} {fl : List (Nat × Nat)} {t : Array Value} {H : AH} {o : Oper} {v : Value} (h : symQ P fl t H o = some (true, v)) : aop P callf t H o = some (v, H) := by
  unfold symQ at h
  split at h
  · exact sopQ_ok h
  · cases h
theorem symW_ok {P : Program} {callf : CallF} {fl : List (Nat × Nat)} {t : Array Value} {H K : AH} {o : Oper} {v : Value} (h : symW P fl t H o = some (true, v, K)) : aop P callf t H o = some (v, K) := by
  unfold symW at h
  split at h
  · exact sopW_ok h
  · cases h

/-- An operation; a division by what may be nothing has two ways, a call those of what it calls. -/
def aopT0 (P : Program) (callf : CallF) (callT : CallT) (fl : List (Nat × Nat)) (t : Array Value) (H : AH) (o : Oper) : Tr (Value × AH) :=
  match o.op with
  | .binOp op _ x y _ =>
    if flagged fl o.dst && okT t x && okT t y then
      match op, aev t x, aev t y with
      | .quo, .int k a, .int k' b => if k = k' then .node (o.dst.getD 0) (b == 0) (.leaf none) (.leaf (some (.int k (k.wrap (a.tdiv b)), H))) else .leaf none
      | .rem, .int k a, .int k' b => if k = k' then .node (o.dst.getD 0) (b == 0) (.leaf none) (.leaf (some (.int k (a.tmod b), H))) else .leaf none
      | _, _, _ => .leaf (aop P callf t H o)
    else .leaf (aop P callf t H o)
  | .call c => match c.callee with
    | .value f => match aev t f with
      | .func (.func g) first cap =>
        if o.op.operands.toList.all (okT t) = false then .leaf none else
        match P.funcs[g]? with
        | some fn =>
          if fn.name == "runtime.NumGoroutine" then .leaf none
          else if fn.body.isNone then natT P fl o.dst g (first ++ c.args.map (aev t) ++ cap) H
          else if 1000000 ≤ g then .leaf none
          else match callf (g + 1000000) ((first ++ c.args.map (aev t) ++ cap).map (renV (canTo (canIds H (first ++ c.args.map (aev t) ++ cap))) 4)) (canH (canIds H (first ++ c.args.map (aev t) ++ cap)) H) with
          | some (r, K) => .leaf (some (renV (canFrom (canIds H (first ++ c.args.map (aev t) ++ cap)) H.length) 4 r, H ++ (K.drop (canIds H (first ++ c.args.map (aev t) ++ cap)).length).map (Option.map (renB (canFrom (canIds H (first ++ c.args.map (aev t) ++ cap)) H.length)))))
          | none => if (first ++ c.args.map (aev t) ++ cap).toList.all flat then
            (callT g (first ++ c.args.map (aev t) ++ cap) []).bind fun x => if flat x.1 then .leaf (some (x.1, H)) else callT g (first ++ c.args.map (aev t) ++ cap) H
          else callT g (first ++ c.args.map (aev t) ++ cap) H
        | none => .leaf none
      | _ => .leaf (aop P callf t H o)
    | _ => .leaf (aop P callf t H o)
  | _ => .leaf (aop P callf t H o)

section
variable {P : Program} {callf : CallF} {callT : CallT}

theorem aopT0_res (hT : TOk callT callf) {fl : List (Nat × Nat)} {t : Array Value} {H : AH} {o : Oper} {r : Value × AH} (h : (aopT0 P callf callT fl t H o).res = some r) : aop P callf t H o = some r := by
  unfold aopT0 at h
  split at h
  · rename_i op T x y T2 ho
    split at h
    · rename_i hc
      simp only [Bool.and_eq_true] at hc
      have hall : ¬ (o.op.operands.toList.all (okT t) = false) := by simp [ho, Op.operands, hc.1.2, hc.2]
      have base : ∀ (k : IntKind) (a b : Int) (v : Value), flat v = true → aev t x = .int k a → aev t y = .int k b → pureRun P (Op.intDiv op k a b) = some v → (op = .quo ∨ op = .rem) → aop P callf t H o = some (v, H) := by
        intro k a b v hfl hx hy hv hop
        unfold aop
        rw [if_neg hall]
        unfold aopIn
        rw [ho]
        simp only
        have hnd : nilDiff (P.underlying T) (aev t x) (aev t y) = false := by rw [hx, hy]; unfold nilDiff; split <;> first | rfl | simp_all
        rw [if_neg (by rw [hnd]; simp), hx, hy]
        have hb : pureRun P (binOp op T (.int k a) (.int k b)) = some v := by
          rcases hop with rfl | rfl
          · rw [binOp_quo]; exact hv
          · rw [binOp_rem]; exact hv
        have hg : eqGuard op T x y (.int k a) (.int k b) = pure () := eqGuard_at_int ..
        have hfin : aflat P t H o = some (v, H) := by
          unfold aflat
          have hfx : o.op.operands.toList.all (fun x => flat (aev t x)) = true := by simp [ho, Op.operands, hx, hy]; exact ⟨rfl, rfl⟩
          rw [if_pos hfx]
          have : pureRun P (execOp (aev t) o) = some (.value v) := by
            simp only [execOp, ho, hx, hy, hg, pureRun_bind, pureRun_pure, Option.bind_some, hb]
          rw [this]
          simp only [hfl, if_true]
        rcases hop with rfl | rfl <;> exact hfin
      split at h
      · rename_i k a k' b hx hy
        split at h
        · rename_i hk
          subst hk
          simp only [Tr.res] at h
          split at h
          · cases h
          · rename_i hb
            simp only [Option.some.injEq] at h
            subst h
            exact base k a b _ rfl hx hy (by unfold Op.intDiv; rw [if_neg (by simpa using hb)]; rfl) (.inl rfl)
        · cases h
      · rename_i k a k' b hx hy
        split at h
        · rename_i hk
          subst hk
          simp only [Tr.res] at h
          split at h
          · cases h
          · rename_i hb
            simp only [Option.some.injEq] at h
            subst h
            exact base k a b _ rfl hx hy (by unfold Op.intDiv; rw [if_neg (by simpa using hb)]; rfl) (.inr rfl)
        · cases h
      · exact h
    · exact h
  · rename_i c ho
    split at h
    · rename_i f hce
      split at h
      · rename_i g first cap hfe
        split at h
        · cases h
        · rename_i hall
          have goal : ∀ r, acall P callf g (first ++ c.args.map (aev t) ++ cap) H = some r → aop P callf t H o = some r := by
            intro r hr
            unfold aop
            rw [if_neg hall]
            unfold aopIn
            rw [ho]
            simp only [hce, hfe]
            exact hr
          refine goal r ?_
          unfold acall
          split at h
          · rename_i fn hfn
            rw [hfn]
            simp only
            split at h
            · cases h
            · rename_i hnb
              rw [if_neg hnb]
              split at h
              · rename_i hbo; rw [if_pos hbo]; exact natT_res h
              rename_i hbo
              rw [if_neg hbo]
              split at h
              · cases h
              rename_i hg
              rw [if_neg hg]
              split at h
              · rename_i r0 K0 hq; rw [hq]; exact h
              rename_i hq0
              rw [hq0]
              simp only
              split at h
              · rename_i hfl
                rw [if_pos hfl]
                rw [Tr.res_bind] at h
                cases hq : (callT g (first ++ c.args.map (aev t) ++ cap) []).res with
                | none => rw [hq] at h; cases h
                | some x =>
                  rw [hq] at h
                  simp only [Option.bind_some] at h
                  rw [hT.t _ _ _ _ hq]
                  simp only
                  split at h
                  · rename_i hfv
                    rw [if_pos hfv]
                    simpa [Tr.res] using h
                  · rename_i hfv
                    rw [if_neg hfv]
                    exact hT.t _ _ _ _ h
              · rename_i hfl
                rw [if_neg hfl]
                exact hT.t _ _ _ _ h
          · cases h
      · exact h
    · exact h
  · exact h
/-- An operation; where memory or a string is open, under a test. -/
def aopT (P : Program) (callf : CallF) (callT : CallT) (fl : List (Nat × Nat)) (t : Array Value) (H : AH) (o : Oper) : Tr (Value × AH) :=
  match symQ P fl t H o with
  | some (b, v) => .node (o.dst.getD 0) b (.leaf (some (v, H))) (.leaf none)
  | none => match symW P fl t H o with
    | some (b, v, K) => .node (o.dst.getD 0) b (.leaf (some (v, K))) (.leaf none)
    | none => aopT0 P callf callT fl t H o
theorem aopT_res (hT : TOk callT callf) {fl : List (Nat × Nat)} {t : Array Value} {H : AH} {o : Oper} {r : Value × AH} (h : (aopT P callf callT fl t H o).res = some r) : aop P callf t H o = some r := by
  unfold aopT at h
  split at h
  · rename_i b v hq
    simp only [Tr.res] at h
    split at h
    · rename_i hb
      subst hb
      simp only [Option.some.injEq] at h
      subst h
      exact symQ_ok hq
    · cases h
  · split at h
    · rename_i b v K hq
      simp only [Tr.res] at h
      split at h
      · rename_i hb
        subst hb
        simp only [Option.some.injEq] at h
        subst h
        exact symW_ok hq
      · cases h
    · exact aopT0_res hT h
end

def aopsT (P : Program) (callf : CallF) (callT : CallT) (fl : List (Nat × Nat)) (ops : Array Oper) : List Nat → Array Value → AH → Tr (Array Value × AH)
  | [], t, H => .leaf (some (t, H))
  | i :: r, t, H =>
    match ops[i]? with
    | none => aopsT P callf callT fl ops r t H
    | some o =>
      if blind ops t o then .leaf none else
      if Region.wanted o (yielded ops t) then
        (aopT P callf callT fl t H o).bind fun x => splitV fl o.dst x.1 fun v => aopsT P callf callT fl ops r (aput t o.dst v) x.2
      else aopsT P callf callT fl ops r (aput t o.dst undef) H

def pre1T (P : Program) (callf : CallF) (callT : CallT) (fl : List (Nat × Nat)) (mode L0 : Nat) (ops : Array Oper) (i : Nat) (t : Array Value) (H : AH) : Tr (Array Value × AH × Foot) :=
  match ops[i]? with
  | none => .leaf none
  | some o =>
    if blind ops t o then .leaf none else
    if Region.wanted o (yielded ops t) then
      match kindOf o.op with
      | .barrier => .leaf none
      | .call => (aopT P callf callT fl t (seen (footOf mode L0 t H o) H) o).bind fun x => splitV fl o.dst x.1 fun v =>
          .leaf (some (aput t o.dst v, mergeH (footOf mode L0 t H o).sets H x.2, footOf mode L0 t H o))
      | .make | .write => (aopT P callf callT fl t H o).bind fun x => splitV fl o.dst x.1 fun v => .leaf (some (aput t o.dst v, x.2, footOf mode L0 t H o))
      | _ => (aopT P callf callT fl t H o).bind fun x => splitV fl o.dst x.1 fun v => .leaf (some (aput t o.dst v, H, footOf mode L0 t H o))
    else .leaf (some (aput t o.dst undef, H, ⟨false, [], []⟩))

def apreT (P : Program) (callf : CallF) (callT : CallT) (fl : List (Nat × Nat)) (mode L0 : Nat) (ops : Array Oper) : List Nat → Array Value → AH → Tr (Array Value × AH × List Foot)
  | [], t, H => .leaf (some (t, H, []))
  | i :: r, t, H => (pre1T P callf callT fl mode L0 ops i t H).bind fun x => (apreT P callf callT fl mode L0 ops r x.1 x.2.1).bind fun y => .leaf (some (pushF x.2.2 y))

/-- How the calls of a region are given memory: as the flags say (at 1000000 + the region's number), or, where nothing is written beside them, all of it to look at. -/
def modeOf (fl : List (Nat × Nat)) (id : Nat) (ops : Array Oper) : Nat :=
  match fl.find? (fun z => z.1 == 1000000 + id) with
  | some (_, n) => min n 2
  | none => if ops.toList.any (fun o => kindOf o.op == .write && !(match o.op with | .convert .. => true | _ => false)) then 1 else 0

def adrawT (P : Program) (callf : CallF) (callT : CallT) (fl : List (Nat × Nat)) (id : Nat) (ops : Array Oper) (t : Array Value) (H : AH) : Tr (Array Value × AH) :=
  let l := ops.toList
  let bs := befores l []
  let m := cutAt bs l.length
  if textual l && preOk l bs ops m then
    (apreT P callf callT fl (modeOf fl id ops) H.length ops (List.range m) t H).bind fun x => if footsOk x.2.2 bs m then aopsT P callf callT fl ops ((List.range (l.length - m)).map (· + m)) x.1 x.2.1 else .leaf none
  else .leaf none

/-! Regions whose guarded operations are gone through whatever their tests say: what stands behind a test that is open is put aside, and a choice makes one value of two. -/
section
variable {P : Program} {callf : CallF} {callT : CallT} {H K : AH}

theorem all_congr {α : Type} {l : List α} {f g : α → Bool} (h : ∀ x ∈ l, f x = g x) : l.all f = l.all g := by
  induction l with
  | nil => rfl
  | cons x l ih => simp only [List.all_cons]; rw [h x (by simp), ih fun y hy => h y (by simp [hy])]
theorem okT_congr {t t' : Array Value} {x : Operand} (h : aev t x = aev t' x) : okT t x = okT t' x := by unfold okT; rw [h]
theorem aflat_congr {t t' : Array Value} {o : Oper} (hs : ∀ cs b, o.op ≠ .select cs b) (h : ∀ x ∈ o.op.operands.toList, aev t x = aev t' x) : aflat P t H o = aflat P t' H o := by
  unfold aflat
  rw [all_congr (fun x hx => by rw [h x hx]), execOp_congr o hs (fun x hx => h x (by simpa using hx))]
theorem apass_congr {t t' : Array Value} {o : Oper} (hs : ∀ cs b, o.op ≠ .select cs b) (h : ∀ x ∈ o.op.operands.toList, aev t x = aev t' x) : apass P t H o = apass P t' H o := by
  unfold apass
  rw [execOp_congr o hs (fun x hx => h x (by simpa using hx))]
theorem map_congr' {t t' : Array Value} {xs : Array Operand} (h : ∀ x ∈ xs.toList, aev t x = aev t' x) : xs.map (aev t) = xs.map (aev t') :=
  Array.map_congr_left fun x hx => h x (by simpa using hx)
theorem aopIn_congr {t t' : Array Value} {o : Oper} (h : ∀ x ∈ o.op.operands.toList, aev t x = aev t' x) : aopIn P callf t H o = aopIn P callf t' H o := by
  obtain ⟨dst, op, type, pos, after, guard⟩ := o
  cases op
  case call c =>
    obtain ⟨callee, args, argTypes⟩ := c
    have ha : ∀ x ∈ args.toList, aev t x = aev t' x := fun x hx => h x (by simp [Op.operands, Call.operands]; right; simpa using hx)
    cases callee with
    | value f =>
      have hf : aev t f = aev t' f := h f (by simp [Op.operands, Call.operands])
      unfold aopIn
      simp only [hf, map_congr' ha]
    | invoke r m => rfl
    | builtin b =>
      have hfl : aflat P t H ⟨dst, .call ⟨.builtin b, args, argTypes⟩, type, pos, after, guard⟩ = aflat P t' H ⟨dst, .call ⟨.builtin b, args, argTypes⟩, type, pos, after, guard⟩ := aflat_congr (by simp) h
      unfold aopIn
      cases b <;> simp only [hfl]
      case append =>
        generalize hl : args.toList = l at *
        split <;> first | rfl | (rw [ha _ (by simp), ha _ (by simp)])
      case copy =>
        generalize hl : args.toList = l at *
        split <;> first | rfl | (rw [ha _ (by simp), ha _ (by simp)])
      case len =>
        generalize hl : args.toList = l at *
        split <;> first | rfl | (rw [ha _ (by simp)])
  case slice T x lo hi mx =>
    have hx : aev t x = aev t' x := h x (by simp [Op.operands])
    have hlo : lo.map (aev t) = lo.map (aev t') := by cases lo with
      | none => rfl
      | some y => simp only [Option.map_some]; rw [h y (by simp [Op.operands])]
    have hhi : hi.map (aev t) = hi.map (aev t') := by cases hi with
      | none => rfl
      | some y => simp only [Option.map_some]; rw [h y (by simp [Op.operands])]
    have hfl : aflat P t H ⟨dst, .slice T x lo hi mx, type, pos, after, guard⟩ = aflat P t' H ⟨dst, .slice T x lo hi mx, type, pos, after, guard⟩ := aflat_congr (by simp) h
    unfold aopIn
    simp only [hfl, hx, hlo, hhi]
  case buildSlice T n ps =>
    have hp : (ps.toList.map fun (i, x) => (i, aev t x)) = (ps.toList.map fun (i, x) => (i, aev t' x)) := List.map_congr_left fun p hp => by
      obtain ⟨i, x⟩ := p
      simp only
      rw [h x (by simp only [Op.operands, List.mem_map]; exact ⟨(i, x), hp, rfl⟩)]
    unfold aopIn
    simp only [hp]
  case build T ps =>
    have hfl : apass P t H ⟨dst, .build T ps, type, pos, after, guard⟩ = apass P t' H ⟨dst, .build T ps, type, pos, after, guard⟩ := apass_congr (by simp) h
    unfold aopIn
    simp only [hfl]
  case makeFunc f a b =>
    exact apass_congr (P := P) (by simp) h
  case extract x i => exact apass_congr (by simp) h
  case field T x i => exact apass_congr (by simp) h
  case unOp a b x => exact aflat_congr (by simp) h
  case index T x i => exact aflat_congr (by simp) h
  case convert s d x =>
    have hfl : aflat P t H ⟨dst, .convert s d x, type, pos, after, guard⟩ = aflat P t' H ⟨dst, .convert s d x, type, pos, after, guard⟩ := aflat_congr (by simp) h
    have hx : aev t x = aev t' x := h x (by simp [Op.operands])
    unfold aopIn
    simp only [hfl, hx]
  case binOp op T x y T2 =>
    have hfl : aflat P t H ⟨dst, .binOp op T x y T2, type, pos, after, guard⟩ = aflat P t' H ⟨dst, .binOp op T x y T2, type, pos, after, guard⟩ := aflat_congr (by simp) h
    have hx : aev t x = aev t' x := h x (by simp [Op.operands])
    have hy : aev t y = aev t' y := h y (by simp [Op.operands])
    unfold aopIn
    simp only [hfl, hx, hy]
  case pick c x y =>
    have hc : aev t c = aev t' c := h c (by simp [Op.operands])
    have hx : aev t x = aev t' x := h x (by simp [Op.operands])
    have hy : aev t y = aev t' y := h y (by simp [Op.operands])
    unfold aopIn
    simp only [hc, hx, hy]
  case store T x y =>
    have hx : aev t x = aev t' x := h x (by simp [Op.operands])
    have hy : aev t y = aev t' y := h y (by simp [Op.operands])
    unfold aopIn
    simp only [hx, hy]
  case indexAddr T x y =>
    have hx : aev t x = aev t' x := h x (by simp [Op.operands])
    have hy : aev t y = aev t' y := h y (by simp [Op.operands])
    unfold aopIn
    simp only [hx, hy]
  case makeSlice T x y =>
    have hx : aev t x = aev t' x := h x (by simp [Op.operands])
    have hy : aev t y = aev t' y := h y (by simp [Op.operands])
    unfold aopIn
    simp only [hx, hy]
  case move x => unfold aopIn; simp only [h x (by simp [Op.operands])]
  case assign x => unfold aopIn; simp only [h x (by simp [Op.operands])]
  case box T x => unfold aopIn; simp only [h x (by simp [Op.operands])]
  case load T x => unfold aopIn; simp only [h x (by simp [Op.operands])]
  case nilCheck x => unfold aopIn; simp only [h x (by simp [Op.operands])]
  case fieldAddr T x f => unfold aopIn; simp only [h x (by simp [Op.operands])]
  all_goals rfl
theorem aop_congr {t t' : Array Value} {o : Oper} (h : ∀ x ∈ o.op.operands.toList, aev t x = aev t' x) : aop P callf t H o = aop P callf t' H o := by
  unfold aop
  rw [all_congr (fun x hx => okT_congr (h x hx)), aopIn_congr h]
end

/-- The tests under which a slot has been written. -/
abbrev Cond := List (Tmp × Bool)
def holds (t : Array Value) : Cond → Bool
  | [] => true
  | (g, b) :: l => (match t.getD g undef with | .bool p => p == b | _ => false) && holds t l
/-- The tests, in plain words. -/
def gv (t : Array Value) (g : Tmp) (b : Bool) : Bool := match t.getD g undef with
  | .bool p => bif b then p else !p
  | _ => false
def gB (t : Array Value) : Cond → Bool
  | [] => true
  | [(g, b)] => gv t g b
  | (g, b) :: x :: c => gv t g b && gB t (x :: c)
theorem gB_eq (t : Array Value) : ∀ (c : Cond), gB t c = holds t c := by
  intro c
  induction c with
  | nil => rfl
  | cons x c ih =>
    obtain ⟨g, b⟩ := x
    have hv : gv t g b = (match t.getD g undef with | .bool p => p == b | _ => false) := by
      unfold gv
      generalize t.getD g undef = u
      cases u <;> first | rfl | (rename_i p; cases b <;> cases p <;> rfl)
    cases c with
    | nil => simp only [gB, holds, Bool.and_true]; exact hv
    | cons y c => simp only [gB] at ih ⊢; rw [ih, hv]; rfl

abbrev Conds := List (Tmp × Cond)
def condOf : Conds → Tmp → Cond
  | [], _ => []
  | (d, c) :: l, s => if s = d then c else condOf l s
def inC (a b : Cond) : Bool := a.all fun x => b.any fun y => y.1 == x.1 && y.2 == x.2
def opIn (cs : Conds) (g : Cond) : Operand → Bool
  | .tmp s => inC (condOf cs s) g
  | _ => true
/-- The slots as they are. -/
def fin (t : Array Value) (cs : Conds) : Array Value := (t.toList.zipIdx.map fun x => match condOf cs x.2 with
  | [] => x.1
  | c => bif gB t c then x.1 else undef).toArray
theorem fin_size (t : Array Value) (cs : Conds) : (fin t cs).size = t.size := by unfold fin; simp
theorem fin_get (t : Array Value) (cs : Conds) (s : Tmp) : (fin t cs)[s]? = if holds t (condOf cs s) then t[s]? else (t[s]?).map fun _ => undef := by
  rw [← gB_eq]
  unfold fin
  simp only [List.getElem?_toArray, List.getElem?_map, List.getElem?_zipIdx, Array.getElem?_toList, Nat.zero_add]
  cases hs : t[s]? with
  | none => simp
  | some v =>
    simp only [Option.map_some]
    cases hc : condOf cs s with
    | nil => simp [gB]
    | cons a l =>
      simp only
      cases gB t (a :: l) <;> rfl
theorem holds_in {t : Array Value} {a b : Cond} (h : inC a b = true) (hb : holds t b = true) : holds t a = true := by
  have one : ∀ {b : Cond} {x : Tmp × Bool}, holds t b = true → x ∈ b → (match t.getD x.1 undef with | .bool p => p == x.2 | _ => false) = true := by
    intro b
    induction b with
    | nil => intro x _ hx; cases hx
    | cons y b ih =>
      intro x hb hx
      obtain ⟨g, v⟩ := y
      simp only [holds, Bool.and_eq_true] at hb
      rcases List.mem_cons.1 hx with rfl | hx
      · exact hb.1
      · exact ih hb.2 hx
  induction a with
  | nil => rfl
  | cons x a ih =>
    obtain ⟨g, v⟩ := x
    simp only [inC, List.all_cons, Bool.and_eq_true, List.any_eq_true] at h
    obtain ⟨⟨y, hy, h1⟩, h2⟩ := h
    simp only [holds, Bool.and_eq_true]
    refine ⟨?_, ih (by simpa [inC] using h2)⟩
    simp only [beq_iff_eq] at h1
    have := one hb hy
    rw [h1.1, h1.2] at this
    exact this
theorem fin_aev {t : Array Value} {cs : Conds} {g : Cond} {x : Operand} (h : opIn cs g x = true) (hg : holds t g = true) : aev (fin t cs) x = aev t x := by
  cases x with
  | tmp s =>
    have := fin_get t cs s
    rw [if_pos (holds_in h hg)] at this
    simp only [aev, Array.getD_eq_getD_getElem?, this]
  | _ => rfl
/-- No test looks at a slot. -/
def freeC (d : Tmp) (c : Cond) : Bool := c.all fun x => x.1 != d
def freeCs (d : Tmp) (cs : Conds) : Bool := cs.all fun x => freeC d x.2
theorem holds_set {t : Array Value} {d : Tmp} {v : Value} {c : Cond} (h : freeC d c = true) : holds (t.setIfInBounds d v) c = holds t c := by
  induction c with
  | nil => rfl
  | cons x c ih =>
    obtain ⟨g, b⟩ := x
    simp only [freeC, List.all_cons, Bool.and_eq_true, bne_iff_ne, ne_eq] at h
    unfold holds
    rw [ih (by simpa [freeC] using h.2)]
    have : (t.setIfInBounds d v).getD g undef = t.getD g undef := by
      simp only [Array.getD_eq_getD_getElem?]
      rw [Array.getElem?_setIfInBounds_ne (fun e => h.1 e.symm)]
    rw [this]
theorem free_of {d : Tmp} : ∀ {cs : Conds} (_ : freeCs d cs = true) (s : Tmp), freeC d (condOf cs s) = true := by
  intro cs
  induction cs with
  | nil => intro _ s; rfl
  | cons x cs ih =>
    intro h s
    obtain ⟨e, c⟩ := x
    simp only [freeCs, List.all_cons, Bool.and_eq_true] at h
    unfold condOf
    split
    · exact h.1
    · exact ih (by simpa [freeCs] using h.2) s
/-- A slot is written under some tests. -/
theorem fin_put {t : Array Value} {cs : Conds} {g : Cond} {d : Tmp} {v : Value} (h1 : freeC d g = true) (h2 : freeCs d cs = true) :
    fin (t.setIfInBounds d v) ((d, g) :: cs) = (fin t cs).setIfInBounds d (if holds t g then v else undef) := by
  refine Array.ext_getElem? fun s => ?_
  rw [fin_get]
  unfold condOf
  by_cases hs : s = d
  · subst hs
    rw [if_pos rfl, holds_set h1]
    by_cases hb : s < t.size
    · rw [Array.getElem?_setIfInBounds_self_of_lt hb, Array.getElem?_setIfInBounds_self_of_lt (by rw [fin_size]; exact hb)]
      split <;> rfl
    · rw [Array.getElem?_eq_none (by simp; omega), Array.getElem?_eq_none (by simp [fin_size]; omega)]
      split <;> rfl
  · rw [if_neg hs, holds_set (free_of h2 s), Array.getElem?_setIfInBounds_ne (fun e => hs e.symm), Array.getElem?_setIfInBounds_ne (fun e => hs e.symm), fin_get]

/-- One value of two. -/
def joinV (p : Bool) : Value → Value → Option Value
  | .bool x, .bool y => some (.bool (bif p then x else y))
  | .int k x, .int k' y => if k = k' then some (.int k (bif p then x else y)) else none
  | _, _ => none
theorem joinV_eq {p : Bool} {u w v : Value} (h : joinV p u w = some v) : v = if p then u else w := by
  unfold joinV at h
  split at h
  · simp only [Option.some.injEq] at h; subst h; cases p <;> rfl
  · split at h
    · rename_i hk; subst hk; simp only [Option.some.injEq] at h; subst h; cases p <;> rfl
    · cases h
  · cases h

/-- The tests of an operation. -/
def gcond (ops : Array Oper) (t : Array Value) (cs : Conds) (o : Oper) : Option Cond :=
  match o.guard with
  | none => some []
  | some (j, want) => match (ops[j]?).bind (·.dst) with
    | some g => match t[g]? with
      | some (.bool _) => some ((g, want) :: condOf cs g)
      | _ => none
    | none => none
theorem gcond_ok {ops : Array Oper} {t : Array Value} {cs : Conds} {o : Oper} {g : Cond} (h : gcond ops t cs o = some g) : blind ops (fin t cs) o = false ∧ Region.wanted o (yielded ops (fin t cs)) = holds t g := by
  unfold gcond at h
  unfold blind Region.wanted
  cases hg : o.guard with
  | none => rw [hg] at h; simp only [Option.some.injEq] at h; subst h; exact ⟨rfl, rfl⟩
  | some x =>
    obtain ⟨j, want⟩ := x
    rw [hg] at h
    simp only at h ⊢
    cases hd : (ops[j]?).bind (·.dst) with
    | none => rw [hd] at h; cases h
    | some s =>
      rw [hd] at h
      simp only at h
      split at h
      · rename_i p hp
        simp only [Option.some.injEq] at h
        subst h
        have hf := fin_get t cs s
        rw [hp] at hf
        have hgd : t.getD s undef = .bool p := by rw [Array.getD_eq_getD_getElem?, hp]; rfl
        unfold yielded holds
        simp only [hd, Option.bind_some, hf, hgd, Option.map_some]
        cases holds t (condOf cs s)
        · simp [isLost, undef]
        · simp; cases p <;> cases want <;> rfl
      · cases h

/-- What an operation gives that looks at memory alone. -/
def jval (P : Program) (callf : CallF) (H : AH) (t : Array Value) (cs : Conds) (g : Cond) (o : Oper) : Option Value :=
  match o.op with
  | .pick (.tmp c) a b =>
    if opIn cs g (.tmp c) && opIn cs ((c, true) :: g) a && opIn cs ((c, false) :: g) b && okT t (.tmp c) && okT t a && okT t b then
      match t.getD c undef with
      | .bool p => joinV p (aev t a) (aev t b)
      | _ => none
    else none
  | _ => if o.op.operands.toList.all (opIn cs g) then (match aop P callf t H o with
    | some (v, _) => some v
    | none => none) else none
def quietK (op : Op) : Bool := match kindOf op with
  | .calm | .look => true
  | _ => false
section
variable {P : Program} {callf : CallF} {callT : CallT} {H : AH}
theorem quiet_mem {t : Array Value} {o : Oper} {v : Value} {K : AH} (hq : quietK o.op = true) (h : aop P callf t H o = some (v, K)) : K = H := by
  unfold quietK at hq
  split at hq
  · rename_i hk; exact (calm_any hk h).1
  · rename_i hk; exact (look_any hk h).1
  · cases hq
theorem jval_ok {t : Array Value} {cs : Conds} {g : Cond} {o : Oper} {v : Value} (hq : quietK o.op = true) (h : jval P callf H t cs g o = some v) (hg : holds t g = true) : aop P callf (fin t cs) H o = some (v, H) := by
  have plain : ∀ v, (if o.op.operands.toList.all (opIn cs g) then (match aop P callf t H o with | some (v, _) => some v | none => none) else none) = some v → aop P callf (fin t cs) H o = some (v, H) := by
    intro v h
    split at h
    · rename_i hall
      rw [aop_congr (t' := t) fun x hx => fin_aev (List.all_eq_true.1 hall x hx) hg]
      split at h
      · rename_i u K hu
        simp only [Option.some.injEq] at h
        subst h
        rw [hu, quiet_mem hq hu]
      · cases h
    · cases h
  unfold jval at h
  split at h
  · rename_i c a b ho
    split at h
    · rename_i hc
      simp only [Bool.and_eq_true] at hc
      obtain ⟨⟨⟨⟨⟨h1, h2⟩, h3⟩, h4⟩, h5⟩, h6⟩ := hc
      split at h
      · rename_i p hp
        have hv := joinV_eq h
        have hcv : aev (fin t cs) (.tmp c) = .bool p := by rw [fin_aev h1 hg]; exact hp
        have holdp : holds t ((c, p) :: g) = true := by simp [holds, hp, hg]
        have okc : okT (fin t cs) (.tmp c) = true := by rw [okT_congr (fin_aev h1 hg)]; exact h4
        have okU : ∀ x, okT t x = true → (aev (fin t cs) x = aev t x ∨ aev (fin t cs) x = undef ∨ aev (fin t cs) x = aev t x) → okT (fin t cs) x = true := by
          intro x hx hor
          rcases hor with e | e | e
          · rw [okT_congr e]; exact hx
          · unfold okT at hx ⊢
            simp only [Bool.and_eq_true] at hx ⊢
            exact ⟨hx.1, by rw [e]; rfl⟩
          · rw [okT_congr e]; exact hx
        have some1 : ∀ x, aev (fin t cs) x = aev t x ∨ aev (fin t cs) x = undef ∨ aev (fin t cs) x = aev t x := by
          intro x
          cases x with
          | tmp s =>
            have := fin_get t cs s
            simp only [aev, Array.getD_eq_getD_getElem?, this]
            split
            · exact .inl rfl
            · cases t[s]? with
              | none => exact .inl rfl
              | some u => exact .inr (.inl rfl)
          | _ => exact .inl rfl
        unfold aop
        rw [if_neg (by rw [ho]; simp [Op.operands, okc, okU a h5 (some1 a), okU b h6 (some1 b)])]
        unfold aopIn
        rw [ho]
        simp only [hcv]
        cases p with
        | true => simp only [if_true] at hv; rw [hv, fin_aev h2 holdp]
        | false => simp only [Bool.false_eq_true, if_false] at hv; rw [hv, fin_aev h3 holdp]
      · cases h
    · cases h
  · exact plain v h
end

/-- What a call answers that is given no address and answers none, in one way. -/
def jcall (P : Program) (callf : CallF) (callT : CallT) (H : AH) (t : Array Value) (o : Oper) : Option Value :=
  match o.op with
  | .call c => match c.callee with
    | .value f => match aev t f with
      | .func (.func g) first cap =>
        if o.op.operands.toList.all (okT t) = false then none else
        match P.funcs[g]? with
        | some fn =>
          if fn.name == "runtime.NumGoroutine" then none
          else if fn.body.isNone then none
          else if 1000000 ≤ g then none
          else match callf (g + 1000000) ((first ++ c.args.map (aev t) ++ cap).map (renV (canTo (canIds H (first ++ c.args.map (aev t) ++ cap))) 4)) (canH (canIds H (first ++ c.args.map (aev t) ++ cap)) H) with
          | some _ => none
          | none => if (first ++ c.args.map (aev t) ++ cap).toList.all flat then
              (match callT g (first ++ c.args.map (aev t) ++ cap) [] with
              | .leaf (some (v, _)) => if flat v then some v else none
              | _ => none)
            else none
        | none => none
      | _ => none
    | _ => none
  | _ => none
theorem jcall_ok {P : Program} {callf : CallF} {callT : CallT} {H : AH} (hT : TOk callT callf) {t : Array Value} {o : Oper} {v : Value} (h : jcall P callf callT H t o = some v) : aop P callf t H o = some (v, H) := by
  refine aopT0_res hT (fl := []) ?_
  unfold jcall at h
  unfold aopT0
  split at h
  · rename_i c ho
    rw [ho]
    simp only at h ⊢
    split at h
    · rename_i f hf
      try rw [hf]
      try simp only at h ⊢
      split at h
      · rename_i g first cap hv
        try rw [hv]
        try simp only
        try rw [ho] at h
        try rw [ho]
        split at h
        · cases h
        · rename_i hall
          try rw [if_neg hall]
          split at h
          · rename_i fn hfn
            try rw [hfn]
            try simp only
            split at h
            · cases h
            · rename_i h1
              try rw [if_neg h1]
              split at h
              · cases h
              · rename_i h2
                try rw [if_neg h2]
                split at h
                · cases h
                · rename_i h3
                  try rw [if_neg h3]
                  split at h
                  · cases h
                  · rename_i h4
                    try rw [h4]
                    try simp only
                    split at h
                    · rename_i h5
                      try rw [if_pos h5]
                      split at h
                      · rename_i u K h6
                        try rw [h6]
                        split at h
                        · rename_i h7
                          injection h with h; subst h
                          simp only [Tr.bind, h7, if_true, Tr.res]
                        · cases h
                      · cases h
                    · cases h
          · cases h
      · cases h
    · cases h
  · cases h

/-- What a call answers that only looks at memory. -/
def jroc (P : Program) (callf : CallF) (callT : CallT) (H : AH) (t : Array Value) (o : Oper) : Option (Bool × Value) :=
  match o.op with
  | .call c => match c.callee with
    | .value f => match aev t f with
      | .func (.func g) first cap =>
        if o.op.operands.toList.all (okT t) = false then none else
        match P.funcs[g]? with
        | some fn =>
          if fn.name == "runtime.NumGoroutine" then none
          else if fn.body.isNone then none
          else if 1000000 ≤ g then none
          else match callf (g + 1000000) ((first ++ c.args.map (aev t) ++ cap).map (renV (canTo (canIds H (first ++ c.args.map (aev t) ++ cap))) 4)) (canH (canIds H (first ++ c.args.map (aev t) ++ cap)) H) with
          | some _ => none
          | none => if (first ++ c.args.map (aev t) ++ cap).toList.all flat then
              (match callT.ro g (first ++ c.args.map (aev t) ++ cap) [] with
              | some (b, v) => if flat v then some (b, v) else none
              | none => none)
            else callT.ro g (first ++ c.args.map (aev t) ++ cap) H
        | none => none
      | _ => none
    | _ => none
  | _ => none
theorem jroc_ok {P : Program} {callf : CallF} {callT : CallT} {H : AH} (hT : TOk callT callf) {t : Array Value} {o : Oper} {v : Value} (h : jroc P callf callT H t o = some (true, v)) : aop P callf t H o = some (v, H) := by
  unfold jroc at h
  split at h
  · rename_i c ho
    split at h
    · rename_i f hce
      split at h
      · rename_i g first cap hfe
        split at h
        · cases h
        · rename_i hall
          unfold aop
          rw [if_neg hall]
          unfold aopIn
          rw [ho]
          simp only [hce, hfe]
          unfold acall
          split at h
          · rename_i fn hfn
            rw [hfn]
            simp only
            split at h
            · cases h
            · rename_i h1
              rw [if_neg h1]
              split at h
              · cases h
              · rename_i h2
                rw [if_neg h2]
                split at h
                · cases h
                · rename_i h3
                  rw [if_neg h3]
                  split at h
                  · cases h
                  · rename_i h4
                    rw [h4]
                    simp only
                    split at h
                    · rename_i h5
                      rw [if_pos h5]
                      split at h
                      · rename_i b u hu
                        split at h
                        · rename_i hfu
                          simp only [Option.some.injEq, Prod.mk.injEq] at h
                          obtain ⟨rfl, rfl⟩ := h
                          rw [hT.ro _ _ _ _ hu]
                          simp only [hfu, if_true]
                        · cases h
                      · cases h
                    · rename_i h5
                      rw [if_neg h5]
                      exact hT.ro _ _ _ _ h
          · cases h
      · cases h
    · cases h
  · cases h

def jops (P : Program) (callf : CallF) (callT : CallT) (fl : List (Nat × Nat)) (ops : Array Oper) : List Nat → Array Value → Conds → AH → Tr (Array Value × AH)
  | [], t, cs, H => .leaf (some (fin t cs, H))
  | i :: r, t, cs, H =>
    match ops[i]? with
    | none => jops P callf callT fl ops r t cs H
    | some o =>
      match gcond ops t cs o with
      | none => .leaf none
      | some g =>
        if quietK o.op then
          match symQ P fl t H o with
          | some (b, v) => match o.dst with
            | some d => if o.op.operands.toList.all (opIn cs g) && (freeC d g && freeCs d cs) then
                .node d (!gB t g || b) (jops P callf callT fl ops r (t.setIfInBounds d v) ((d, g) :: cs) H) (.leaf none) else .leaf none
            | none => .leaf none
          | none => match o.dst, jval P callf H t cs g o with
            | some d, some v => if freeC d g && freeCs d cs then jops P callf callT fl ops r (t.setIfInBounds d v) ((d, g) :: cs) H else .leaf none
            | _, _ => .leaf none
        else match g with
          | [] => if o.op.operands.toList.all (opIn cs []) then (aopT P callf callT fl t H o).bind fun x =>
              match o.dst with
              | some d => if freeCs d cs then jops P callf callT fl ops r (t.setIfInBounds d x.1) ((d, []) :: cs) x.2 else .leaf none
              | none => jops P callf callT fl ops r t cs x.2
            else .leaf none
          | _ => if o.op.operands.toList.all (opIn cs g) then
              match o.dst, jcall P callf callT H t o with
              | some d, some v => if freeC d g && freeCs d cs then jops P callf callT fl ops r (t.setIfInBounds d v) ((d, g) :: cs) H else .leaf none
              | some d, none => match jroc P callf callT H t o with
                | some (b, v) => if freeC d g && freeCs d cs then
                    .node d (!gB t g || b) (jops P callf callT fl ops r (t.setIfInBounds d v) ((d, g) :: cs) H) (.leaf none) else .leaf none
                | none => .leaf none
              | _, _ => .leaf none
            else .leaf none
theorem jops_res {P : Program} {callf : CallF} {callT : CallT} {fl : List (Nat × Nat)} {ops : Array Oper} (hT : TOk callT callf) : ∀ (l : List Nat) (t : Array Value) (cs : Conds) (H : AH) (r : Array Value × AH), (jops P callf callT fl ops l t cs H).res = some r → aops P callf ops l (fin t cs) H = some r := by
  intro l
  induction l with
  | nil => intro t cs H r h; exact h
  | cons i l ih =>
    intro t cs H r h
    unfold jops at h
    unfold aops
    cases ho : ops[i]? with
    | none => rw [ho] at h; exact ih t cs H r h
    | some o =>
      rw [ho] at h
      simp only at h ⊢
      cases hg : gcond ops t cs o with
      | none => rw [hg] at h; cases h
      | some g =>
        rw [hg] at h
        simp only at h
        obtain ⟨hbl, hw⟩ := gcond_ok hg
        rw [if_neg (by rw [hbl]; simp), hw]
        -- a value under a test
        have tested : ∀ (b : Bool) (v : Value) (d : Tmp), (b = true → aop P callf t H o = some (v, H)) → o.dst = some d → o.op.operands.toList.all (opIn cs g) = true → (freeC d g && freeCs d cs) = true →
            (Tr.node d (!gB t g || b) (jops P callf callT fl ops l (t.setIfInBounds d v) ((d, g) :: cs) H) (.leaf none)).res = some r →
            (if holds t g = true then (match aop P callf (fin t cs) H o with
              | some (v, H') => aops P callf ops l (aput (fin t cs) o.dst v) H'
              | none => none) else aops P callf ops l (aput (fin t cs) o.dst undef) H) = some r := by
          intro b v d hv hd hall hfree h
          simp only [Bool.and_eq_true] at hfree
          simp only [Tr.res] at h
          split at h
          · rename_i hb
            have := ih _ _ _ r h
            rw [fin_put hfree.1 hfree.2] at this
            cases hh : holds t g with
            | true =>
              rw [gB_eq, hh] at hb
              simp only [Bool.not_true, Bool.false_or] at hb
              rw [if_pos rfl, aop_congr (t' := t) fun x hx => fin_aev (List.all_eq_true.1 hall x hx) hh, hv hb]
              simp only [hd, aput]
              rw [hh, if_pos rfl] at this
              exact this
            | false =>
              rw [if_neg (by simp)]
              simp only [hd, aput]
              rw [hh, if_neg (by simp)] at this
              exact this
          · cases h
        split at h
        · rename_i hq
          split at h
          · rename_i b v hs
            split at h
            · rename_i d hd
              split at h
              · rename_i hc
                rw [Bool.and_eq_true] at hc
                exact tested b v d (fun hb => by subst hb; exact symQ_ok hs) hd hc.1 hc.2 h
              · cases h
            · cases h
          split at h
          · rename_i d v hd hv
            split at h
            · rename_i hfree
              simp only [Bool.and_eq_true] at hfree
              have := ih _ _ _ r h
              rw [fin_put hfree.1 hfree.2] at this
              cases hh : holds t g with
              | true =>
                rw [if_pos rfl, jval_ok hq hv hh]
                simp only [hd, aput]
                rw [hh, if_pos rfl] at this
                exact this
              | false =>
                rw [if_neg (by simp)]
                simp only [hd, aput]
                rw [hh, if_neg (by simp)] at this
                exact this
            · cases h
          · cases h
        · split at h
          · split at h
            · rename_i hall
              rw [Tr.res_bind] at h
              cases hx : (aopT P callf callT fl t H o).res with
              | none => rw [hx] at h; cases h
              | some x =>
                rw [hx] at h
                simp only [Option.bind_some] at h
                have ha := aopT_res hT hx
                have hh : holds t [] = true := rfl
                rw [if_pos hh, aop_congr (t' := t) fun x hx => fin_aev (List.all_eq_true.1 hall x hx) hh, ha]
                obtain ⟨v, K⟩ := x
                simp only at h ⊢
                split at h
                · rename_i d hd
                  split at h
                  · rename_i hfree
                    have := ih _ _ _ r h
                    rw [fin_put rfl hfree, if_pos hh] at this
                    simp only [hd, aput]
                    exact this
                  · cases h
                · rename_i hd
                  have := ih _ _ _ r h
                  simp only [hd, aput]
                  exact this
            · cases h
          · split at h
            · rename_i hall
              split at h
              · rename_i d v hd hv
                split at h
                · rename_i hfree
                  simp only [Bool.and_eq_true] at hfree
                  have := ih _ _ _ r h
                  rw [fin_put hfree.1 hfree.2] at this
                  cases hh : holds t g with
                  | true =>
                    rw [if_pos rfl, aop_congr (t' := t) fun x hx => fin_aev (List.all_eq_true.1 hall x hx) hh, jcall_ok hT hv]
                    simp only [hd, aput]
                    rw [hh, if_pos rfl] at this
                    exact this
                  | false =>
                    rw [if_neg (by simp)]
                    simp only [hd, aput]
                    rw [hh, if_neg (by simp)] at this
                    exact this
                · cases h
              · rename_i d hd hv
                split at h
                · rename_i b v hs
                  split at h
                  · rename_i hc
                    exact tested b v d (fun hb => by subst hb; exact jroc_ok hT hs) hd hall hc h
                  · cases h
                · cases h
              · cases h
            · cases h

/-- The slots that are told apart behind a region. -/
def jsplit (fl : List (Nat × Nat)) : List Tmp → Array Value → AH → Tr (Array Value × AH)
  | [], t, H => .leaf (some (t, H))
  | d :: l, t, H => splitV fl (some d) (t.getD d undef) fun v => jsplit fl l (t.setIfInBounds d v) H
theorem set_same (t : Array Value) (d : Tmp) : t.setIfInBounds d (t.getD d undef) = t := by
  refine Array.ext_getElem? fun s => ?_
  by_cases hs : s = d
  · subst hs
    by_cases hb : s < t.size
    · rw [Array.getElem?_setIfInBounds_self_of_lt hb, Array.getD_eq_getD_getElem?, Array.getElem?_eq_getElem hb]; rfl
    · rw [Array.getElem?_eq_none (by simp; omega), Array.getElem?_eq_none (by omega)]
  · rw [Array.getElem?_setIfInBounds_ne (fun e => hs e.symm)]
theorem jsplit_res {fl : List (Nat × Nat)} : ∀ (l : List Tmp) (t : Array Value) (H : AH) (r : Array Value × AH), (jsplit fl l t H).res = some r → r = (t, H) := by
  intro l
  induction l with
  | nil => intro t H r h; simpa [jsplit, Tr.res] using h.symm
  | cons d l ih =>
    intro t H r h
    unfold jsplit at h
    have := ih _ _ r (splitV_res h)
    rwa [set_same] at this
/-- A region that is gone through in one way. -/
def jrun (P : Program) (callf : CallF) (callT : CallT) (fl : List (Nat × Nat)) (ops : Array Oper) (t : Array Value) (H : AH) : Tr (Array Value × AH) :=
  (jops P callf callT fl ops (List.range ops.size) t [] H).bind fun x => jsplit fl ((ops.toList.filterMap (·.dst)).filter fun d => flagged fl (some d)) x.1 x.2
theorem fin_nil (t : Array Value) : fin t [] = t := by
  refine Array.ext_getElem? fun s => ?_
  rw [fin_get]; rfl
theorem jrun_res {P : Program} {callf : CallF} {callT : CallT} {fl : List (Nat × Nat)} {ops : Array Oper} (hT : TOk callT callf) {t : Array Value} {H : AH} {r : Array Value × AH} (h : (jrun P callf callT fl ops t H).res = some r) : aops P callf ops (List.range ops.size) t H = some r := by
  unfold jrun at h
  rw [Tr.res_bind] at h
  cases hx : (jops P callf callT fl ops (List.range ops.size) t [] H).res with
  | none => rw [hx] at h; cases h
  | some x =>
    rw [hx] at h
    simp only [Option.bind_some] at h
    have h1 := jops_res hT _ _ _ _ _ hx
    rw [fin_nil] at h1
    rw [h1, jsplit_res _ _ _ _ h]

/-- A region whose order is told: in one way, if the flags say so (at 2000000 + its number). -/
def regT (P : Program) (callf : CallF) (callT : CallT) (fl : List (Nat × Nat)) (id : Nat) (ops : Array Oper) (t : Array Value) (H : AH) : Tr (Array Value × AH) :=
  if fl.any (fun z => z.1 == 2000000 + id) then jrun P callf callT fl ops t H else aopsT P callf callT fl ops (List.range ops.size) t H

/-- What a text's run is told: which tests are left open, which slots are forgotten and of which the blocks are kept at the heads of its loops. -/
structure Opts where
  fl : List (Nat × Nat) := []
  forget : List (Nat × List Tmp) := []
  roots : List (Nat × List Tmp) := []
def Opts.hints (o : Opts) : Hints := ⟨modeOf o.fl, fun id => ((o.forget.find? (fun x => x.1 == id)).map (·.2)).getD [], fun id => (o.roots.find? (fun x => x.1 == id)).map (·.2)⟩

/-- What is known of a function's loops, by their numbers: how each one goes on from behind its head. -/
abbrev LoopT := Nat → Option (Array Value → AH → Tr (Exit × Array Value × AH))
def noLoops : LoopT := fun _ => none

/-- A block without addresses; all of some tests. -/
def bFlat : Option ABlk → Bool
  | some b => b.cells.all flat1
  | none => true
def andL : List Bool → Bool
  | [] => true
  | b :: l => b && andL l
theorem andL_of : ∀ {l : List Bool}, andL l = true → ∀ b ∈ l, b = true := by
  intro l
  induction l with
  | nil => intro _ b hb; cases hb
  | cons x l ih =>
    intro h b hb
    simp only [andL, Bool.and_eq_true] at h
    rcases List.mem_cons.1 hb with rfl | hb
    · exact h.1
    · exact ih h.2 b hb
/-- The head of a loop, where the contents of kept blocks may be open (7000000; the kept block j: 7000001 + j). -/
def gcT (fl : List (Nat × Nat)) (L0 : Nat) (roots : Option (List Tmp)) (t : Array Value) (H : AH) : Tr (Array Value × AH) :=
  if fl.any (fun z => z.1 == 7000000) then match roots with
    | none => .leaf (some (t, H))
    | some l =>
      let keep := (addAll [] (l.flatMap fun i => idsOf (t.getD i undef))).filter fun id => L0 ≤ id
      if (H.take L0).all (fun b => match b with | some b => !b.wr | none => true) then
        .node 0 (andL ((H.take L0).map bFlat ++ keep.zipIdx.map fun x => if fl.any (fun z => z.1 == 7000001 + x.2) then bFlat (H[x.1]?).join else true))
          (.leaf (some (t.map (renV (keepTo L0 keep) 4), H.take L0 ++ keep.zipIdx.map fun x => if fl.any (fun z => z.1 == 7000001 + x.2) then (H[x.1]?).join else ((H[x.1]?).join).map (keepB L0 keep)))) (.leaf none)
      else .leaf none
  else .leaf (gcAt L0 roots t H)
theorem gcT_res {fl : List (Nat × Nat)} {L0 : Nat} {roots : Option (List Tmp)} {t : Array Value} {H : AH} {r : Array Value × AH} (h : (gcT fl L0 roots t H).res = some r) : gcAt L0 roots t H = some r := by
  unfold gcT at h
  split at h
  · unfold gcAt
    split at h
    · exact h
    · rename_i l
      simp only at h ⊢
      generalize (addAll [] (l.flatMap fun i => idsOf (t.getD i undef))).filter (fun id => decide (L0 ≤ id)) = keep at h ⊢
      split at h
      · rename_i hw
        simp only [Tr.res] at h
        split at h
        · rename_i hc
          have hc := andL_of hc
          have hc1 : ∀ b ∈ H.take L0, bFlat b = true := fun b hb => hc _ (List.mem_append_left _ (List.mem_map_of_mem hb))
          have hc2 : ∀ x ∈ keep.zipIdx, (if fl.any (fun z => z.1 == 7000001 + x.2) then bFlat (H[x.1]?).join else true) = true := fun x hx => hc _ (List.mem_append_right _ (List.mem_map_of_mem (f := fun x => if fl.any (fun z => z.1 == 7000001 + x.2) then bFlat (H[x.1]?).join else true) hx))
          simp only [Option.some.injEq] at h
          subst h
          rw [if_pos]
          · congr 1
            congr 1
            congr 1
            · conv => rhs; rw [← List.map_id (H.take L0)]
              refine List.map_congr_left fun b hb => ?_
              have := List.all_eq_true.1 hw b hb
              cases b with
              | none => rfl
              | some b => simp only [Bool.not_eq_true'] at this; simp [this]
            · have zip : ∀ (f : Nat → Option ABlk), keep.map f = keep.zipIdx.map fun x => f x.1 := fun f => by
                have h1 : (keep.zipIdx.map Prod.fst).map f = keep.zipIdx.map fun x => f x.1 := by rw [List.map_map]; rfl
                rw [← h1, List.zipIdx_map_fst]
              rw [zip]
              refine List.map_congr_left fun x hx => ?_
              split
              · rename_i hf
                have h2 := hc2 x hx
                rw [if_pos hf] at h2
                cases hq : (H[x.1]?).join with
                | none => rfl
                | some b =>
                  rw [hq] at h2
                  simp only [bFlat] at h2
                  simp only [Option.map_some, Option.some.injEq]
                  unfold keepB
                  rw [if_pos h2]
              · rfl
          · refine List.all_eq_true.2 fun b hb => ?_
            have := hc1 b hb
            cases b with
            | none => rfl
            | some b => simp only [bFlat] at this; simp [this]
        · cases h
      · cases h
  · exact h

def evCodeT (P : Program) (callf : CallF) (callT : CallT) (o : Opts) (lt : LoopT) (L0 : Nat) (n : Nat) : Code → Array Value → AH → Tr (Exit × Array Value × AH) :=
  Nat.rec (fun _ _ _ => .leaf none) (fun _ ih c t H =>
    match c with
    | .skip | .label _ => .leaf (some (.normal, t, H))
    | .region id ops false => (regT P callf callT o.fl id ops t H).bind fun x => .leaf (some (.normal, x.1, x.2))
    | .region id ops true => (adrawT P callf callT o.fl id ops t H).bind fun x => .leaf (some (.normal, x.1, x.2))
    | .seq a b => (ih a t H).bind fun x => match x with
      | (.normal, t, H) => ih b t H
      | r => .leaf (some r)
    | .cond c a b => if okOpd c then match aev t c with
        | .bool true => ih a t H
        | .bool false => ih b t H
        | _ => .leaf none
      else .leaf none
    | .block id b => (ih b t H).bind fun x => match x with
      | (.exit id', t, H) => if id' = id then .leaf (some (.normal, t, H)) else .leaf (some (.exit id', t, H))
      | r => .leaf (some r)
    | .loop b => (gcT o.fl L0 (o.hints.roots (headId b)) (forgetT (o.hints.forget (headId b)) t) H).bind fun x => match lt (headId b) with
        | some ans => ans x.1 x.2
        | none => (ih b x.1 x.2).bind fun x => match x with
          | (.normal, t, H) => ih (.loop b) t H
          | r => .leaf (some r)
    | .scope b => (ih b t H).bind fun x => match x with
      | (.goto _, _, _) => .leaf none
      | r => .leaf (some r)
    | .exit id => .leaf (some (.exit id, t, H))
    | .ret => .leaf (some (.ret, t, H))
    | _ => .leaf none) n

def loopsOf : Code → List Code
  | .seq a b => loopsOf a ++ loopsOf b
  | .cond _ a b => loopsOf a ++ loopsOf b
  | .block _ b | .scope b => loopsOf b
  | .loop b => b :: loopsOf b
  | _ => []
def nodupB : List Nat → Bool
  | [] => true
  | x :: xs => !xs.contains x && nodupB xs
def loopAt (c : Code) (id : Nat) : Option Code := (loopsOf c).find? fun b => headId b == id

def evFnT (P : Program) (callf : CallF) (callT : CallT) (o : Opts) (lt : LoopT) (L : Nat) (f : FuncId) (args : Array Value) (H : AH) : Tr (Value × AH) :=
  if 1000000 ≤ f then .leaf none else
  match P.funcs[f]? with
  | some fn => match fn.body with
    | some c => if nodupB ((loopsOf c).map headId) then (evCodeT P callf callT o lt H.length L c (args ++ Array.replicate (fn.ntmps - args.size) undef) H).bind fun x => match x with
      | (.normal, t, H') | (.ret, t, H') => match ares P t H' fn.results.toList with
        | some [v] => .leaf (some (v, H'))
        | some vs => .leaf (some (.tuple vs.toArray, H'))
        | none => .leaf none
      | _ => .leaf none
      else .leaf none
    | none => .leaf none
  | none => .leaf none

/-- What is known of the loops holds. -/
def LOk (P : Program) (callf : CallF) (hi : Hints) (L0 : Nat) (body : Code) (lt : LoopT) : Prop :=
  ∀ id ans, lt id = some ans → ∀ b, loopAt body id = some b → ∀ t H r, (ans t H).res = some r → ∃ n, evRound P callf hi L0 n b t H = some r
theorem LOk.none {P : Program} {callf : CallF} {hi : Hints} {L0 : Nat} {body : Code} : LOk P callf hi L0 body noLoops := fun _ _ h => by cases h

section
variable {P : Program} {callf : CallF} {callT : CallT} {fl : List (Nat × Nat)} {ops : Array Oper}

theorem aopsT_res (hT : TOk callT callf) : ∀ (l : List Nat) (t : Array Value) (H : AH) (r : Array Value × AH), (aopsT P callf callT fl ops l t H).res = some r → aops P callf ops l t H = some r := by
  intro l
  induction l with
  | nil => intro t H r h; exact h
  | cons i l ih =>
    intro t H r h
    unfold aopsT at h
    unfold aops
    cases ho : ops[i]? with
    | none => rw [ho] at h; exact ih t H r h
    | some o =>
      rw [ho] at h
      simp only at h ⊢
      split at h
      · cases h
      rename_i hbl
      rw [if_neg hbl]
      split at h
      · rename_i hw
        rw [if_pos hw]
        rw [Tr.res_bind] at h
        cases hq : (aopT P callf callT fl t H o).res with
        | none => rw [hq] at h; cases h
        | some x =>
          rw [hq] at h
          simp only [Option.bind_some] at h
          rw [aopT_res hT hq]
          exact ih _ _ r (splitV_res h)
      · rename_i hw
        rw [if_neg hw]
        exact ih _ _ r h

theorem regT_res (hT : TOk callT callf) {id : Nat} {t : Array Value} {H : AH} {r : Array Value × AH} (h : (regT P callf callT fl id ops t H).res = some r) : aops P callf ops (List.range ops.size) t H = some r := by
  unfold regT at h
  split at h
  · exact jrun_res hT h
  · exact aopsT_res hT _ _ _ _ h

theorem pre1T_res (hT : TOk callT callf) {mode L0 i : Nat} {t : Array Value} {H : AH} {r : Array Value × AH × Foot} (h : (pre1T P callf callT fl mode L0 ops i t H).res = some r) : pre1 P callf mode L0 ops i t H = some r := by
  unfold pre1T at h
  unfold pre1
  cases ho : ops[i]? with
  | none => rw [ho] at h; cases h
  | some o =>
    rw [ho] at h
    simp only at h ⊢
    split at h
    · cases h
    rename_i hbl
    rw [if_neg hbl]
    split at h
    · rename_i hw
      rw [if_pos hw]
      cases hk : kindOf o.op <;> rw [hk] at h <;> simp only at h ⊢
      case barrier => cases h
      all_goals
        rw [Tr.res_bind] at h
        first
          | (cases hq : (aopT P callf callT fl t H o).res with
            | none => rw [hq] at h; cases h
            | some x =>
              rw [hq] at h
              simp only [Option.bind_some] at h
              rw [aopT_res hT hq]
              have h := splitV_res h
              simpa [Tr.res] using h)
          | (cases hq : (aopT P callf callT fl t (seen (footOf mode L0 t H o) H) o).res with
            | none => rw [hq] at h; cases h
            | some x =>
              rw [hq] at h
              simp only [Option.bind_some] at h
              rw [aopT_res hT hq]
              have h := splitV_res h
              simpa [Tr.res] using h)
    · rename_i hw
      rw [if_neg hw]
      exact h

theorem apreT_res (hT : TOk callT callf) {mode L0 : Nat} : ∀ (l : List Nat) (t : Array Value) (H : AH) (r : Array Value × AH × List Foot), (apreT P callf callT fl mode L0 ops l t H).res = some r → apre P callf mode L0 ops l t H = some r := by
  intro l
  induction l with
  | nil => intro t H r h; exact h
  | cons i l ih =>
    intro t H r h
    unfold apreT at h
    unfold apre
    rw [Tr.res_bind] at h
    cases hq : (pre1T P callf callT fl mode L0 ops i t H).res with
    | none => rw [hq] at h; cases h
    | some x =>
      rw [hq] at h
      simp only [Option.bind_some, Tr.res_bind] at h
      rw [pre1T_res hT hq]
      cases hq2 : (apreT P callf callT fl mode L0 ops l x.1 x.2.1).res with
      | none => rw [hq2] at h; cases h
      | some y =>
        rw [hq2] at h
        simp only [Option.bind_some, Tr.res, Option.some.injEq] at h
        simp only [ih _ _ _ hq2, Option.map_some, h]

theorem modeOf_le (id : Nat) : modeOf fl id ops ≤ 2 := by
  unfold modeOf
  split
  · exact Nat.min_le_right _ _
  · split <;> omega
theorem modeOf_draw {mode : Nat} (hm : mode ≤ 2) {t : Array Value} {H : AH} {r : Array Value × AH} (h : adrawM P callf mode ops t H = some r) : adraw P callf mode ops t H = some r := by
  match mode, hm with
  | 0, _ => exact h
  | 1, _ => exact h
  | 2, _ => exact h

theorem adrawT_res (hT : TOk callT callf) {id : Nat} {t : Array Value} {H : AH} {r : Array Value × AH} (h : (adrawT P callf callT fl id ops t H).res = some r) : adraw P callf (modeOf fl id ops) ops t H = some r := by
  apply modeOf_draw (modeOf_le id)
  unfold adrawT at h
  unfold adrawM
  simp only at h ⊢
  split at h
  · rename_i hc
    rw [if_pos hc]
    rw [Tr.res_bind] at h
    cases hq : (apreT P callf callT fl (modeOf fl id ops) H.length ops (List.range (cutAt (befores ops.toList []) ops.toList.length)) t H).res with
    | none => rw [hq] at h; cases h
    | some x =>
      rw [hq] at h
      simp only [Option.bind_some] at h
      rw [apreT_res hT _ _ _ _ hq]
      simp only
      split at h
      · rename_i hf
        rw [if_pos hf]
        exact aopsT_res hT _ _ _ _ h
      · cases h
  · cases h

theorem nodup_find : ∀ (l : List Code), nodupB (l.map headId) = true → ∀ b ∈ l, l.find? (fun x => headId x == headId b) = some b := by
  intro l
  induction l with
  | nil => intro _ b hb; cases hb
  | cons x xs ih =>
    intro h b hb
    simp only [List.map_cons, nodupB, Bool.and_eq_true, Bool.not_eq_true'] at h
    rcases List.mem_cons.1 hb with rfl | hb
    · simp
    · rw [List.find?_cons]
      split
      · rename_i he
        have he : headId x = headId b := by simpa using he
        have hc : (xs.map headId).contains (headId x) = true := by rw [he]; simpa using ⟨b, hb, rfl⟩
        rw [hc] at h; cases h.1
      · exact ih h.2 b hb

section
variable {o : Opts} {lt : LoopT} {L0 : Nat}
theorem evCodeT_succ (n : Nat) (c : Code) (t : Array Value) (H : AH) : evCodeT P callf callT o lt L0 (n + 1) c t H =
    match c with
    | .skip | .label _ => .leaf (some (.normal, t, H))
    | .region id ops false => (regT P callf callT o.fl id ops t H).bind fun x => .leaf (some (.normal, x.1, x.2))
    | .region id ops true => (adrawT P callf callT o.fl id ops t H).bind fun x => .leaf (some (.normal, x.1, x.2))
    | .seq a b => (evCodeT P callf callT o lt L0 n a t H).bind fun x => match x with
      | (.normal, t, H) => evCodeT P callf callT o lt L0 n b t H
      | r => .leaf (some r)
    | .cond c a b => if okOpd c then match aev t c with
        | .bool true => evCodeT P callf callT o lt L0 n a t H
        | .bool false => evCodeT P callf callT o lt L0 n b t H
        | _ => .leaf none
      else .leaf none
    | .block id b => (evCodeT P callf callT o lt L0 n b t H).bind fun x => match x with
      | (.exit id', t, H) => if id' = id then .leaf (some (.normal, t, H)) else .leaf (some (.exit id', t, H))
      | r => .leaf (some r)
    | .loop b => (gcT o.fl L0 (o.hints.roots (headId b)) (forgetT (o.hints.forget (headId b)) t) H).bind fun x => match lt (headId b) with
        | some ans => ans x.1 x.2
        | none => (evCodeT P callf callT o lt L0 n b x.1 x.2).bind fun x => match x with
          | (.normal, t, H) => evCodeT P callf callT o lt L0 n (.loop b) t H
          | r => .leaf (some r)
    | .scope b => (evCodeT P callf callT o lt L0 n b t H).bind fun x => match x with
      | (.goto _, _, _) => .leaf none
      | r => .leaf (some r)
    | .exit id => .leaf (some (.exit id, t, H))
    | .ret => .leaf (some (.ret, t, H))
    | _ => .leaf none := rfl

theorem evCodeT_res (hT : TOk callT callf) {body : Code} (hl : LOk P callf o.hints L0 body lt) : ∀ (n : Nat) (c : Code) (_ : ∀ b ∈ loopsOf c, loopAt body (headId b) = some b) (t : Array Value) (H : AH) (r : Exit × Array Value × AH),
    (evCodeT P callf callT o lt L0 n c t H).res = some r → ∃ m, evCode P callf o.hints L0 m c t H = some r := by
  intro n
  induction n with
  | zero => intro c _ t H r h; cases h
  | succ n ih =>
    intro c hsub t H r h
    rw [evCodeT_succ] at h
    cases c with
    | region id ops d =>
      refine ⟨1, ?_⟩
      rw [evCode_succ]
      cases d with
      | false =>
        simp only [Tr.res_bind] at h ⊢
        cases hq : (regT P callf callT o.fl id ops t H).res with
        | none => rw [hq] at h; cases h
        | some x => rw [hq] at h; rw [regT_res hT hq]; exact h
      | true =>
        simp only [Tr.res_bind] at h ⊢
        cases hq : (adrawT P callf callT o.fl id ops t H).res with
        | none => rw [hq] at h; cases h
        | some x => rw [hq] at h; rw [show o.hints.mode id ops = modeOf o.fl id ops from rfl, adrawT_res hT hq]; exact h
    | seq a b =>
      simp only [Tr.res_bind] at h
      cases hq : (evCodeT P callf callT o lt L0 n a t H).res with
      | none => rw [hq] at h; cases h
      | some x =>
        rw [hq] at h
        obtain ⟨m1, h1⟩ := ih a (fun b hb => hsub b (by simp [loopsOf, hb])) _ _ _ hq
        simp only [Option.bind_some] at h
        obtain ⟨e, t1, H1⟩ := x
        by_cases he : e = .normal
        · subst he
          obtain ⟨m2, h2⟩ := ih b (fun b hb => hsub b (by simp [loopsOf, hb])) _ _ _ h
          refine ⟨max m1 m2 + 1, ?_⟩
          rw [evCode_succ]
          simp only
          rw [evCode_mono _ _ _ _ _ h1 _ (Nat.le_max_left ..)]
          exact evCode_mono _ _ _ _ _ h2 _ (Nat.le_max_right ..)
        · refine ⟨m1 + 1, ?_⟩
          rw [evCode_succ]
          simp only
          rw [h1]
          cases e <;> first | exact absurd rfl he | exact h
    | cond c a b =>
      simp only at h
      split at h
      · rename_i hc
        split at h
        · rename_i hb
          obtain ⟨m, h1⟩ := ih a (fun b hb => hsub b (by simp [loopsOf, hb])) _ _ _ h
          refine ⟨m + 1, ?_⟩
          rw [evCode_succ]
          simp only
          rw [if_pos hc, hb]; exact h1
        · rename_i hb
          obtain ⟨m, h1⟩ := ih b (fun b hb => hsub b (by simp [loopsOf, hb])) _ _ _ h
          refine ⟨m + 1, ?_⟩
          rw [evCode_succ]
          simp only
          rw [if_pos hc, hb]; exact h1
        · cases h
      · cases h
    | block id b =>
      simp only [Tr.res_bind] at h
      cases hq : (evCodeT P callf callT o lt L0 n b t H).res with
      | none => rw [hq] at h; cases h
      | some x =>
        rw [hq] at h
        obtain ⟨m, h1⟩ := ih b (fun b' hb => hsub b' (by simpa [loopsOf] using hb)) _ _ _ hq
        refine ⟨m + 1, ?_⟩
        rw [evCode_succ]
        simp only
        rw [h1]
        simp only [Option.bind_some] at h
        obtain ⟨e, t1, H1⟩ := x
        cases e <;> first | exact h | (simp only at h ⊢; split at h <;> (rename_i hi; simp only [hi, if_true, if_false]; exact h))
    | loop b =>
      simp only [Tr.res_bind] at h
      cases hg0 : (gcT o.fl L0 (o.hints.roots (headId b)) (forgetT (o.hints.forget (headId b)) t) H).res with
      | none => rw [hg0] at h; cases h
      | some x =>
        have hg := gcT_res hg0
        obtain ⟨t0, H0⟩ := x
        rw [hg0] at h
        simp only [Option.bind_some] at h
        cases hlt : lt (headId b) with
        | some ans =>
          rw [hlt] at h
          obtain ⟨m, h1⟩ := hl (headId b) ans hlt b (hsub b (by simp [loopsOf])) _ _ _ h
          exact ⟨m + 1, by rw [evCode_loop, hg]; exact h1⟩
        | none =>
          rw [hlt] at h
          simp only [Tr.res_bind] at h
          cases hq : (evCodeT P callf callT o lt L0 n b t0 H0).res with
          | none => rw [hq] at h; cases h
          | some x =>
            rw [hq] at h
            obtain ⟨m1, h1⟩ := ih b (fun b' hb => hsub b' (by simp [loopsOf, hb])) _ _ _ hq
            simp only [Option.bind_some] at h
            obtain ⟨e, t1, H1⟩ := x
            by_cases he : e = .normal
            · subst he
              obtain ⟨m2, h2⟩ := ih (.loop b) hsub _ _ _ h
              refine ⟨max m1 m2 + 1, ?_⟩
              rw [evCode_loop, hg]
              simp only [evRound]
              rw [evCode_mono _ _ _ _ _ h1 _ (Nat.le_max_left ..)]
              exact evCode_mono _ _ _ _ _ h2 _ (Nat.le_max_right ..)
            · refine ⟨m1 + 1, ?_⟩
              rw [evCode_loop, hg]
              simp only [evRound]
              rw [h1]
              cases e <;> first | exact absurd rfl he | exact h
    | scope b =>
      simp only [Tr.res_bind] at h
      cases hq : (evCodeT P callf callT o lt L0 n b t H).res with
      | none => rw [hq] at h; cases h
      | some x =>
        rw [hq] at h
        obtain ⟨m, h1⟩ := ih b (fun b' hb => hsub b' (by simpa [loopsOf] using hb)) _ _ _ hq
        refine ⟨m + 1, ?_⟩
        rw [evCode_succ]
        simp only
        rw [h1]
        simp only [Option.bind_some] at h
        obtain ⟨e, t1, H1⟩ := x
        cases e <;> first | exact h | cases h
    | _ => exact ⟨1, by rw [evCode_succ]; exact h⟩

theorem evFnT_res (hT : TOk callT callf) {L : Nat} {f : FuncId} {args : Array Value} {H : AH} {r : Value × AH}
    (hl : ∀ fn c, P.funcs[f]? = some fn → fn.body = some c → LOk P callf o.hints H.length c lt)
    (h : (evFnT P callf callT o lt L f args H).res = some r) : ∃ m, evFn P callf o.hints m f args H = some r := by
  unfold evFnT at h
  split at h
  · cases h
  rename_i hlt
  cases hf : P.funcs[f]? with
  | none => rw [hf] at h; cases h
  | some fn =>
    rw [hf] at h
    simp only at h
    cases hb : fn.body with
    | none => rw [hb] at h; cases h
    | some c =>
      rw [hb] at h
      simp only at h
      split at h
      · rename_i hnd
        rw [Tr.res_bind] at h
        cases hq : (evCodeT P callf callT o lt H.length L c (args ++ Array.replicate (fn.ntmps - args.size) undef) H).res with
        | none => rw [hq] at h; cases h
        | some x =>
          rw [hq] at h
          obtain ⟨m, h1⟩ := evCodeT_res hT (hl fn c hf hb) L c (fun b hb => nodup_find _ hnd b hb) _ _ _ hq
          refine ⟨m, ?_⟩
          unfold evFn
          rw [if_neg hlt, hf]
          simp only
          rw [hb]
          simp only
          rw [h1]
          simp only [Option.bind_some] at h
          obtain ⟨e, t1, H1⟩ := x
          cases e with
          | normal =>
            simp only at h ⊢
            cases hra : ares P t1 H1 fn.results.toList with
            | none => rw [hra] at h; cases h
            | some vs =>
              rw [hra] at h
              match vs, h with
              | [], h => simpa [Tr.res] using h
              | [u], h => simpa [Tr.res] using h
              | u :: u2 :: us, h => simpa [Tr.res] using h
          | ret =>
            simp only at h ⊢
            cases hra : ares P t1 H1 fn.results.toList with
            | none => rw [hra] at h; cases h
            | some vs =>
              rw [hra] at h
              match vs, h with
              | [], h => simpa [Tr.res] using h
              | [u], h => simpa [Tr.res] using h
              | u :: u2 :: us, h => simpa [Tr.res] using h
          | _ => cases h
      · cases h
end
end
end Go.Proofs.YtfpcmckachpnpaaDoor.Vx
