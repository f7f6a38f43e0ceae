/- The run over a memory with names of its own, with tests that are left open: a tree of ways. -/
import Derived.Test.YtkllldhkikmbbaaX15
namespace Go.Proofs.Ytkllldhkikmbbaa.Vx
open Go Go.RowKit

inductive Tr (α : Type) where
  | leaf (a : Option α)
  | node (d : Nat) (b : Bool) (x y : Tr α)

def Tr.res {α : Type} : Tr α → Option α
  | .leaf a => a
  | .node _ b x y => if b then x.res else y.res
def Tr.bind {α β : Type} (x : Tr α) (f : α → Tr β) : Tr β :=
  match x with
  | .leaf none => .leaf none
  | .leaf (some a) => f a
  | .node d b x y => .node d b (x.bind f) (y.bind f)
theorem Tr.res_bind {α β : Type} (x : Tr α) (f : α → Tr β) : (x.bind f).res = x.res.bind fun a => (f a).res := by
  induction x with
  | leaf a => cases a <;> rfl
  | node d b x y ihx ihy => simp only [Tr.bind, Tr.res]; cases b <;> simp_all

/-- A number that is one of the first ones, each way of its own. -/
def splitN {β : Type} (d : Nat) (kd : IntKind) (n : Int) (f : Value → Tr β) : (len lo : Nat) → Tr β
  | 0, _ => .leaf none
  | len + 1, lo => .node d (n == (lo : Int)) (f (.int kd lo)) (splitN d kd n f len (lo + 1))

/-- A slot whose value is to be told apart: a bool, or a number below a bound. -/
def splitV {β : Type} (fl : List (Nat × Nat)) (dst : Option Tmp) (v : Value) (f : Value → Tr β) : Tr β :=
  match dst with
  | some d => match fl.find? (fun x => x.1 == d) with
    | some (_, len) => match v with
      | .bool b => .node d b (f (.bool true)) (f (.bool false))
      | .int kd n => if len = 0 then f v else splitN d kd n f len 0
      | _ => f v
    | none => f v
  | none => f v

theorem splitN_res {β : Type} {d : Nat} {kd : IntKind} {n : Int} {f : Value → Tr β} {r : β} : ∀ (len lo : Nat), (splitN d kd n f len lo).res = some r → (f (.int kd n)).res = some r := by
  intro len
  induction len with
  | zero => intro lo h; cases h
  | succ len ih =>
    intro lo h
    simp only [splitN, Tr.res] at h
    split at h
    · rename_i hb
      have : n = (lo : Int) := by simpa using hb
      subst this; exact h
    · exact ih (lo + 1) h
theorem splitV_res {β : Type} {fl : List (Nat × Nat)} {dst : Option Tmp} {v : Value} {f : Value → Tr β} {r : β} (h : (splitV fl dst v f).res = some r) : (f v).res = some r := by
  unfold splitV at h
  split at h
  · split at h
    · split at h
      · simp only [Tr.res] at h
        split at h
        · rename_i hb; subst hb; exact h
        · rename_i hb; rw [Bool.eq_false_iff.2 hb]; exact h
      · split at h
        · exact h
        · exact splitN_res _ _ h
      · exact h
    · exact h
  · exact h

def flagged (fl : List (Nat × Nat)) : Option Tmp → Bool
  | some d => (fl.find? (fun z => z.1 == d)).isSome
  | none => false

/-- What a call answers, in ways. -/
abbrev CallT := FuncId → Array Value → AH → Tr (Value × AH)
def TOk (callT : CallT) (callf : CallF) : Prop := ∀ g args H r, (callT g args H).res = some r → callf g args H = some r

/-- An operation; a division by what may be nothing has two ways, a call those of what it calls. -/
def aopT (P : Program) (callf : CallF) (callT : CallT) (fl : List (Nat × Nat)) (t : Array Value) (H : AH) (o : Oper) : Tr (Value × AH) :=
  match o.op with
  | .binOp op _ x y _ =>
    if flagged fl o.dst && okT t x && okT t y then
      match op, aev t x, aev t y with
      | .quo, .int k a, .int k' b => if k = k' then .node (o.dst.getD 0) (b == 0) (.leaf none) (.leaf (some (.int k (k.wrap (a.tdiv b)), H))) else .leaf none
      | .rem, .int k a, .int k' b => if k = k' then .node (o.dst.getD 0) (b == 0) (.leaf none) (.leaf (some (.int k (a.tmod b), H))) else .leaf none
      | _, _, _ => .leaf (aop P callf t H o)
    else .leaf (aop P callf t H o)
  | .call c => match c.callee with
    | .value f => match aev t f with
      | .func (.func g) first cap =>
        if o.op.operands.toList.all (okT t) = false then .leaf none else
        match P.funcs[g]? with
        | some fn =>
          if fn.name == "runtime.NumGoroutine" then .leaf none
          else if fn.body.isNone then .leaf ((anative P g (first ++ c.args.map (aev t) ++ cap)).map fun v => (v, H))
          else if 1000000 ≤ g then .leaf none
          else match callf (g + 1000000) ((first ++ c.args.map (aev t) ++ cap).map (renV (canTo (canIds H (first ++ c.args.map (aev t) ++ cap))) 4)) (canH (canIds H (first ++ c.args.map (aev t) ++ cap)) H) with
          | some (r, K) => .leaf (some (renV (canFrom (canIds H (first ++ c.args.map (aev t) ++ cap)) H.length) 4 r, H ++ (K.drop (canIds H (first ++ c.args.map (aev t) ++ cap)).length).map (Option.map (renB (canFrom (canIds H (first ++ c.args.map (aev t) ++ cap)) H.length)))))
          | none => if (first ++ c.args.map (aev t) ++ cap).toList.all flat then
            (callT g (first ++ c.args.map (aev t) ++ cap) []).bind fun x => if flat x.1 then .leaf (some (x.1, H)) else callT g (first ++ c.args.map (aev t) ++ cap) H
          else callT g (first ++ c.args.map (aev t) ++ cap) H
        | none => .leaf none
      | _ => .leaf (aop P callf t H o)
    | _ => .leaf (aop P callf t H o)
  | _ => .leaf (aop P callf t H o)

section
variable {P : Program} {callf : CallF} {callT : CallT}

theorem aopT_res (hT : TOk callT callf) {fl : List (Nat × Nat)} {t : Array Value} {H : AH} {o : Oper} {r : Value × AH} (h : (aopT P callf callT fl t H o).res = some r) : aop P callf t H o = some r := by
  unfold aopT at h
  split at h
  · rename_i op T x y T2 ho
    split at h
    · rename_i hc
      simp only [Bool.and_eq_true] at hc
      have hall : ¬ (o.op.operands.toList.all (okT t) = false) := by simp [ho, Op.operands, hc.1.2, hc.2]
      have base : ∀ (k : IntKind) (a b : Int) (v : Value), flat v = true → aev t x = .int k a → aev t y = .int k b → pureRun P (Op.intDiv op k a b) = some v → (op = .quo ∨ op = .rem) → aop P callf t H o = some (v, H) := by
        intro k a b v hfl hx hy hv hop
        unfold aop
        rw [if_neg hall]
        unfold aopIn
        rw [ho]
        simp only
        have hnd : nilDiff (P.underlying T) (aev t x) (aev t y) = false := by rw [hx, hy]; unfold nilDiff; split <;> first | rfl | simp_all
        rw [if_neg (by rw [hnd]; simp), hx, hy]
        have hb : pureRun P (binOp op T (.int k a) (.int k b)) = some v := by
          rcases hop with rfl | rfl
          · rw [binOp_quo]; exact hv
          · rw [binOp_rem]; exact hv
        have hg : eqGuard op T x y (.int k a) (.int k b) = pure () := eqGuard_at_int ..
        have hfin : aflat P t H o = some (v, H) := by
          unfold aflat
          have hfx : o.op.operands.toList.all (fun x => flat (aev t x)) = true := by simp [ho, Op.operands, hx, hy]; exact ⟨rfl, rfl⟩
          rw [if_pos hfx]
          have : pureRun P (execOp (aev t) o) = some (.value v) := by
            simp only [execOp, ho, hx, hy, hg, pureRun_bind, pureRun_pure, Option.bind_some, hb]
          rw [this]
          simp only [hfl, if_true]
        rcases hop with rfl | rfl <;> exact hfin
      split at h
      · rename_i k a k' b hx hy
        split at h
        · rename_i hk
          subst hk
          simp only [Tr.res] at h
          split at h
          · cases h
          · rename_i hb
            simp only [Option.some.injEq] at h
            subst h
            exact base k a b _ rfl hx hy (by unfold Op.intDiv; rw [if_neg (by simpa using hb)]; rfl) (.inl rfl)
        · cases h
      · rename_i k a k' b hx hy
        split at h
        · rename_i hk
          subst hk
          simp only [Tr.res] at h
          split at h
          · cases h
          · rename_i hb
            simp only [Option.some.injEq] at h
            subst h
            exact base k a b _ rfl hx hy (by unfold Op.intDiv; rw [if_neg (by simpa using hb)]; rfl) (.inr rfl)
        · cases h
      · exact h
    · exact h
  · rename_i c ho
    split at h
    · rename_i f hce
      split at h
      · rename_i g first cap hfe
        split at h
        · cases h
        · rename_i hall
          have goal : ∀ r, acall P callf g (first ++ c.args.map (aev t) ++ cap) H = some r → aop P callf t H o = some r := by
            intro r hr
            unfold aop
            rw [if_neg hall]
            unfold aopIn
            rw [ho]
            simp only [hce, hfe]
            exact hr
          refine goal r ?_
          unfold acall
          split at h
          · rename_i fn hfn
            rw [hfn]
            simp only
            split at h
            · cases h
            · rename_i hnb
              rw [if_neg hnb]
              split at h
              · rename_i hbo; rw [if_pos hbo]; exact h
              rename_i hbo
              rw [if_neg hbo]
              split at h
              · cases h
              rename_i hg
              rw [if_neg hg]
              split at h
              · rename_i r0 K0 hq; rw [hq]; exact h
              rename_i hq0
              rw [hq0]
              simp only
              split at h
              · rename_i hfl
                rw [if_pos hfl]
                rw [Tr.res_bind] at h
                cases hq : (callT g (first ++ c.args.map (aev t) ++ cap) []).res with
                | none => rw [hq] at h; cases h
                | some x =>
                  rw [hq] at h
                  simp only [Option.bind_some] at h
                  rw [hT _ _ _ _ hq]
                  simp only
                  split at h
                  · rename_i hfv
                    rw [if_pos hfv]
                    simpa [Tr.res] using h
                  · rename_i hfv
                    rw [if_neg hfv]
                    exact hT _ _ _ _ h
              · rename_i hfl
                rw [if_neg hfl]
                exact hT _ _ _ _ h
          · cases h
      · exact h
    · exact h
  · exact h
end

def aopsT (P : Program) (callf : CallF) (callT : CallT) (fl : List (Nat × Nat)) (ops : Array Oper) : List Nat → Array Value → AH → Tr (Array Value × AH)
  | [], t, H => .leaf (some (t, H))
  | i :: r, t, H =>
    match ops[i]? with
    | none => aopsT P callf callT fl ops r t H
    | some o =>
      if blind ops t o then .leaf none else
      if Region.wanted o (yielded ops t) then
        (aopT P callf callT fl t H o).bind fun x => splitV fl o.dst x.1 fun v => aopsT P callf callT fl ops r (aput t o.dst v) x.2
      else aopsT P callf callT fl ops r (aput t o.dst undef) H

def pre1T (P : Program) (callf : CallF) (callT : CallT) (fl : List (Nat × Nat)) (mode L0 : Nat) (ops : Array Oper) (i : Nat) (t : Array Value) (H : AH) : Tr (Array Value × AH × Foot) :=
  match ops[i]? with
  | none => .leaf none
  | some o =>
    if blind ops t o then .leaf none else
    if Region.wanted o (yielded ops t) then
      match kindOf o.op with
      | .barrier => .leaf none
      | .call => (aopT P callf callT fl t (seen (footOf mode L0 t H o) H) o).bind fun x => splitV fl o.dst x.1 fun v =>
          .leaf (some (aput t o.dst v, mergeH (footOf mode L0 t H o).sets H x.2, footOf mode L0 t H o))
      | .make | .write => (aopT P callf callT fl t H o).bind fun x => splitV fl o.dst x.1 fun v => .leaf (some (aput t o.dst v, x.2, footOf mode L0 t H o))
      | _ => (aopT P callf callT fl t H o).bind fun x => splitV fl o.dst x.1 fun v => .leaf (some (aput t o.dst v, H, footOf mode L0 t H o))
    else .leaf (some (aput t o.dst undef, H, ⟨false, [], []⟩))

def apreT (P : Program) (callf : CallF) (callT : CallT) (fl : List (Nat × Nat)) (mode L0 : Nat) (ops : Array Oper) : List Nat → Array Value → AH → Tr (Array Value × AH × List Foot)
  | [], t, H => .leaf (some (t, H, []))
  | i :: r, t, H => (pre1T P callf callT fl mode L0 ops i t H).bind fun x => (apreT P callf callT fl mode L0 ops r x.1 x.2.1).bind fun y => .leaf (some (pushF x.2.2 y))

/-- How the calls of a region are given memory: as the flags say (at 1000000 + the region's number), or, where nothing is written beside them, all of it to look at. -/
def modeOf (fl : List (Nat × Nat)) (id : Nat) (ops : Array Oper) : Nat :=
  match fl.find? (fun z => z.1 == 1000000 + id) with
  | some (_, n) => min n 2
  | none => if ops.toList.any (fun o => kindOf o.op == .write) then 1 else 0

def adrawT (P : Program) (callf : CallF) (callT : CallT) (fl : List (Nat × Nat)) (id : Nat) (ops : Array Oper) (t : Array Value) (H : AH) : Tr (Array Value × AH) :=
  let l := ops.toList
  let bs := befores l []
  let m := cutAt bs l.length
  if textual l && preOk l bs ops m then
    (apreT P callf callT fl (modeOf fl id ops) H.length ops (List.range m) t H).bind fun x => if footsOk x.2.2 bs m then aopsT P callf callT fl ops ((List.range (l.length - m)).map (· + m)) x.1 x.2.1 else .leaf none
  else .leaf none

/-- What a text's run is told: which tests are left open, which slots are forgotten and of which the blocks are kept at the heads of its loops. -/
structure Opts where
  fl : List (Nat × Nat) := []
  forget : List (Nat × List Tmp) := []
  roots : List (Nat × List Tmp) := []
def Opts.hints (o : Opts) : Hints := ⟨modeOf o.fl, fun id => ((o.forget.find? (fun x => x.1 == id)).map (·.2)).getD [], fun id => (o.roots.find? (fun x => x.1 == id)).map (·.2)⟩

/-- What is known of a function's loops, by their numbers: how each one goes on from behind its head. -/
abbrev LoopT := Nat → Option (Array Value → AH → Tr (Exit × Array Value × AH))
def noLoops : LoopT := fun _ => none

def evCodeT (P : Program) (callf : CallF) (callT : CallT) (o : Opts) (lt : LoopT) (L0 : Nat) (n : Nat) : Code → Array Value → AH → Tr (Exit × Array Value × AH) :=
  Nat.rec (fun _ _ _ => .leaf none) (fun _ ih c t H =>
    match c with
    | .skip | .label _ => .leaf (some (.normal, t, H))
    | .region _ ops false => (aopsT P callf callT o.fl ops (List.range ops.size) t H).bind fun x => .leaf (some (.normal, x.1, x.2))
    | .region id ops true => (adrawT P callf callT o.fl id ops t H).bind fun x => .leaf (some (.normal, x.1, x.2))
    | .seq a b => (ih a t H).bind fun x => match x with
      | (.normal, t, H) => ih b t H
      | r => .leaf (some r)
    | .cond c a b => if okOpd c then match aev t c with
        | .bool true => ih a t H
        | .bool false => ih b t H
        | _ => .leaf none
      else .leaf none
    | .block id b => (ih b t H).bind fun x => match x with
      | (.exit id', t, H) => if id' = id then .leaf (some (.normal, t, H)) else .leaf (some (.exit id', t, H))
      | r => .leaf (some r)
    | .loop b => match gcAt L0 (o.hints.roots (headId b)) (forgetT (o.hints.forget (headId b)) t) H with
      | none => .leaf none
      | some (t, H) => match lt (headId b) with
        | some ans => ans t H
        | none => (ih b t H).bind fun x => match x with
          | (.normal, t, H) => ih (.loop b) t H
          | r => .leaf (some r)
    | .scope b => (ih b t H).bind fun x => match x with
      | (.goto _, _, _) => .leaf none
      | r => .leaf (some r)
    | .exit id => .leaf (some (.exit id, t, H))
    | .ret => .leaf (some (.ret, t, H))
    | _ => .leaf none) n

def loopsOf : Code → List Code
  | .seq a b => loopsOf a ++ loopsOf b
  | .cond _ a b => loopsOf a ++ loopsOf b
  | .block _ b | .scope b => loopsOf b
  | .loop b => b :: loopsOf b
  | _ => []
def nodupB : List Nat → Bool
  | [] => true
  | x :: xs => !xs.contains x && nodupB xs
def loopAt (c : Code) (id : Nat) : Option Code := (loopsOf c).find? fun b => headId b == id

def evFnT (P : Program) (callf : CallF) (callT : CallT) (o : Opts) (lt : LoopT) (L : Nat) (f : FuncId) (args : Array Value) (H : AH) : Tr (Value × AH) :=
  if 1000000 ≤ f then .leaf none else
  match P.funcs[f]? with
  | some fn => match fn.body with
    | some c => if nodupB ((loopsOf c).map headId) then (evCodeT P callf callT o lt H.length L c (args ++ Array.replicate (fn.ntmps - args.size) undef) H).bind fun x => match x with
      | (.normal, t, H') | (.ret, t, H') => match ares P t H' fn.results.toList with
        | some [v] => .leaf (some (v, H'))
        | some vs => .leaf (some (.tuple vs.toArray, H'))
        | none => .leaf none
      | _ => .leaf none
      else .leaf none
    | none => .leaf none
  | none => .leaf none

/-- What is known of the loops holds. -/
def LOk (P : Program) (callf : CallF) (hi : Hints) (L0 : Nat) (body : Code) (lt : LoopT) : Prop :=
  ∀ id ans, lt id = some ans → ∀ b, loopAt body id = some b → ∀ t H r, (ans t H).res = some r → ∃ n, evRound P callf hi L0 n b t H = some r
theorem LOk.none {P : Program} {callf : CallF} {hi : Hints} {L0 : Nat} {body : Code} : LOk P callf hi L0 body noLoops := fun _ _ h => by cases h

section
variable {P : Program} {callf : CallF} {callT : CallT} {fl : List (Nat × Nat)} {ops : Array Oper}

theorem aopsT_res (hT : TOk callT callf) : ∀ (l : List Nat) (t : Array Value) (H : AH) (r : Array Value × AH), (aopsT P callf callT fl ops l t H).res = some r → aops P callf ops l t H = some r := by
  intro l
  induction l with
  | nil => intro t H r h; exact h
  | cons i l ih =>
    intro t H r h
    unfold aopsT at h
    unfold aops
    cases ho : ops[i]? with
    | none => rw [ho] at h; exact ih t H r h
    | some o =>
      rw [ho] at h
      simp only at h ⊢
      split at h
      · cases h
      rename_i hbl
      rw [if_neg hbl]
      split at h
      · rename_i hw
        rw [if_pos hw]
        rw [Tr.res_bind] at h
        cases hq : (aopT P callf callT fl t H o).res with
        | none => rw [hq] at h; cases h
        | some x =>
          rw [hq] at h
          simp only [Option.bind_some] at h
          rw [aopT_res hT hq]
          exact ih _ _ r (splitV_res h)
      · rename_i hw
        rw [if_neg hw]
        exact ih _ _ r h

theorem pre1T_res (hT : TOk callT callf) {mode L0 i : Nat} {t : Array Value} {H : AH} {r : Array Value × AH × Foot} (h : (pre1T P callf callT fl mode L0 ops i t H).res = some r) : pre1 P callf mode L0 ops i t H = some r := by
  unfold pre1T at h
  unfold pre1
  cases ho : ops[i]? with
  | none => rw [ho] at h; cases h
  | some o =>
    rw [ho] at h
    simp only at h ⊢
    split at h
    · cases h
    rename_i hbl
    rw [if_neg hbl]
    split at h
    · rename_i hw
      rw [if_pos hw]
      cases hk : kindOf o.op <;> rw [hk] at h <;> simp only at h ⊢
      case barrier => cases h
      all_goals
        rw [Tr.res_bind] at h
        first
          | (cases hq : (aopT P callf callT fl t H o).res with
            | none => rw [hq] at h; cases h
            | some x =>
              rw [hq] at h
              simp only [Option.bind_some] at h
              rw [aopT_res hT hq]
              have h := splitV_res h
              simpa [Tr.res] using h)
          | (cases hq : (aopT P callf callT fl t (seen (footOf mode L0 t H o) H) o).res with
            | none => rw [hq] at h; cases h
            | some x =>
              rw [hq] at h
              simp only [Option.bind_some] at h
              rw [aopT_res hT hq]
              have h := splitV_res h
              simpa [Tr.res] using h)
    · rename_i hw
      rw [if_neg hw]
      exact h

theorem apreT_res (hT : TOk callT callf) {mode L0 : Nat} : ∀ (l : List Nat) (t : Array Value) (H : AH) (r : Array Value × AH × List Foot), (apreT P callf callT fl mode L0 ops l t H).res = some r → apre P callf mode L0 ops l t H = some r := by
  intro l
  induction l with
  | nil => intro t H r h; exact h
  | cons i l ih =>
    intro t H r h
    unfold apreT at h
    unfold apre
    rw [Tr.res_bind] at h
    cases hq : (pre1T P callf callT fl mode L0 ops i t H).res with
    | none => rw [hq] at h; cases h
    | some x =>
      rw [hq] at h
      simp only [Option.bind_some, Tr.res_bind] at h
      rw [pre1T_res hT hq]
      cases hq2 : (apreT P callf callT fl mode L0 ops l x.1 x.2.1).res with
      | none => rw [hq2] at h; cases h
      | some y =>
        rw [hq2] at h
        simp only [Option.bind_some, Tr.res, Option.some.injEq] at h
        simp only [ih _ _ _ hq2, Option.map_some, h]

theorem modeOf_le (id : Nat) : modeOf fl id ops ≤ 2 := by
  unfold modeOf
  split
  · exact Nat.min_le_right _ _
  · split <;> omega
theorem modeOf_draw {mode : Nat} (hm : mode ≤ 2) {t : Array Value} {H : AH} {r : Array Value × AH} (h : adrawM P callf mode ops t H = some r) : adraw P callf mode ops t H = some r := by
  match mode, hm with
  | 0, _ => exact h
  | 1, _ => exact h
  | 2, _ => exact h

theorem adrawT_res (hT : TOk callT callf) {id : Nat} {t : Array Value} {H : AH} {r : Array Value × AH} (h : (adrawT P callf callT fl id ops t H).res = some r) : adraw P callf (modeOf fl id ops) ops t H = some r := by
  apply modeOf_draw (modeOf_le id)
  unfold adrawT at h
  unfold adrawM
  simp only at h ⊢
  split at h
  · rename_i hc
    rw [if_pos hc]
    rw [Tr.res_bind] at h
    cases hq : (apreT P callf callT fl (modeOf fl id ops) H.length ops (List.range (cutAt (befores ops.toList []) ops.toList.length)) t H).res with
    | none => rw [hq] at h; cases h
    | some x =>
      rw [hq] at h
      simp only [Option.bind_some] at h
      rw [apreT_res hT _ _ _ _ hq]
      simp only
      split at h
      · rename_i hf
        rw [if_pos hf]
        exact aopsT_res hT _ _ _ _ h
      · cases h
  · cases h

theorem nodup_find : ∀ (l : List Code), nodupB (l.map headId) = true → ∀ b ∈ l, l.find? (fun x => headId x == headId b) = some b := by
  intro l
  induction l with
  | nil => intro _ b hb; cases hb
  | cons x xs ih =>
    intro h b hb
    simp only [List.map_cons, nodupB, Bool.and_eq_true, Bool.not_eq_true'] at h
    rcases List.mem_cons.1 hb with rfl | hb
    · simp
    · rw [List.find?_cons]
      split
      · rename_i he
        have he : headId x = headId b := by simpa using he
        have hc : (xs.map headId).contains (headId x) = true := by rw [he]; simpa using ⟨b, hb, rfl⟩
        rw [hc] at h; cases h.1
      · exact ih h.2 b hb

section
variable {o : Opts} {lt : LoopT} {L0 : Nat}
theorem evCodeT_succ (n : Nat) (c : Code) (t : Array Value) (H : AH) : evCodeT P callf callT o lt L0 (n + 1) c t H =
    match c with
    | .skip | .label _ => .leaf (some (.normal, t, H))
    | .region _ ops false => (aopsT P callf callT o.fl ops (List.range ops.size) t H).bind fun x => .leaf (some (.normal, x.1, x.2))
    | .region id ops true => (adrawT P callf callT o.fl id ops t H).bind fun x => .leaf (some (.normal, x.1, x.2))
    | .seq a b => (evCodeT P callf callT o lt L0 n a t H).bind fun x => match x with
      | (.normal, t, H) => evCodeT P callf callT o lt L0 n b t H
      | r => .leaf (some r)
    | .cond c a b => if okOpd c then match aev t c with
        | .bool true => evCodeT P callf callT o lt L0 n a t H
        | .bool false => evCodeT P callf callT o lt L0 n b t H
        | _ => .leaf none
      else .leaf none
    | .block id b => (evCodeT P callf callT o lt L0 n b t H).bind fun x => match x with
      | (.exit id', t, H) => if id' = id then .leaf (some (.normal, t, H)) else .leaf (some (.exit id', t, H))
      | r => .leaf (some r)
    | .loop b => match gcAt L0 (o.hints.roots (headId b)) (forgetT (o.hints.forget (headId b)) t) H with
      | none => .leaf none
      | some (t, H) => match lt (headId b) with
        | some ans => ans t H
        | none => (evCodeT P callf callT o lt L0 n b t H).bind fun x => match x with
          | (.normal, t, H) => evCodeT P callf callT o lt L0 n (.loop b) t H
          | r => .leaf (some r)
    | .scope b => (evCodeT P callf callT o lt L0 n b t H).bind fun x => match x with
      | (.goto _, _, _) => .leaf none
      | r => .leaf (some r)
    | .exit id => .leaf (some (.exit id, t, H))
    | .ret => .leaf (some (.ret, t, H))
    | _ => .leaf none := rfl

theorem evCodeT_res (hT : TOk callT callf) {body : Code} (hl : LOk P callf o.hints L0 body lt) : ∀ (n : Nat) (c : Code) (_ : ∀ b ∈ loopsOf c, loopAt body (headId b) = some b) (t : Array Value) (H : AH) (r : Exit × Array Value × AH),
    (evCodeT P callf callT o lt L0 n c t H).res = some r → ∃ m, evCode P callf o.hints L0 m c t H = some r := by
  intro n
  induction n with
  | zero => intro c _ t H r h; cases h
  | succ n ih =>
    intro c hsub t H r h
    rw [evCodeT_succ] at h
    cases c with
    | region id ops d =>
      refine ⟨1, ?_⟩
      rw [evCode_succ]
      cases d with
      | false =>
        simp only [Tr.res_bind] at h ⊢
        cases hq : (aopsT P callf callT o.fl ops (List.range ops.size) t H).res with
        | none => rw [hq] at h; cases h
        | some x => rw [hq] at h; rw [aopsT_res hT _ _ _ _ hq]; exact h
      | true =>
        simp only [Tr.res_bind] at h ⊢
        cases hq : (adrawT P callf callT o.fl id ops t H).res with
        | none => rw [hq] at h; cases h
        | some x => rw [hq] at h; rw [show o.hints.mode id ops = modeOf o.fl id ops from rfl, adrawT_res hT hq]; exact h
    | seq a b =>
      simp only [Tr.res_bind] at h
      cases hq : (evCodeT P callf callT o lt L0 n a t H).res with
      | none => rw [hq] at h; cases h
      | some x =>
        rw [hq] at h
        obtain ⟨m1, h1⟩ := ih a (fun b hb => hsub b (by simp [loopsOf, hb])) _ _ _ hq
        simp only [Option.bind_some] at h
        obtain ⟨e, t1, H1⟩ := x
        by_cases he : e = .normal
        · subst he
          obtain ⟨m2, h2⟩ := ih b (fun b hb => hsub b (by simp [loopsOf, hb])) _ _ _ h
          refine ⟨max m1 m2 + 1, ?_⟩
          rw [evCode_succ]
          simp only
          rw [evCode_mono _ _ _ _ _ h1 _ (Nat.le_max_left ..)]
          exact evCode_mono _ _ _ _ _ h2 _ (Nat.le_max_right ..)
        · refine ⟨m1 + 1, ?_⟩
          rw [evCode_succ]
          simp only
          rw [h1]
          cases e <;> first | exact absurd rfl he | exact h
    | cond c a b =>
      simp only at h
      split at h
      · rename_i hc
        split at h
        · rename_i hb
          obtain ⟨m, h1⟩ := ih a (fun b hb => hsub b (by simp [loopsOf, hb])) _ _ _ h
          refine ⟨m + 1, ?_⟩
          rw [evCode_succ]
          simp only
          rw [if_pos hc, hb]; exact h1
        · rename_i hb
          obtain ⟨m, h1⟩ := ih b (fun b hb => hsub b (by simp [loopsOf, hb])) _ _ _ h
          refine ⟨m + 1, ?_⟩
          rw [evCode_succ]
          simp only
          rw [if_pos hc, hb]; exact h1
        · cases h
      · cases h
    | block id b =>
      simp only [Tr.res_bind] at h
      cases hq : (evCodeT P callf callT o lt L0 n b t H).res with
      | none => rw [hq] at h; cases h
      | some x =>
        rw [hq] at h
        obtain ⟨m, h1⟩ := ih b (fun b' hb => hsub b' (by simpa [loopsOf] using hb)) _ _ _ hq
        refine ⟨m + 1, ?_⟩
        rw [evCode_succ]
        simp only
        rw [h1]
        simp only [Option.bind_some] at h
        obtain ⟨e, t1, H1⟩ := x
        cases e <;> first | exact h | (simp only at h ⊢; split at h <;> (rename_i hi; simp only [hi, if_true, if_false]; exact h))
    | loop b =>
      simp only at h
      cases hg : gcAt L0 (o.hints.roots (headId b)) (forgetT (o.hints.forget (headId b)) t) H with
      | none => rw [hg] at h; cases h
      | some x =>
        obtain ⟨t0, H0⟩ := x
        rw [hg] at h
        simp only at h
        cases hlt : lt (headId b) with
        | some ans =>
          rw [hlt] at h
          obtain ⟨m, h1⟩ := hl (headId b) ans hlt b (hsub b (by simp [loopsOf])) _ _ _ h
          exact ⟨m + 1, by rw [evCode_loop, hg]; exact h1⟩
        | none =>
          rw [hlt] at h
          simp only [Tr.res_bind] at h
          cases hq : (evCodeT P callf callT o lt L0 n b t0 H0).res with
          | none => rw [hq] at h; cases h
          | some x =>
            rw [hq] at h
            obtain ⟨m1, h1⟩ := ih b (fun b' hb => hsub b' (by simp [loopsOf, hb])) _ _ _ hq
            simp only [Option.bind_some] at h
            obtain ⟨e, t1, H1⟩ := x
            by_cases he : e = .normal
            · subst he
              obtain ⟨m2, h2⟩ := ih (.loop b) hsub _ _ _ h
              refine ⟨max m1 m2 + 1, ?_⟩
              rw [evCode_loop, hg]
              simp only [evRound]
              rw [evCode_mono _ _ _ _ _ h1 _ (Nat.le_max_left ..)]
              exact evCode_mono _ _ _ _ _ h2 _ (Nat.le_max_right ..)
            · refine ⟨m1 + 1, ?_⟩
              rw [evCode_loop, hg]
              simp only [evRound]
              rw [h1]
              cases e <;> first | exact absurd rfl he | exact h
    | scope b =>
      simp only [Tr.res_bind] at h
      cases hq : (evCodeT P callf callT o lt L0 n b t H).res with
      | none => rw [hq] at h; cases h
      | some x =>
        rw [hq] at h
        obtain ⟨m, h1⟩ := ih b (fun b' hb => hsub b' (by simpa [loopsOf] using hb)) _ _ _ hq
        refine ⟨m + 1, ?_⟩
        rw [evCode_succ]
        simp only
        rw [h1]
        simp only [Option.bind_some] at h
        obtain ⟨e, t1, H1⟩ := x
        cases e <;> first | exact h | cases h
    | _ => exact ⟨1, by rw [evCode_succ]; exact h⟩

theorem evFnT_res (hT : TOk callT callf) {L : Nat} {f : FuncId} {args : Array Value} {H : AH} {r : Value × AH}
    (hl : ∀ fn c, P.funcs[f]? = some fn → fn.body = some c → LOk P callf o.hints H.length c lt)
    (h : (evFnT P callf callT o lt L f args H).res = some r) : ∃ m, evFn P callf o.hints m f args H = some r := by
  unfold evFnT at h
  split at h
  · cases h
  rename_i hlt
  cases hf : P.funcs[f]? with
  | none => rw [hf] at h; cases h
  | some fn =>
    rw [hf] at h
    simp only at h
    cases hb : fn.body with
    | none => rw [hb] at h; cases h
    | some c =>
      rw [hb] at h
      simp only at h
      split at h
      · rename_i hnd
        rw [Tr.res_bind] at h
        cases hq : (evCodeT P callf callT o lt H.length L c (args ++ Array.replicate (fn.ntmps - args.size) undef) H).res with
        | none => rw [hq] at h; cases h
        | some x =>
          rw [hq] at h
          obtain ⟨m, h1⟩ := evCodeT_res hT (hl fn c hf hb) L c (fun b hb => nodup_find _ hnd b hb) _ _ _ hq
          refine ⟨m, ?_⟩
          unfold evFn
          rw [if_neg hlt, hf]
          simp only
          rw [hb]
          simp only
          rw [h1]
          simp only [Option.bind_some] at h
          obtain ⟨e, t1, H1⟩ := x
          cases e with
          | normal =>
            simp only at h ⊢
            cases hra : ares P t1 H1 fn.results.toList with
            | none => rw [hra] at h; cases h
            | some vs =>
              rw [hra] at h
              match vs, h with
              | [], h => simpa [Tr.res] using h
              | [u], h => simpa [Tr.res] using h
              | u :: u2 :: us, h => simpa [Tr.res] using h
          | ret =>
            simp only at h ⊢
            cases hra : ares P t1 H1 fn.results.toList with
            | none => rw [hra] at h; cases h
            | some vs =>
              rw [hra] at h
              match vs, h with
              | [], h => simpa [Tr.res] using h
              | [u], h => simpa [Tr.res] using h
              | u :: u2 :: us, h => simpa [Tr.res] using h
          | _ => cases h
      · cases h
end
end
end Go.Proofs.Ytkllldhkikmbbaa.Vx
