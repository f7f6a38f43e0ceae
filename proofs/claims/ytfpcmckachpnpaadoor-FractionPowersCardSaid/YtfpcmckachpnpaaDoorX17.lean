/- Functions by what they answer: a table of answers in the place of the functions that are called. -/
import Derived.Test.YtfpcmckachpnpaaDoorX16
namespace Go.Proofs.YtfpcmckachpnpaaDoor.Vx
open Go Go.RowKit

/-- The lesser and the greater of two numbers, as the model has them. -/
def imin (x y : Int) : Int := if y < x then y else x
def imax (x y : Int) : Int := if y > x then y else x
theorem imin_eq (x y : Int) : imin x y = min x y := by unfold imin; omega
theorem imax_eq (x y : Int) : imax x y = max x y := by unfold imax; omega

abbrev Ans := Array Value → Option Value
/-- The blocks that arguments name, the memory of a call by itself (to look at: whose it is and what it may grow to is not told), and whether nothing in it holds an address. -/
def argIds (args : Array Value) : List Nat := addAll [] (args.toList.flatMap idsOf)
def canV (s : Nat → Option Nat) : Nat → Value → Value
  | _, .pointer (some ⟨id, off, none⟩) => match s id with
    | some k => .pointer (some ⟨k, off, none⟩)
    | none => .tuple #[.chan (some 1)]
  | _, .slice (some ⟨id, off, none⟩) n _ => match s id with
    | some k => .slice (some ⟨k, off, none⟩) n 0
    | none => .tuple #[.chan (some 1)]
  | n + 1, .agg cs => .agg (cs.map (canV s n))
  | n + 1, .tuple cs => .tuple (cs.map (canV s n))
  | n + 1, .func f a b => .func f (a.map (canV s n)) (b.map (canV s n))
  | 0, .agg _ | 0, .tuple _ | 0, .func .. => .tuple #[.chan (some 1)]
  | _, v => v
def ownH (ids : List Nat) (H : AH) : AH := ids.map fun i => ((H[i]?).join).map fun b => ⟨b.cells, false, false, 0⟩
def ownFlat (ids : List Nat) (H : AH) : Bool := andL (ids.map fun i => bFlat (live H i))
/-- What a function answers that looks at the memory that its arguments name, where nothing in it holds an address: with names from 0 on, and the test under which it does. -/
def askMem (s : Array Value → AH → Option (Bool × Value)) (args : Array Value) (H : AH) : Option (Bool × Value) :=
  match s (args.map (canV (canTo (argIds args)) 4)) (ownH (argIds args) H) with
  | some (b, v) => some (ownFlat (argIds args) H && b, v)
  | none => none
/-- The new blocks of a call by itself, as its caller names them; what the arguments name is not told. -/
def newTo (ids : List Nat) (L k : Nat) : Option Nat := if k < ids.length then none else some (L + (k - ids.length))
/-- What a function answers that looks at the memory that its arguments name and makes blocks. -/
def genT (s : Array Value → AH → Tr (Value × List ABlk)) (args : Array Value) (H : AH) : Tr (Value × AH) :=
  .node 0 (ownFlat (argIds args) H) ((s (args.map (canV (canTo (argIds args)) 4)) (ownH (argIds args) H)).bind fun x =>
    .leaf (some (renV (newTo (argIds args) H.length) 4 x.1, H ++ x.2.map some))) (.leaf none)
/-- An entry: what a function answers; or its text, gone through anew at each call, with the slots whose tests are left open; or what it answers where a test holds, and elsewhere nothing is known; or what it answers that looks at memory. -/
inductive Entry where
  | ans (s : Ans)
  | cond (s : Array Value → Option (Bool × Value))
  | inl (o : Opts) (L : Nat)
  | mem (s : Array Value → AH → Option (Bool × Value))
  | gen (s : Array Value → AH → Tr (Value × List ABlk))
abbrev Tab := List (FuncId × Entry)
/-- What a function's text answers with fuel enough. -/
noncomputable def evFnAll (P : Program) (callf : CallF) (hi : Hints) : CallF := fun f args H =>
  open Classical in if h : ∃ r, ∃ L, evFn P callf hi L f args H = some r then some (Classical.choose h) else none
theorem evFnAll_of {P : Program} {callf : CallF} {hi : Hints} {L : Nat} {f : FuncId} {args : Array Value} {H : AH} {r : Value × AH} (h : evFn P callf hi L f args H = some r) : evFnAll P callf hi f args H = some r := by
  have hex : ∃ r, ∃ L, evFn P callf hi L f args H = some r := ⟨r, L, h⟩
  unfold evFnAll
  rw [dif_pos hex]
  obtain ⟨L', h'⟩ := Classical.choose_spec hex
  have h1 := evFn_mono h (Nat.le_max_left L L')
  have h2 := evFn_mono h' (Nat.le_max_right L L')
  rw [h1] at h2
  exact h2.symm
theorem evFnAll_ok {P : Program} {callf : CallF} (hm : P.follows .mixedOrders = true) (hc : CallOk P callf) (hi : Hints) : CallOk P (evFnAll P callf hi) := by
  intro f args H v H' h
  unfold evFnAll at h
  split at h
  · rename_i hex
    obtain ⟨L', h'⟩ := Classical.choose_spec hex
    rw [Option.some.inj h] at h'
    exact evFn_ok hm hc hi L' f args H v H' h'
  · cases h

noncomputable def tb (P : Program) : Tab → CallF
  | [], _, _, _ => none
  | (f, .ans s) :: l, g, args, H => if g = f then (s args).map fun v => (v, H) else tb P l g args H
  | (f, .cond s) :: l, g, args, H => if g = f then (match s args with
    | some (b, v) => if b then some (v, H) else none
    | none => none) else tb P l g args H
  | (f, .inl o _) :: l, g, args, H => if g = f then evFnAll P (tb P l) o.hints f args H else tb P l g args H
  | (f, .mem s) :: l, g, args, H => if g = f then (match askMem s args H with
    | some (b, v) => if b then some (v, H) else none
    | none => none) else tb P l g args H
  | (f, .gen s) :: l, g, args, H => if g = f then (genT s args H).res else tb P l g args H
noncomputable def tbR : Tab → FuncId → Array Value → AH → Option (Bool × Value)
  | [], _, _, _ => none
  | (f, .mem s) :: l, g, args, H => if g = f then askMem s args H else tbR l g args H
  | (f, .ans _) :: l, g, args, H => if g = f then none else tbR l g args H
  | (f, .cond s) :: l, g, args, H => if g = f then s args else tbR l g args H
  | (f, .inl _ _) :: l, g, args, H => if g = f then none else tbR l g args H
  | (f, .gen _) :: l, g, args, H => if g = f then none else tbR l g args H
noncomputable def tbT0 (P : Program) : Tab → FuncId → Array Value → AH → Tr (Value × AH)
  | [], _, _, _ => .leaf none
  | (f, .ans s) :: l, g, args, H => if g = f then .leaf ((s args).map fun v => (v, H)) else tbT0 P l g args H
  | (f, .cond s) :: l, g, args, H => if g = f then (match s args with
    | some (b, v) => .node 0 b (.leaf (some (v, H))) (.leaf none)
    | none => .leaf none) else tbT0 P l g args H
  | (f, .inl o L) :: l, g, args, H => if g = f then evFnT P (tb P l) ⟨tbT0 P l, tbR l⟩ o noLoops L f args H else tbT0 P l g args H
  | (f, .mem s) :: l, g, args, H => if g = f then (match askMem s args H with
    | some (b, v) => .node 0 b (.leaf (some (v, H))) (.leaf none)
    | none => .leaf none) else tbT0 P l g args H
  | (f, .gen s) :: l, g, args, H => if g = f then genT s args H else tbT0 P l g args H
noncomputable def tbT (P : Program) (l : Tab) : CallT := ⟨tbT0 P l, tbR l⟩

section
variable {P : Program} {l : Tab} {f : FuncId} {s : Ans}

theorem tbR_ok : ∀ (l : Tab) (g : FuncId) (args : Array Value) (H : AH) (v : Value), tbR l g args H = some (true, v) → tb P l g args H = some (v, H) := by
  intro l
  induction l with
  | nil => intro g args H v h; cases h
  | cons x l ih =>
    obtain ⟨f, e⟩ := x
    intro g args H v h
    cases e with
    | mem s =>
      unfold tbR at h; unfold tb
      split at h
      · rename_i he; simp only [if_pos he, h, if_true]
      · rename_i he; simp only [if_neg he]; exact ih g args H v h
    | ans s =>
      unfold tbR at h; unfold tb
      split at h
      · cases h
      · rename_i he; rw [if_neg he]; exact ih g args H v h
    | cond s =>
      unfold tbR at h; unfold tb
      split at h
      · rename_i he; simp only [if_pos he, h, if_true]
      · rename_i he; rw [if_neg he]; exact ih g args H v h
    | inl o L =>
      unfold tbR at h; unfold tb
      split at h
      · cases h
      · rename_i he; simp only [if_neg he]; exact ih g args H v h
    | gen s =>
      unfold tbR at h; unfold tb
      split at h
      · cases h
      · rename_i he; simp only [if_neg he]; exact ih g args H v h
theorem tbT_ok : ∀ (l : Tab), TOk (tbT P l) (tb P l) := by
  intro l
  refine ⟨?_, tbR_ok l⟩
  show ∀ g args H r, (tbT0 P l g args H).res = some r → tb P l g args H = some r
  induction l with
  | nil => intro g args H v h; cases h
  | cons x l ih =>
    obtain ⟨f, e⟩ := x
    intro g args H r h
    cases e with
    | ans s =>
      unfold tbT0 at h; unfold tb
      split at h
      · rename_i he; rw [if_pos he]; exact h
      · rename_i he; rw [if_neg he]; exact ih g args H r h
    | cond s =>
      unfold tbT0 at h; unfold tb
      split at h
      · rename_i he
        rw [if_pos he]
        cases hq : s args with
        | none => rw [hq] at h; cases h
        | some x =>
          obtain ⟨b, v⟩ := x
          rw [hq] at h
          simpa [Tr.res] using h
      · rename_i he; rw [if_neg he]; exact ih g args H r h
    | inl o L =>
      unfold tbT0 at h; unfold tb
      split at h
      · rename_i he; simp only [if_pos he]; obtain ⟨m, h1⟩ := evFnT_res ⟨ih, tbR_ok l⟩ (fun _ _ _ _ => LOk.none) h; exact evFnAll_of h1
      · rename_i he; simp only [if_neg he]; exact ih g args H r h
    | mem s =>
      unfold tbT0 at h; unfold tb
      split at h
      · rename_i he
        simp only [if_pos he]
        cases hq : askMem s args H with
        | none => rw [hq] at h; cases h
        | some x =>
          obtain ⟨b, v⟩ := x
          rw [hq] at h
          simpa [Tr.res] using h
      · rename_i he; simp only [if_neg he]; exact ih g args H r h
    | gen s =>
      unfold tbT0 at h; unfold tb
      split at h
      · rename_i he; simp only [if_pos he]; exact h
      · rename_i he; simp only [if_neg he]; exact ih g args H r h

/-- The value of a way. -/
def vals (x : Tr (Value × AH)) : Tr Value := x.bind fun y => .leaf (some y.1)
theorem vals_res {x : Tr (Value × AH)} {v : Value} (h : (vals x).res = some v) : ∃ H', x.res = some (v, H') := by
  unfold vals at h
  rw [Tr.res_bind] at h
  cases hx : x.res with
  | none => rw [hx] at h; cases h
  | some y => rw [hx] at h; simp only [Option.bind_some, Tr.res, Option.some.injEq] at h; subst h; exact ⟨y.2, rfl⟩

/-- Round by round, as long as there is a next one. -/
def lgo {S : Type} (next : S → Option S) : Nat → S → S
  | 0, s => s
  | k + 1, s => match next s with
    | some s' => lgo next k s'
    | none => s
theorem lgo_some {S : Type} {next : S → Option S} {k : Nat} {s s' : S} (h : next s = some s') : lgo next (k + 1) s = lgo next k s' := by
  show (match next s with | some s' => lgo next k s' | none => s) = _
  rw [h]
theorem lgo_none {S : Type} {next : S → Option S} {k : Nat} {s : S} (h : next s = none) : lgo next k s = s := by
  cases k with
  | zero => rfl
  | succ k => show (match next s with | some s' => lgo next k s' | none => s) = _; rw [h]

/-- A round of a loop, from head to head. -/
def roundT (P : Program) (callf : CallF) (callT : CallT) (o : Opts) (lt : LoopT) (L0 L : Nat) (b : Code) (t : Array Value) (H : AH) : Tr (Exit × Array Value × AH) :=
  (evCodeT P callf callT o lt L0 L b t H).bind fun x => match x with
    | (.normal, t, H) => (gcT o.fl L0 (o.hints.roots (headId b)) (forgetT (o.hints.forget (headId b)) t) H).bind fun y => .leaf (some (.normal, y.1, y.2))
    | r => .leaf (some r)
/-- A LOOP, ROUND BY ROUND: 'next' tells the state at the next head, 'ex' how the loop ends at a state without one. -/
theorem loop_fin {callf : CallF} {callT : CallT} (hT : TOk callT callf) {S : Type} {o : Opts} {lt : LoopT} {body : Code} {L0 L : Nat} {b : Code} (T : S → Array Value) (M : S → AH) (next : S → Option S) (ex : S → Tr (Exit × Array Value × AH))
    (hl : LOk P callf o.hints L0 body lt) (hsub : ∀ b' ∈ loopsOf b, loopAt body (headId b') = some b')
    (hin : ∀ s s', next s = some s' → (roundT P callf callT o lt L0 L b (T s) (M s)).res = some (.normal, T s', M s'))
    (hout : ∀ s r, (ex s).res = some r → r.1 ≠ .normal ∧ (roundT P callf callT o lt L0 L b (T s) (M s)).res = some r) :
    ∀ (k : Nat) (s : S) (r : Exit × Array Value × AH), (ex (lgo next k s)).res = some r → ∃ n, evRound P callf o.hints L0 n b (T s) (M s) = some r := by
  have stop : ∀ (s : S) (r : Exit × Array Value × AH), (ex s).res = some r → ∃ n, evRound P callf o.hints L0 n b (T s) (M s) = some r := by
    intro s r h
    obtain ⟨hne, h1⟩ := hout s r h
    unfold roundT at h1
    rw [Tr.res_bind] at h1
    cases hq : (evCodeT P callf callT o lt L0 L b (T s) (M s)).res with
    | none => rw [hq] at h1; cases h1
    | some x =>
      rw [hq] at h1
      obtain ⟨m, h2⟩ := evCodeT_res hT hl L b hsub _ _ _ hq
      obtain ⟨e, t1, H1⟩ := x
      simp only [Option.bind_some] at h1
      cases e with
      | normal =>
        simp only [Tr.res_bind] at h1
        cases hg : (gcT o.fl L0 (o.hints.roots (headId b)) (forgetT (o.hints.forget (headId b)) t1) H1).res with
        | none => rw [hg] at h1; cases h1
        | some y => rw [hg] at h1; simp only [Option.bind_some, Tr.res, Option.some.injEq] at h1; subst h1; exact absurd rfl hne
      | _ =>
        simp only [Tr.res, Option.some.injEq] at h1
        subst h1
        exact ⟨m, by unfold evRound; rw [h2]⟩
  intro k
  induction k with
  | zero => intro s r h; exact stop s r h
  | succ k ih =>
    intro s r h
    cases hn : next s with
    | none => rw [lgo_none hn] at h; exact stop s r h
    | some s' =>
      rw [lgo_some hn] at h
      obtain ⟨n2, h2⟩ := ih s' r h
      have h1 := hin s s' hn
      unfold roundT at h1
      rw [Tr.res_bind] at h1
      cases hq : (evCodeT P callf callT o lt L0 L b (T s) (M s)).res with
      | none => rw [hq] at h1; cases h1
      | some x =>
        rw [hq] at h1
        obtain ⟨m, h3⟩ := evCodeT_res hT hl L b hsub _ _ _ hq
        obtain ⟨e, t1, H1⟩ := x
        simp only [Option.bind_some] at h1
        cases e with
        | normal =>
          simp only [Tr.res_bind] at h1
          cases hg : (gcT o.fl L0 (o.hints.roots (headId b)) (forgetT (o.hints.forget (headId b)) t1) H1).res with
          | none => rw [hg] at h1; cases h1
          | some y =>
            rw [hg] at h1
            simp only [Option.bind_some, Tr.res, Option.some.injEq, Prod.mk.injEq, true_and] at h1
            have hg := gcT_res hg
            refine ⟨max m n2 + 1, ?_⟩
            unfold evRound
            rw [evCode_mono _ _ _ _ _ h3 _ (by omega)]
            simp only
            rw [evCode_loop, hg]
            obtain ⟨y1, y2⟩ := y
            simp only at h1 ⊢
            rw [h1.1, h1.2]
            exact evRound_mono h2 (by omega)
        | _ => simp only [Tr.res, Option.some.injEq, Prod.mk.injEq] at h1; cases h1.1

/-- The table holds. -/
def TabOk (P : Program) (l : Tab) : Prop := CallOk P (tb P l)
theorem tab_nil : TabOk P [] := fun _ _ _ _ _ h => by cases h

/-- An entry that is gone through anew. -/
theorem tab_inl (hm : P.follows .mixedOrders = true) (h : TabOk P l) (f : FuncId) (o : Opts) (L : Nat) : TabOk P ((f, .inl o L) :: l) := by
  intro g args H v H' hg p args' w ha hsr hgl
  unfold tb at hg
  split at hg
  · rename_i he; subst he; exact evFnAll_ok hm h o.hints g args H v H' hg p args' w ha hsr hgl
  · exact h g args H v H' hg p args' w ha hsr hgl

/-- An entry that a contract pays. -/
theorem tab_put (h : TabOk P l) (hlt : f < 1000000)
    (hs : ∀ args v, s args = some v → args.toList.all flat = true ∧ flat v = true ∧ ∀ w, GlobOk w → Calls P f args w fun e w' => e = .returned v ∧ Below w.heap.size w w') : TabOk P ((f, .ans s) :: l) := by
  intro g args H v H' hg p args' w ha hsr hgl
  unfold tb at hg
  split at hg
  · rename_i he
    subst he
    cases hq : s args with
    | none => rw [hq] at hg; cases hg
    | some u =>
      rw [hq] at hg
      simp only [Option.map_some, Option.some.injEq, Prod.mk.injEq] at hg
      obtain ⟨rfl, rfl⟩ := hg
      obtain ⟨h1, h2, h3⟩ := hs args u hq
      have := flats_eq ha h1
      subst this
      rw [Nat.mod_eq_of_lt hlt]
      refine (h3 w hgl.gl).mono ?_
      rintro e w' ⟨rfl, hb⟩
      refine ⟨p, u, rfl, flat_refl h2, hb.os, hb.tape, hb.output, hb.size, fun k hk _ => hb.block k hk, .refl _, fun _ _ => rfl, Nat.le_refl _, ?_, fun id r hr hl => absurd (hsr.dom id r hr) (by omega), fun _ _ h _ => h, fun _ b' _ h hb => ⟨b', h, hb⟩⟩
      exact ⟨hsr.dom, fun id b hb' => let ⟨r, hr, hbr⟩ := hsr.blk id b hb'; ⟨r, hr, hbr.keep hb.size (hb.block _ hbr.lt)⟩, hsr.inj⟩
  · exact h g args H v H' hg p args' w ha hsr hgl

/-- What a function's text answers over no named block at all, its call answers. -/
theorem fn_calls (hm : P.follows .mixedOrders = true) {callf : CallF} (hc : CallOk P callf) {hi : Hints} {L : Nat} {args : Array Value} {v : Value} {H' : AH} (hf : args.toList.all flat = true) (hv : flat v = true)
    (h : evFn P callf hi L f args [] = some (v, H')) (w : World) (hgl : GlobOk w) : Calls P f args w fun e w' => e = .returned v ∧ Below w.heap.size w w' := by
  have hall := (evFn_ok hm hc hi L f args [] v H' h (fun _ => none) args w ⟨rfl, fun i h1 _ => flat_refl (List.all_eq_true.1 hf _ (by simp))⟩ (.empty w) (.empty hgl))
  rw [Nat.mod_eq_of_lt (evFn_lt h)] at hall
  refine hall.mono ?_
  rintro e w' ⟨p', v', rfl, hvr, st⟩
  rw [hvr.flat_eq hv]
  exact ⟨rfl, st.os, st.tape, st.output, st.size, fun k hk => st.block k hk fun ⟨id, b, r, hb, _⟩ => by simp at hb⟩

/-- An entry that the function's text pays, with what is known of its loops. -/
theorem tab_loops (hm : P.follows .mixedOrders = true) (h : TabOk P l) (hlt : f < 1000000)
    (hs : ∀ args v, s args = some v → args.toList.all flat = true ∧ flat v = true ∧ ∃ o lt L, (∀ fn c, P.funcs[f]? = some fn → fn.body = some c → LOk P (tb P l) o.hints 0 c lt) ∧
      (vals (evFnT P (tb P l) (tbT P l) o lt L f args [])).res = some v) : TabOk P ((f, .ans s) :: l) :=
  tab_put h hlt fun args v hv => by
    obtain ⟨h1, h2, o, lt, L, h3, h4⟩ := hs args v hv
    obtain ⟨H', h5⟩ := vals_res h4
    obtain ⟨m, h6⟩ := evFnT_res (tbT_ok l) h3 h5
    exact ⟨h1, h2, fun w hgl => fn_calls hm h h1 h2 h6 w hgl⟩

/-- An entry that holds where a test does. -/
theorem tab_cond (hm : P.follows .mixedOrders = true) (h : TabOk P l) (hlt : f < 1000000) {s : Array Value → Option (Bool × Value)}
    (hs : ∀ args b v, s args = some (b, v) → b = true → args.toList.all flat = true ∧ flat v = true ∧ ∃ o L, (vals (evFnT P (tb P l) (tbT P l) o noLoops L f args [])).res = some v) : TabOk P ((f, .cond s) :: l) := by
  have h0 : TabOk P ((f, .ans fun args => match s args with | some (b, v) => if b then some v else none | none => none) :: l) := tab_loops hm h hlt fun args v hv => by
    cases hq : s args with
    | none => simp only [hq] at hv; cases hv
    | some x =>
      obtain ⟨b, u⟩ := x
      simp only [hq] at hv
      split at hv
      · rename_i hb
        injection hv with hv; subst hv
        obtain ⟨h1, h2, o, L, h3⟩ := hs args b u hq hb
        exact ⟨h1, h2, o, noLoops, L, fun _ _ _ _ => LOk.none, h3⟩
      · cases hv
  intro g args H v H' hg
  refine h0 g args H v H' ?_
  unfold tb at hg ⊢
  split at hg
  · rename_i he
    rw [if_pos he]
    cases hq : s args with
    | none => rw [hq] at hg; cases hg
    | some x =>
      obtain ⟨b, u⟩ := x
      rw [hq] at hg
      simp only at hg ⊢
      split at hg
      · rename_i hb
        simp only [Option.some.injEq, Prod.mk.injEq] at hg
        obtain ⟨rfl, rfl⟩ := hg
        simp only [hq, hb, if_true, Option.map_some]
      · cases hg
  · rename_i he; rw [if_neg he]; exact hg

/-- An entry that holds where a test does, by a contract. -/
theorem tab_condput (h : TabOk P l) (hlt : f < 1000000) {s : Array Value → Option (Bool × Value)}
    (hs : ∀ args b v, s args = some (b, v) → b = true → args.toList.all flat = true ∧ flat v = true ∧ ∀ w, GlobOk w → Calls P f args w fun e w' => e = .returned v ∧ Below w.heap.size w w') : TabOk P ((f, .cond s) :: l) := by
  have h0 : TabOk P ((f, .ans fun args => match s args with | some (b, v) => if b then some v else none | none => none) :: l) := tab_put h hlt fun args v hv => by
    cases hq : s args with
    | none => simp only [hq] at hv; cases hv
    | some x =>
      obtain ⟨b, u⟩ := x
      simp only [hq] at hv
      split at hv
      · rename_i hb
        injection hv with hv; subst hv
        exact hs args b u hq hb
      · cases hv
  intro g args H v H' hg
  refine h0 g args H v H' ?_
  unfold tb at hg ⊢
  split at hg
  · rename_i he
    rw [if_pos he]
    cases hq : s args with
    | none => rw [hq] at hg; cases hg
    | some x =>
      obtain ⟨b, u⟩ := x
      rw [hq] at hg
      simp only at hg ⊢
      split at hg
      · rename_i hb
        simp only [Option.some.injEq, Prod.mk.injEq] at hg
        obtain ⟨rfl, rfl⟩ := hg
        simp only [hq, hb, if_true, Option.map_some]
      · cases hg
  · rename_i he; rw [if_neg he]; exact hg

/-- An entry that the function's text pays. -/
theorem tab_cons (hm : P.follows .mixedOrders = true) (h : TabOk P l) (hlt : f < 1000000)
    (hs : ∀ args v, s args = some v → args.toList.all flat = true ∧ flat v = true ∧ ∃ o L, (vals (evFnT P (tb P l) (tbT P l) o noLoops L f args [])).res = some v) : TabOk P ((f, .ans s) :: l) :=
  tab_loops hm h hlt fun args v hv => by
    obtain ⟨h1, h2, o, L, h3⟩ := hs args v hv
    exact ⟨h1, h2, o, noLoops, L, fun _ _ _ _ => LOk.none, h3⟩

/-- An entry that the table behind it pays. -/
theorem tab_over (h : TabOk P l) (hs : ∀ args v, s args = some v → ∀ H, tb P l f args H = some (v, H)) : TabOk P ((f, .ans s) :: l) := by
  intro g args H v H' hg
  refine h g args H v H' ?_
  unfold tb at hg
  split at hg
  · rename_i he
    subst he
    cases hq : s args with
    | none => rw [hq] at hg; cases hg
    | some u =>
      rw [hq] at hg
      simp only [Option.map_some, Option.some.injEq, Prod.mk.injEq] at hg
      obtain ⟨rfl, rfl⟩ := hg
      exact hs args u hq H
  · exact hg

/-- An entry that holds where a test does, with what is known of the function's loops. -/
theorem tab_condL (hm : P.follows .mixedOrders = true) (h : TabOk P l) (hlt : f < 1000000) {s : Array Value → Option (Bool × Value)}
    (hs : ∀ args b v, s args = some (b, v) → b = true → args.toList.all flat = true ∧ flat v = true ∧ ∃ o lt L, (∀ fn c, P.funcs[f]? = some fn → fn.body = some c → LOk P (tb P l) o.hints 0 c lt) ∧
      (vals (evFnT P (tb P l) (tbT P l) o lt L f args [])).res = some v) : TabOk P ((f, .cond s) :: l) := by
  have h0 : TabOk P ((f, .ans fun args => match s args with | some (b, v) => if b then some v else none | none => none) :: l) := tab_loops hm h hlt fun args v hv => by
    cases hq : s args with
    | none => simp only [hq] at hv; cases hv
    | some x =>
      obtain ⟨b, u⟩ := x
      simp only [hq] at hv
      split at hv
      · rename_i hb
        injection hv with hv; subst hv
        exact hs args b u hq hb
      · cases hv
  intro g args H v H' hg
  refine h0 g args H v H' ?_
  unfold tb at hg ⊢
  split at hg
  · rename_i he
    rw [if_pos he]
    cases hq : s args with
    | none => rw [hq] at hg; cases hg
    | some x =>
      obtain ⟨b, u⟩ := x
      rw [hq] at hg
      simp only at hg ⊢
      split at hg
      · rename_i hb
        simp only [Option.some.injEq, Prod.mk.injEq] at hg
        obtain ⟨rfl, rfl⟩ := hg
        simp only [hq, hb, if_true, Option.map_some]
      · cases hg
  · rename_i he; rw [if_neg he]; exact hg

/-- A total answer over one that holds where a test does. -/
theorem tab_total {s0 : Array Value → Option (Bool × Value)} (h : TabOk P ((f, .cond s0) :: l)) (hs : ∀ args v, s args = some v → s0 args = some (true, v)) : TabOk P ((f, .ans s) :: (f, .cond s0) :: l) :=
  tab_over h fun args v hv H => by
    unfold tb
    rw [if_pos rfl, hs args v hv]
    rfl
/-- Another answer over one that looks at memory. -/
theorem tab_mtotal {s1 s0 : Array Value → AH → Option (Bool × Value)} (h : TabOk P ((f, .mem s0) :: l)) (hs : ∀ args H v, s1 args H = some (true, v) → s0 args H = some (true, v)) : TabOk P ((f, .mem s1) :: (f, .mem s0) :: l) := by
  intro g args H v H' hg
  refine h g args H v H' ?_
  unfold tb at hg
  split at hg
  · rename_i he
    subst he
    unfold tb
    simp only [if_true]
    have key : ∀ v, askMem s1 args H = some (true, v) → askMem s0 args H = some (true, v) := fun v hq => by
      unfold askMem at hq ⊢
      split at hq
      · rename_i b u hu
        simp only [Option.some.injEq, Prod.mk.injEq, Bool.and_eq_true] at hq
        obtain ⟨⟨h1, rfl⟩, rfl⟩ := hq
        rw [hs _ _ _ hu, h1]
        rfl
      · cases hq
    split at hg
    · rename_i b u hq
      split at hg
      · rename_i hb
        subst hb
        rw [key u hq]
        exact hg
      · cases hg
    · cases hg
  · exact hg
theorem canV_flat1 {s : Nat → Option Nat} (n : Nat) {v : Value} (hf : flat1 v = true) : canV s n v = v := by
  unfold flat1 at hf
  split at hf <;> first | (cases n <;> rfl) | cases hf
theorem canV_ok {p q : Ren} {s : Nat → Option Nat} (hs : ∀ id k r, s id = some k → p id = some r → q k = some { r with own := false }) : ∀ (n : Nat) {v v' : Value}, VR p v v' → VR q (canV s n v) v' := by
  intro n
  induction n with
  | zero =>
    intro v v' h
    cases h with
    | same hf => rw [canV_flat1 _ hf]; exact .same hf
    | ptr hr =>
      unfold canV
      split
      · rename_i k hk; exact .ptr (r := { (_ : Rb) with own := false }) (hs _ _ _ hk hr)
      · exact .junk
    | sl hr hn hc ho =>
      unfold canV
      split
      · rename_i k hk; exact .sl (r := { (_ : Rb) with own := false }) (hs _ _ _ hk hr) hn (fun h => absurd rfl h) (fun _ h => by cases h)
      · exact .junk
    | emp => exact .emp
    | any h1 => exact .any h1
    | junk => exact .junk
    | glob => exact .glob
    | agg => exact .junk
    | tup => exact .junk
    | fn => exact .junk
  | succ n ih =>
    intro v v' h
    cases h with
    | same hf => rw [canV_flat1 _ hf]; exact .same hf
    | ptr hr =>
      unfold canV
      split
      · rename_i k hk; exact .ptr (r := { (_ : Rb) with own := false }) (hs _ _ _ hk hr)
      · exact .junk
    | sl hr hn hc ho =>
      unfold canV
      split
      · rename_i k hk; exact .sl (r := { (_ : Rb) with own := false }) (hs _ _ _ hk hr) hn (fun h => absurd rfl h) (fun _ h => by cases h)
      · exact .junk
    | emp => exact .emp
    | any h1 => exact .any h1
    | junk => unfold canV; simp [canV]; exact .junk
    | glob => exact .glob
    | agg hz hv => unfold canV; exact .agg (by simpa using hz) fun i h1 h2 => by simpa using ih (hv i (by simpa using h1) h2)
    | tup hz hv => unfold canV; exact .tup (by simpa using hz) fun i h1 h2 => by simpa using ih (hv i (by simpa using h1) h2)
    | fn hz hv hz2 hv2 => unfold canV; exact .fn (by simpa using hz) (fun i h1 h2 => by simpa using ih (hv i (by simpa using h1) h2)) (by simpa using hz2) (fun i h1 h2 => by simpa using ih (hv2 i (by simpa using h1) h2))

/-- A call over the memory that its arguments name, to look at, that answers no address: all named blocks stay as they are. -/
theorem look_flat {callf : CallF} {p : Ren} {H : AH} {w : World} (hc : CallOk P callf) (hs : SR p H w) (hgl : Gl p H w) {g : FuncId} {args args' : Array Value} (ha : AR p args args') (ids : List Nat) (hfl : ownFlat ids H = true) {r : Value} {K : AH} (hg : g < 1000000) (hr : flat r = true)
    (h : callf g (args.map (canV (canTo ids) 4)) (ownH ids H) = some (r, K)) :
    Calls P g args' w fun e w' => e = .returned r ∧ St p H w p H w' := by
  let pc : Ren := fun k => match ids[k]? with
    | some i => (p i).map fun r => { r with own := false }
    | none => none
  have hto : ∀ id k r, canTo ids id = some k → p id = some r → pc k = some { r with own := false } := fun id k r h1 h2 => by
    simp only [pc, idx_get h1, h2, Option.map_some]
  have hgm : g % 1000000 = g := Nat.mod_eq_of_lt hg
  have hlen : (ownH ids H).length = ids.length := by simp [ownH]
  have hno : ∀ id (b : ABlk), (ownH ids H)[id]? = some (some b) → b.wr = false ∧ ∃ (i : Nat) (b0 : ABlk), ids[id]? = some i ∧ H[i]? = some (some b0) ∧ b = ⟨b0.cells, false, false, 0⟩ ∧ b0.cells.all flat1 = true := fun id b hb => by
    unfold ownH at hb
    rw [List.getElem?_map] at hb
    cases hi : ids[id]? with
    | none => rw [hi] at hb; cases hb
    | some i =>
      rw [hi] at hb
      simp only [Option.map_some, Option.some.injEq] at hb
      cases hH : H[i]? with
      | none => rw [hH] at hb; cases hb
      | some x =>
        rw [hH] at hb
        cases x with
        | none => cases hb
        | some b0 =>
          simp only [Option.join_some, Option.map_some, Option.some.injEq] at hb
          subst hb
          refine ⟨rfl, i, b0, hi, hH, rfl, ?_⟩
          have := andL_of hfl _ (List.mem_map_of_mem (f := fun i => bFlat (live H i)) (List.mem_of_getElem? hi))
          rw [show live H i = some b0 by unfold live; rw [hH]] at this
          exact this
  have hsr : SR pc (ownH ids H) w := by
    refine ⟨fun k r hk => ?_, fun k b hb => ?_, fun k k' b b' r r' hb _ hw => ?_⟩
    · rw [hlen]
      simp only [pc] at hk
      split at hk
      · rename_i i hi; exact (List.getElem?_eq_some_iff.1 hi).1
      · cases hk
    · obtain ⟨_, i, b0, hi, hH, rfl, hf⟩ := hno k b hb
      obtain ⟨r, hr, hbr⟩ := hs.blk i b0 hH
      refine ⟨{ r with own := false }, by simp only [pc, hi, hr, Option.map_some], ?_⟩
      refine ⟨hbr.lt, fun j v hv => ?_, fun h => (by cases h), fun h => (by cases h), rfl⟩
      obtain ⟨v', h1, h2⟩ := hbr.cell j v hv
      have hv1 : flat1 v = true := List.all_eq_true.1 hf v (List.mem_of_getElem? hv)
      rw [h2.flat1_eq hv1] at h1
      exact ⟨v, h1, .same hv1⟩
    · rw [(hno k b hb).1] at hw; cases hw
  have har : AR pc (args.map (canV (canTo ids) 4)) args' := ⟨by simpa using ha.1, fun i h1 h2 => by simpa using canV_ok hto 4 (ha.2 i (by simpa using h1) h2)⟩
  have hcall := hc g _ _ r K h pc args' w har hsr ⟨hgl.gl, fun id b r hb hw _ => by rw [(hno id b hb).1] at hw; cases hw⟩
  rw [hgm] at hcall
  refine hcall.mono ?_
  rintro e w' ⟨p2, v', rfl, hv, st⟩
  have nw : ∀ k, ¬ Wr pc (ownH ids H) k := fun k ⟨id, b, r, h1, h2, _⟩ => by rw [(hno id b h1).1] at h2; cases h2
  have hblk : ∀ k, k < w.heap.size → w'.heap[k]? = w.heap[k]? := fun k hk => st.block k hk (nw k)
  rw [hv.flat_eq hr]
  exact ⟨rfl, st.os, st.tape, st.output, st.size, fun k hk _ => hblk k hk, .refl _, fun _ _ => rfl, Nat.le_refl _,
    ⟨hs.dom, fun id b hb' => let ⟨r, hr, hbr⟩ := hs.blk id b hb'; ⟨r, hr, hbr.keep st.size (hblk _ hbr.lt)⟩, hs.inj⟩,
    fun id r hr hl => absurd (hs.dom id r hr) (by omega), fun _ _ h _ => h, fun _ b' _ h hb => ⟨b', h, hb⟩⟩

/-- An entry that looks at the memory that its arguments name: the function's text over this memory pays it. -/
theorem tab_mem (hm : P.follows .mixedOrders = true) (h : TabOk P l) (hlt : f < 1000000) {s : Array Value → AH → Option (Bool × Value)}
    (hs : ∀ args H v, s args H = some (true, v) → flat v = true ∧ ∃ o lt L, (∀ fn c, P.funcs[f]? = some fn → fn.body = some c → LOk P (tb P l) o.hints H.length c lt) ∧
      (vals (evFnT P (tb P l) (tbT P l) o lt L f args H)).res = some v) : TabOk P ((f, .mem s) :: l) := by
  intro g args H v H' hg p args' w ha hsr hgl
  unfold tb at hg
  split at hg
  · rename_i he
    subst he
    cases hq : askMem s args H with
    | none => rw [hq] at hg; cases hg
    | some x =>
      obtain ⟨b, u⟩ := x
      rw [hq] at hg
      simp only at hg
      split at hg
      · rename_i hb
        subst hb
        simp only [Option.some.injEq, Prod.mk.injEq] at hg
        obtain ⟨rfl, rfl⟩ := hg
        unfold askMem at hq
        split at hq
        · rename_i b v' hs1
          simp only [Option.some.injEq, Prod.mk.injEq, Bool.and_eq_true] at hq
          obtain ⟨⟨hfl, rfl⟩, rfl⟩ := hq
          obtain ⟨hfv, o, lt, L, h3, h4⟩ := hs _ _ _ hs1
          obtain ⟨K, h5⟩ := vals_res h4
          obtain ⟨m, h6⟩ := evFnT_res (tbT_ok l) (fun fn c h1 h2 => h3 fn c h1 h2) h5
          rw [Nat.mod_eq_of_lt hlt]
          refine (look_flat (evFn_ok hm h o.hints m) hsr hgl ha (argIds args) hfl hlt hfv h6).mono ?_
          rintro e w' ⟨rfl, st⟩
          exact ⟨p, v', rfl, flat_refl hfv, st⟩
        · cases hq
      · cases hg
  · exact h g args H v H' hg p args' w ha hsr hgl

/-- A call over the memory that its arguments name, to look at, that makes blocks without addresses. -/
theorem look_gen {callf : CallF} {p : Ren} {H : AH} {w : World} (hc : CallOk P callf) (hs : SR p H w) (hgl : Gl p H w) {g : FuncId} {args args' : Array Value} (ha : AR p args args') (ids : List Nat) (hfl : ownFlat ids H = true) {v0 r : Value} {K : AH} {bs : List ABlk} (hg : g < 1000000)
    (hbs : bs.all (fun b => b.cells.all flat1) = true)
    (h : callf g (args.map (canV (canTo ids) 4)) (ownH ids H) = some (v0, K)) (hgc : gcAt (ownH ids H).length (some [0]) #[v0] K = some (#[r], ownH ids H ++ bs.map some)) :
    Calls P g args' w fun e w' => ∃ p' v', e = .returned v' ∧ VR p' (renV (newTo ids H.length) 4 r) v' ∧ St p H w p' (H ++ bs.map some) w' := by
  let pc : Ren := fun k => match ids[k]? with
    | some i => (p i).map fun r => { r with own := false }
    | none => none
  have hto : ∀ id k r, canTo ids id = some k → p id = some r → pc k = some { r with own := false } := fun id k r h1 h2 => by
    simp only [pc, idx_get h1, h2, Option.map_some]
  have hgm : g % 1000000 = g := Nat.mod_eq_of_lt hg
  have hlen : (ownH ids H).length = ids.length := by simp [ownH]
  have hno : ∀ id (b : ABlk), (ownH ids H)[id]? = some (some b) → b.wr = false ∧ ∃ (i : Nat) (b0 : ABlk), ids[id]? = some i ∧ H[i]? = some (some b0) ∧ b = ⟨b0.cells, false, false, 0⟩ ∧ b0.cells.all flat1 = true := fun id b hb => by
    unfold ownH at hb
    rw [List.getElem?_map] at hb
    cases hi : ids[id]? with
    | none => rw [hi] at hb; cases hb
    | some i =>
      rw [hi] at hb
      simp only [Option.map_some, Option.some.injEq] at hb
      cases hH : H[i]? with
      | none => rw [hH] at hb; cases hb
      | some x =>
        rw [hH] at hb
        cases x with
        | none => cases hb
        | some b0 =>
          simp only [Option.join_some, Option.map_some, Option.some.injEq] at hb
          subst hb
          refine ⟨rfl, i, b0, hi, hH, rfl, ?_⟩
          have := andL_of hfl _ (List.mem_map_of_mem (f := fun i => bFlat (live H i)) (List.mem_of_getElem? hi))
          rw [show live H i = some b0 by unfold live; rw [hH]] at this
          exact this
  have hsr : SR pc (ownH ids H) w := by
    refine ⟨fun k r hk => ?_, fun k b hb => ?_, fun k k' b b' r r' hb _ hw => ?_⟩
    · rw [hlen]
      simp only [pc] at hk
      split at hk
      · rename_i i hi; exact (List.getElem?_eq_some_iff.1 hi).1
      · cases hk
    · obtain ⟨_, i, b0, hi, hH, rfl, hf⟩ := hno k b hb
      obtain ⟨r, hr, hbr⟩ := hs.blk i b0 hH
      refine ⟨{ r with own := false }, by simp only [pc, hi, hr, Option.map_some], ?_⟩
      refine ⟨hbr.lt, fun j v hv => ?_, fun h => (by cases h), fun h => (by cases h), rfl⟩
      obtain ⟨v', h1, h2⟩ := hbr.cell j v hv
      have hv1 : flat1 v = true := List.all_eq_true.1 hf v (List.mem_of_getElem? hv)
      rw [h2.flat1_eq hv1] at h1
      exact ⟨v, h1, .same hv1⟩
    · rw [(hno k b hb).1] at hw; cases hw
  have har : AR pc (args.map (canV (canTo ids) 4)) args' := ⟨by simpa using ha.1, fun i h1 h2 => by simpa using canV_ok hto 4 (ha.2 i (by simpa using h1) h2)⟩
  have hcall := hc g _ _ v0 K h pc args' w har hsr ⟨hgl.gl, fun id b r hb hw _ => by rw [(hno id b hb).1] at hw; cases hw⟩
  rw [hgm] at hcall
  refine hcall.mono ?_
  rintro e w' ⟨p1, v', rfl, hv, st1⟩
  obtain ⟨p2, har2, st⟩ := gcAt_ok hgc hsr (show AR p1 #[v0] #[v'] from ⟨rfl, fun i h1 h2 => by
    have : i = 0 := by simp at h1; exact h1
    subst this; exact hv⟩) st1
  have hv2 : VR p2 r v' := har2.2 0 (by simp) (by simp)
  have nw : ∀ k, ¬ Wr pc (ownH ids H) k := fun k ⟨id, b, r, h1, h2, _⟩ => by rw [(hno id b h1).1] at h2; cases h2
  have hblk : ∀ k, k < w.heap.size → w'.heap[k]? = w.heap[k]? := fun k hk => st.block k hk (nw k)
  let q : Ren := fun id => if id < H.length then p id else p2 (ids.length + (id - H.length))
  have qlow : ∀ id, id < H.length → q id = p id := fun id h1 => if_pos h1
  have qhi : ∀ id, H.length ≤ id → q id = p2 (ids.length + (id - H.length)) := fun id h1 => if_neg (by omega)
  have hnew : ∀ id k r, newTo ids H.length id = some k → p2 id = some r → q k = some r := fun id k r h1 h2 => by
    unfold newTo at h1
    split at h1
    · cases h1
    · rename_i hl
      have h1 := Option.some.inj h1
      rw [← h1, qhi _ (Nat.le_add_right _ _)]
      rw [show ids.length + (H.length + (id - ids.length) - H.length) = id by omega]; exact h2
  have eq0 : Ext p q := fun id r hr => by rw [qlow id (hs.dom id r hr)]; exact hr
  have hK : ∀ id (b : ABlk), (ownH ids H ++ bs.map some)[id]? = some (some b) → ids.length ≤ id → b ∈ bs := fun id b hb hl => by
    rw [List.getElem?_append_right (by rw [hlen]; exact hl), List.getElem?_map] at hb
    cases hx : bs[id - (ownH ids H).length]? with
    | none => rw [hx] at hb; cases hb
    | some y => rw [hx] at hb; simp only [Option.map_some, Option.some.injEq] at hb; subst hb; exact List.mem_of_getElem? hx
  have hget : ∀ id (b : ABlk), H.length ≤ id → (H ++ bs.map some)[id]? = some (some b) → (ownH ids H ++ bs.map some)[ids.length + (id - H.length)]? = some (some b) := fun id b hl hb => by
    rw [List.getElem?_append_right hl] at hb
    rw [List.getElem?_append_right (by rw [hlen]; omega), hlen, show ids.length + (id - H.length) - ids.length = id - H.length by omega]
    exact hb
  refine ⟨q, v', rfl, ren_ok hnew 4 hv2, st.os, st.tape, st.output, st.size, fun k hk _ => hblk k hk, eq0, qlow, by simp, ⟨fun id r hr => ?_, fun id b hb => ?_, fun id id' b b' r r' hb hb' hw hne hr hr' => ?_⟩,
    fun id r hr hl => .inl ?_, fun id b hb _ => ?_, fun id b hl hb hw => ⟨b, ?_, hw⟩⟩
  · by_cases hl : id < H.length
    · simp; omega
    · rw [qhi id (by omega)] at hr
      have := st.sr.dom _ r hr
      simp [hlen] at this ⊢; omega
  · by_cases hl : id < H.length
    · rw [List.getElem?_append_left hl] at hb
      obtain ⟨r, hr, hbr⟩ := hs.blk id b hb
      exact ⟨r, eq0 id r hr, (hbr.mono eq0).keep st.size (hblk _ hbr.lt)⟩
    · have hb2 := hget id b (by omega) hb
      obtain ⟨r, hr, hbr⟩ := st.sr.blk _ b hb2
      refine ⟨r, by rw [qhi id (by omega)]; exact hr, ⟨hbr.lt, fun k v hk => ?_, hbr.own, hbr.wr, hbr.same⟩⟩
      obtain ⟨v1, h1, h2⟩ := hbr.cell k v hk
      have hf : flat1 v = true := List.all_eq_true.1 (List.all_eq_true.1 hbs b (hK _ b hb2 (by omega))) v (List.mem_of_getElem? hk)
      rw [h2.flat1_eq hf] at h1
      exact ⟨v, h1, .same hf⟩
  · have hlt : ∀ id (b : ABlk) r, id < H.length → (H ++ bs.map some)[id]? = some (some b) → q id = some r → r.blk < w.heap.size := fun id b r hl hb hr => by
      rw [List.getElem?_append_left hl] at hb
      obtain ⟨r1, hr1, hbr⟩ := hs.blk id b hb
      rw [qlow id hl, hr1] at hr; injection hr with hr; subst hr; exact hbr.lt
    have hge : ∀ id r, H.length ≤ id → q id = some r → w.heap.size ≤ r.blk := fun id r hl hr => by
      rw [qhi id hl] at hr
      exact (st.fresh _ r hr (by rw [hlen]; omega)).resolve_right (nw _)
    by_cases hl : id < H.length <;> by_cases hl' : id' < H.length
    · rw [List.getElem?_append_left hl] at hb; rw [List.getElem?_append_left hl'] at hb'
      rw [qlow id hl] at hr; rw [qlow id' hl'] at hr'
      exact hs.inj id id' b b' r r' hb hb' hw hne hr hr'
    · have := hlt id b r hl hb hr; have := hge id' r' (by omega) hr'; omega
    · have := hlt id' b' r' hl' hb' hr'; have := hge id r (by omega) hr; omega
    · have hb2 := hget id b (by omega) hb
      have hb2' := hget id' b' (by omega) hb'
      rw [qhi id (by omega)] at hr; rw [qhi id' (by omega)] at hr'
      exact st.sr.inj _ _ b b' r r' hb2 hb2' hw (by omega) hr hr'
  · rw [qhi id hl] at hr
    exact (st.fresh _ r hr (by rw [hlen]; omega)).resolve_right (nw _)
  · rw [List.getElem?_append_left (List.getElem?_eq_some_iff.1 hb).1]; exact hb
  · rw [List.getElem?_append_left hl] at hb; exact hb

/-- An entry that looks at the memory that its arguments name and makes blocks: the function's text over this memory pays it. -/
theorem tab_gen (hm : P.follows .mixedOrders = true) (h : TabOk P l) (hlt : f < 1000000) {s : Array Value → AH → Tr (Value × List ABlk)}
    (hs : ∀ args H r bs, (s args H).res = some (r, bs) → bs.all (fun b => b.cells.all flat1) = true ∧ ∃ o lt L v0 K, (∀ fn c, P.funcs[f]? = some fn → fn.body = some c → LOk P (tb P l) o.hints H.length c lt) ∧
      (evFnT P (tb P l) (tbT P l) o lt L f args H).res = some (v0, K) ∧ gcAt H.length (some [0]) #[v0] K = some (#[r], H ++ bs.map some)) : TabOk P ((f, .gen s) :: l) := by
  intro g args H v H' hg p args' w ha hsr hgl
  unfold tb at hg
  split at hg
  · rename_i he
    subst he
    unfold genT at hg
    simp only [Tr.res] at hg
    split at hg
    · rename_i hfl
      rw [Tr.res_bind] at hg
      cases hq : (s (args.map (canV (canTo (argIds args)) 4)) (ownH (argIds args) H)).res with
      | none => rw [hq] at hg; cases hg
      | some x =>
        obtain ⟨r, bs⟩ := x
        rw [hq] at hg
        simp only [Option.bind_some, Tr.res, Option.some.injEq, Prod.mk.injEq] at hg
        obtain ⟨rfl, rfl⟩ := hg
        obtain ⟨hb, o, lt, L, v0, K, h3, h4, h5⟩ := hs _ _ _ _ hq
        obtain ⟨m, h6⟩ := evFnT_res (tbT_ok l) (fun fn c h1 h2 => h3 fn c h1 h2) h4
        rw [Nat.mod_eq_of_lt hlt]
        exact look_gen (evFn_ok hm h o.hints m) hsr hgl ha (argIds args) hfl hlt hb h6 h5
    · cases hg
  · exact h g args H v H' hg p args' w ha hsr hgl

/-- What a function's text answers over memory that it may only look at, its call answers. -/
theorem fn_calls_mem (hm : P.follows .mixedOrders = true) {callf : CallF} (hc : CallOk P callf) {hi : Hints} {L : Nat} {args args' : Array Value} {v : Value} {H H' : AH} {p : Ren} {w : World} (ha : AR p args args') (hs : SR p H w) (hst : still H = true) (hv : flat v = true)
    (h : evFn P callf hi L f args H = some (v, H')) (hgl : GlobOk w) : Calls P f args' w fun e w' => e = .returned v ∧ Below w.heap.size w w' := by
  have hall := evFn_ok hm hc hi L f args H v H' h p args' w ha hs ⟨hgl, fun id b r hb hw _ => by rw [still_wr hst hb] at hw; cases hw⟩
  rw [Nat.mod_eq_of_lt (evFn_lt h)] at hall
  refine hall.mono ?_
  rintro e w' ⟨p', v', rfl, hvr, st⟩
  rw [hvr.flat_eq hv]
  exact ⟨rfl, st.os, st.tape, st.output, st.size, fun k hk => st.block k hk fun ⟨id, b, r, hb, hw, _⟩ => by rw [still_wr hst hb] at hw; cases hw⟩

theorem fn_true (hm : P.follows .mixedOrders = true) (h : TabOk P l) {o : Opts} {L : Nat} {args : Array Value} (hf : args.toList.all flat = true)
    (hr : (vals (evFnT P (tb P l) (tbT P l) o noLoops L f args [])).res = some (.bool true)) (w : World) (hgl : GlobOk w) :
    Calls P f args w fun e w' => e = .returned (.bool true) ∧ Below w.heap.size w w' := by
  obtain ⟨H', h4⟩ := vals_res hr
  obtain ⟨m, h5⟩ := evFnT_res (tbT_ok l) (fun _ _ _ _ => LOk.none) h4
  exact fn_calls hm h hf rfl h5 w hgl
end
end Go.Proofs.YtfpcmckachpnpaaDoor.Vx
