/- Functions by what they answer: a table of answers in the place of the functions that are called. -/
import Derived.Test.YtggfjilcdkkndaaDoorX16
namespace Go.Proofs.YtggfjilcdkkndaaDoor.Vx
open Go Go.RowKit

/-- The lesser and the greater of two numbers, as the model has them. -/
def imin (x y : Int) : Int := if y < x then y else x
def imax (x y : Int) : Int := if y > x then y else x
theorem imin_eq (x y : Int) : imin x y = min x y := by unfold imin; omega
theorem imax_eq (x y : Int) : imax x y = max x y := by unfold imax; omega

abbrev Ans := Array Value → Option Value
/-- An entry: what a function answers; or its text, gone through anew at each call, with the slots whose tests are left open; or what it answers where a test holds, and elsewhere nothing is known. -/
inductive Entry where
  | ans (s : Ans)
  | cond (s : Array Value → Option (Bool × Value))
  | inl (o : Opts) (L : Nat)
abbrev Tab := List (FuncId × Entry)
/-- What a function's text answers with fuel enough. -/
noncomputable def evFnAll (P : Program) (callf : CallF) (hi : Hints) : CallF := fun f args H =>
  open Classical in if h : ∃ r, ∃ L, evFn P callf hi L f args H = some r then some (Classical.choose h) else none
theorem evFnAll_of {P : Program} {callf : CallF} {hi : Hints} {L : Nat} {f : FuncId} {args : Array Value} {H : AH} {r : Value × AH} (h : evFn P callf hi L f args H = some r) : evFnAll P callf hi f args H = some r := by
  have hex : ∃ r, ∃ L, evFn P callf hi L f args H = some r := ⟨r, L, h⟩
  unfold evFnAll
  rw [dif_pos hex]
  obtain ⟨L', h'⟩ := Classical.choose_spec hex
  have h1 := evFn_mono h (Nat.le_max_left L L')
  have h2 := evFn_mono h' (Nat.le_max_right L L')
  rw [h1] at h2
  exact h2.symm
theorem evFnAll_ok {P : Program} {callf : CallF} (hm : P.follows .mixedOrders = true) (hc : CallOk P callf) (hi : Hints) : CallOk P (evFnAll P callf hi) := by
  intro f args H v H' h
  unfold evFnAll at h
  split at h
  · rename_i hex
    obtain ⟨L', h'⟩ := Classical.choose_spec hex
    rw [Option.some.inj h] at h'
    exact evFn_ok hm hc hi L' f args H v H' h'
  · cases h

noncomputable def tb (P : Program) : Tab → CallF
  | [], _, _, _ => none
  | (f, .ans s) :: l, g, args, H => if g = f then (s args).map fun v => (v, H) else tb P l g args H
  | (f, .cond s) :: l, g, args, H => if g = f then (match s args with
    | some (b, v) => if b then some (v, H) else none
    | none => none) else tb P l g args H
  | (f, .inl o _) :: l, g, args, H => if g = f then evFnAll P (tb P l) o.hints f args H else tb P l g args H
noncomputable def tbT (P : Program) : Tab → CallT
  | [], _, _, _ => .leaf none
  | (f, .ans s) :: l, g, args, H => if g = f then .leaf ((s args).map fun v => (v, H)) else tbT P l g args H
  | (f, .cond s) :: l, g, args, H => if g = f then (match s args with
    | some (b, v) => .node 0 b (.leaf (some (v, H))) (.leaf none)
    | none => .leaf none) else tbT P l g args H
  | (f, .inl o L) :: l, g, args, H => if g = f then evFnT P (tb P l) (tbT P l) o noLoops L f args H else tbT P l g args H

section
variable {P : Program} {l : Tab} {f : FuncId} {s : Ans}

theorem tbT_ok : ∀ (l : Tab), TOk (tbT P l) (tb P l) := by
  intro l
  induction l with
  | nil => intro g args H v h; cases h
  | cons x l ih =>
    obtain ⟨f, e⟩ := x
    intro g args H r h
    cases e with
    | ans s =>
      unfold tbT at h; unfold tb
      split at h
      · rename_i he; rw [if_pos he]; exact h
      · rename_i he; rw [if_neg he]; exact ih g args H r h
    | cond s =>
      unfold tbT at h; unfold tb
      split at h
      · rename_i he
        rw [if_pos he]
        cases hq : s args with
        | none => rw [hq] at h; cases h
        | some x =>
          obtain ⟨b, v⟩ := x
          rw [hq] at h
          simpa [Tr.res] using h
      · rename_i he; rw [if_neg he]; exact ih g args H r h
    | inl o L =>
      unfold tbT at h; unfold tb
      split at h
      · rename_i he; simp only [if_pos he]; obtain ⟨m, h1⟩ := evFnT_res ih (fun _ _ _ _ => LOk.none) h; exact evFnAll_of h1
      · rename_i he; simp only [if_neg he]; exact ih g args H r h

/-- The value of a way. -/
def vals (x : Tr (Value × AH)) : Tr Value := x.bind fun y => .leaf (some y.1)
theorem vals_res {x : Tr (Value × AH)} {v : Value} (h : (vals x).res = some v) : ∃ H', x.res = some (v, H') := by
  unfold vals at h
  rw [Tr.res_bind] at h
  cases hx : x.res with
  | none => rw [hx] at h; cases h
  | some y => rw [hx] at h; simp only [Option.bind_some, Tr.res, Option.some.injEq] at h; subst h; exact ⟨y.2, rfl⟩

/-- The table holds. -/
def TabOk (P : Program) (l : Tab) : Prop := CallOk P (tb P l)
theorem tab_nil : TabOk P [] := fun _ _ _ _ _ h => by cases h

/-- An entry that is gone through anew. -/
theorem tab_inl (hm : P.follows .mixedOrders = true) (h : TabOk P l) (f : FuncId) (o : Opts) (L : Nat) : TabOk P ((f, .inl o L) :: l) := by
  intro g args H v H' hg p args' w ha hsr hgl
  unfold tb at hg
  split at hg
  · rename_i he; subst he; exact evFnAll_ok hm h o.hints g args H v H' hg p args' w ha hsr hgl
  · exact h g args H v H' hg p args' w ha hsr hgl

/-- An entry that a contract pays. -/
theorem tab_put (h : TabOk P l) (hlt : f < 1000000)
    (hs : ∀ args v, s args = some v → args.toList.all flat = true ∧ flat v = true ∧ ∀ w, GlobOk w → Calls P f args w fun e w' => e = .returned v ∧ Below w.heap.size w w') : TabOk P ((f, .ans s) :: l) := by
  intro g args H v H' hg p args' w ha hsr hgl
  unfold tb at hg
  split at hg
  · rename_i he
    subst he
    cases hq : s args with
    | none => rw [hq] at hg; cases hg
    | some u =>
      rw [hq] at hg
      simp only [Option.map_some, Option.some.injEq, Prod.mk.injEq] at hg
      obtain ⟨rfl, rfl⟩ := hg
      obtain ⟨h1, h2, h3⟩ := hs args u hq
      have := flats_eq ha h1
      subst this
      rw [Nat.mod_eq_of_lt hlt]
      refine (h3 w hgl.gl).mono ?_
      rintro e w' ⟨rfl, hb⟩
      refine ⟨p, u, rfl, flat_refl h2, hb.os, hb.tape, hb.output, hb.size, fun k hk _ => hb.block k hk, .refl _, fun _ _ => rfl, Nat.le_refl _, ?_, fun id r hr hl => absurd (hsr.dom id r hr) (by omega), fun _ _ h _ => h, fun _ b' _ h hb => ⟨b', h, hb⟩⟩
      exact ⟨hsr.dom, fun id b hb' => let ⟨r, hr, hbr⟩ := hsr.blk id b hb'; ⟨r, hr, hbr.keep hb.size (hb.block _ hbr.lt)⟩, hsr.inj⟩
  · exact h g args H v H' hg p args' w ha hsr hgl

/-- What a function's text answers over no named block at all, its call answers. -/
theorem fn_calls (hm : P.follows .mixedOrders = true) {callf : CallF} (hc : CallOk P callf) {hi : Hints} {L : Nat} {args : Array Value} {v : Value} {H' : AH} (hf : args.toList.all flat = true) (hv : flat v = true)
    (h : evFn P callf hi L f args [] = some (v, H')) (w : World) (hgl : GlobOk w) : Calls P f args w fun e w' => e = .returned v ∧ Below w.heap.size w w' := by
  have hall := (evFn_ok hm hc hi L f args [] v H' h (fun _ => none) args w ⟨rfl, fun i h1 _ => flat_refl (List.all_eq_true.1 hf _ (by simp))⟩ (.empty w) (.empty hgl))
  rw [Nat.mod_eq_of_lt (evFn_lt h)] at hall
  refine hall.mono ?_
  rintro e w' ⟨p', v', rfl, hvr, st⟩
  rw [hvr.flat_eq hv]
  exact ⟨rfl, st.os, st.tape, st.output, st.size, fun k hk => st.block k hk fun ⟨id, b, r, hb, _⟩ => by simp at hb⟩

/-- An entry that the function's text pays, with what is known of its loops. -/
theorem tab_loops (hm : P.follows .mixedOrders = true) (h : TabOk P l) (hlt : f < 1000000)
    (hs : ∀ args v, s args = some v → args.toList.all flat = true ∧ flat v = true ∧ ∃ o lt L, (∀ fn c, P.funcs[f]? = some fn → fn.body = some c → LOk P (tb P l) o.hints 0 c lt) ∧
      (vals (evFnT P (tb P l) (tbT P l) o lt L f args [])).res = some v) : TabOk P ((f, .ans s) :: l) :=
  tab_put h hlt fun args v hv => by
    obtain ⟨h1, h2, o, lt, L, h3, h4⟩ := hs args v hv
    obtain ⟨H', h5⟩ := vals_res h4
    obtain ⟨m, h6⟩ := evFnT_res (tbT_ok l) h3 h5
    exact ⟨h1, h2, fun w hgl => fn_calls hm h h1 h2 h6 w hgl⟩

/-- An entry that holds where a test does. -/
theorem tab_cond (hm : P.follows .mixedOrders = true) (h : TabOk P l) (hlt : f < 1000000) {s : Array Value → Option (Bool × Value)}
    (hs : ∀ args b v, s args = some (b, v) → b = true → args.toList.all flat = true ∧ flat v = true ∧ ∃ o L, (vals (evFnT P (tb P l) (tbT P l) o noLoops L f args [])).res = some v) : TabOk P ((f, .cond s) :: l) := by
  have h0 : TabOk P ((f, .ans fun args => match s args with | some (b, v) => if b then some v else none | none => none) :: l) := tab_loops hm h hlt fun args v hv => by
    cases hq : s args with
    | none => simp only [hq] at hv; cases hv
    | some x =>
      obtain ⟨b, u⟩ := x
      simp only [hq] at hv
      split at hv
      · rename_i hb
        injection hv with hv; subst hv
        obtain ⟨h1, h2, o, L, h3⟩ := hs args b u hq hb
        exact ⟨h1, h2, o, noLoops, L, fun _ _ _ _ => LOk.none, h3⟩
      · cases hv
  intro g args H v H' hg
  refine h0 g args H v H' ?_
  unfold tb at hg ⊢
  split at hg
  · rename_i he
    rw [if_pos he]
    cases hq : s args with
    | none => rw [hq] at hg; cases hg
    | some x =>
      obtain ⟨b, u⟩ := x
      rw [hq] at hg
      simp only at hg ⊢
      split at hg
      · rename_i hb
        simp only [Option.some.injEq, Prod.mk.injEq] at hg
        obtain ⟨rfl, rfl⟩ := hg
        simp only [hq, hb, if_true, Option.map_some]
      · cases hg
  · rename_i he; rw [if_neg he]; exact hg

/-- An entry that holds where a test does, by a contract. -/
theorem tab_condput (h : TabOk P l) (hlt : f < 1000000) {s : Array Value → Option (Bool × Value)}
    (hs : ∀ args b v, s args = some (b, v) → b = true → args.toList.all flat = true ∧ flat v = true ∧ ∀ w, GlobOk w → Calls P f args w fun e w' => e = .returned v ∧ Below w.heap.size w w') : TabOk P ((f, .cond s) :: l) := by
  have h0 : TabOk P ((f, .ans fun args => match s args with | some (b, v) => if b then some v else none | none => none) :: l) := tab_put h hlt fun args v hv => by
    cases hq : s args with
    | none => simp only [hq] at hv; cases hv
    | some x =>
      obtain ⟨b, u⟩ := x
      simp only [hq] at hv
      split at hv
      · rename_i hb
        injection hv with hv; subst hv
        exact hs args b u hq hb
      · cases hv
  intro g args H v H' hg
  refine h0 g args H v H' ?_
  unfold tb at hg ⊢
  split at hg
  · rename_i he
    rw [if_pos he]
    cases hq : s args with
    | none => rw [hq] at hg; cases hg
    | some x =>
      obtain ⟨b, u⟩ := x
      rw [hq] at hg
      simp only at hg ⊢
      split at hg
      · rename_i hb
        simp only [Option.some.injEq, Prod.mk.injEq] at hg
        obtain ⟨rfl, rfl⟩ := hg
        simp only [hq, hb, if_true, Option.map_some]
      · cases hg
  · rename_i he; rw [if_neg he]; exact hg

/-- An entry that the table behind it pays. -/
theorem tab_over (h : TabOk P l) (hs : ∀ args v, s args = some v → ∀ H, tb P l f args H = some (v, H)) : TabOk P ((f, .ans s) :: l) := by
  intro g args H v H' hg
  refine h g args H v H' ?_
  unfold tb at hg
  split at hg
  · rename_i he
    subst he
    cases hq : s args with
    | none => rw [hq] at hg; cases hg
    | some u =>
      rw [hq] at hg
      simp only [Option.map_some, Option.some.injEq, Prod.mk.injEq] at hg
      obtain ⟨rfl, rfl⟩ := hg
      exact hs args u hq H
  · exact hg

/-- An entry that the function's text pays. -/
theorem tab_cons (hm : P.follows .mixedOrders = true) (h : TabOk P l) (hlt : f < 1000000)
    (hs : ∀ args v, s args = some v → args.toList.all flat = true ∧ flat v = true ∧ ∃ o L, (vals (evFnT P (tb P l) (tbT P l) o noLoops L f args [])).res = some v) : TabOk P ((f, .ans s) :: l) :=
  tab_loops hm h hlt fun args v hv => by
    obtain ⟨h1, h2, o, L, h3⟩ := hs args v hv
    exact ⟨h1, h2, o, noLoops, L, fun _ _ _ _ => LOk.none, h3⟩

theorem fn_true (hm : P.follows .mixedOrders = true) (h : TabOk P l) {o : Opts} {L : Nat} {args : Array Value} (hf : args.toList.all flat = true)
    (hr : (vals (evFnT P (tb P l) (tbT P l) o noLoops L f args [])).res = some (.bool true)) (w : World) (hgl : GlobOk w) :
    Calls P f args w fun e w' => e = .returned (.bool true) ∧ Below w.heap.size w w' := by
  obtain ⟨H', h4⟩ := vals_res hr
  obtain ⟨m, h5⟩ := evFnT_res (tbT_ok l) (fun _ _ _ _ => LOk.none) h4
  exact fn_calls hm h hf rfl h5 w hgl
end
end Go.Proofs.YtggfjilcdkkndaaDoor.Vx
