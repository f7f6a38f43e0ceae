/- The answers of the functions of the package and of its reference, read off their texts. -/
import Derived.Test.YtgpcgcflmimnbaaT4
namespace Go.Proofs.Ytgpcgcflmimnbaa.Vx
open Go Go.RowKit Go.Proofs
set_option maxRecDepth 100000
set_option linter.unusedVariables false
set_option linter.unusedSimpArgs false
/-- Two boxes have nothing in common along an axis. -/
def apart (x0 x1 x2 x3 x4 x5 x6 x7 x8 x9 x10 x11 o : Int) : Bool := decide (imax (ref06_At_0 x0 x1 x2 o) (ref06_At_0 x6 x7 x8 o) ≥ imin (ref06_At_0 x3 x4 x5 o) (ref06_At_0 x9 x10 x11 o))
def m32_0 (x0 x1 x2 x3 x4 x5 x6 x7 x8 x9 x10 x11 : Int) : Bool := if apart x0 x1 x2 x3 x4 x5 x6 x7 x8 x9 x10 x11 2 then false else if apart x0 x1 x2 x3 x4 x5 x6 x7 x8 x9 x10 x11 1 then false else true
def m32_1 (x0 x1 x2 x3 x4 x5 x6 x7 x8 x9 x10 x11 : Int) : Bool := if apart x0 x1 x2 x3 x4 x5 x6 x7 x8 x9 x10 x11 2 then false else if apart x0 x1 x2 x3 x4 x5 x6 x7 x8 x9 x10 x11 0 then false else true
def m32_2 (x0 x1 x2 x3 x4 x5 x6 x7 x8 x9 x10 x11 : Int) : Bool := if apart x0 x1 x2 x3 x4 x5 x6 x7 x8 x9 x10 x11 1 then false else if apart x0 x1 x2 x3 x4 x5 x6 x7 x8 x9 x10 x11 0 then false else true
def e32 (k : Int) (u0 u1 u2 v0 v1 v2 : Int) : Bool := ref06_At_0 u0 u1 u2 k == ref06_At_0 v0 v1 v2 k
def ref06_Touch_0 (x0 x1 x2 x3 x4 x5 x6 x7 x8 x9 x10 x11 : Int) : Int :=
  let r2 := if m32_2 x0 x1 x2 x3 x4 x5 x6 x7 x8 x9 x10 x11 then (if e32 2 x6 x7 x8 x3 x4 x5 then 4 else if e32 2 x9 x10 x11 x0 x1 x2 then 5 else -1) else -1
  let r1 := if m32_1 x0 x1 x2 x3 x4 x5 x6 x7 x8 x9 x10 x11 then (if e32 1 x6 x7 x8 x3 x4 x5 then 2 else if e32 1 x9 x10 x11 x0 x1 x2 then 3 else r2) else r2
  if m32_0 x0 x1 x2 x3 x4 x5 x6 x7 x8 x9 x10 x11 then (if e32 0 x6 x7 x8 x3 x4 x5 then 0 else if e32 0 x9 x10 x11 x0 x1 x2 then 1 else r1) else r1
def ans32 : Ans := fun args => match args.toList with
  | [.agg c0, .agg c1] => match c0.toList, c1.toList with
    | [.int .i64 x0, .int .i64 x1, .int .i64 x2, .int .i64 x3, .int .i64 x4, .int .i64 x5], [.int .i64 x6, .int .i64 x7, .int .i64 x8, .int .i64 x9, .int .i64 x10, .int .i64 x11] => some (.int .i64 (ref06_Touch_0 x0 x1 x2 x3 x4 x5 x6 x7 x8 x9 x10 x11))
    | _, _ => none
  | _ => none
def tab23 : Tab := (32, .ans ans32) :: tab22
/-- What is left of a round. -/
def nxt (hi : Hints) (b : Code) (r : Exit × Array Value × AH) : Tr (Array Value × AH) := match r with
  | (.normal, t, H) => .leaf (gcAt 0 (hi.roots (headId b)) (forgetT (hi.forget (headId b)) t) H)
  | _ => .leaf none
theorem nxt_res {hi : Hints} {b : Code} {x : Tr (Exit × Array Value × AH)} {y : Array Value × AH} (h : (x.bind (nxt hi b)).res = some y) : ∃ t H, x.res = some (.normal, t, H) ∧ gcAt 0 (hi.roots (headId b)) (forgetT (hi.forget (headId b)) t) H = some y := by
  rw [Tr.res_bind] at h
  cases hx : x.res with
  | none => rw [hx] at h; cases h
  | some r =>
    rw [hx] at h
    obtain ⟨e, t, H⟩ := r
    cases e <;> first | (exact ⟨t, H, rfl, h⟩) | (cases h; done)
def o32 : Opts := ⟨[(38, 0), (50, 0), (64, 0)], [(6, [0, 1] ++ (List.range 61).map (· + 8))], []⟩
noncomputable def b32 : Code := (((Try.prog.funcs[32]?).bind (·.body)).bind (loopAt · 6)).getD .skip
def fix32 : List Value := [lost, lost, .pointer (some ⟨0, 0, none⟩), .pointer (some ⟨1, 0, none⟩), .int .i64 0]
def T32 (k o : Int) (m : Bool) : Array Value := (fix32 ++ ([Value.int .i64 k, Value.bool m, Value.int .i64 o] : List Value) ++ List.replicate 61 lost).toArray
def E32 (k : Int) (m : Bool) : Array Value := ((T32 k 3 m).setIfInBounds 12 (.int .i64 3)).setIfInBounds 13 (.bool false)
def M32 (x0 x1 x2 x3 x4 x5 x6 x7 x8 x9 x10 x11 : Int) : AH := [some ⟨[.int .i64 x0, .int .i64 x1, .int .i64 x2, .int .i64 x3, .int .i64 x4, .int .i64 x5], true, true, 0⟩, some ⟨[.int .i64 x6, .int .i64 x7, .int .i64 x8, .int .i64 x9, .int .i64 x10, .int .i64 x11], true, true, 0⟩]
theorem loops32 : loopsOf b32 = [] := by kernel_rfl
theorem head32 : headId b32 = 6 := by kernel_rfl
theorem body32_0_0 (m : Bool) (x0 x1 x2 x3 x4 x5 x6 x7 x8 x9 x10 x11 : Int) : (evCodeT Try.prog (tb Try.prog tab22) (tbT Try.prog tab22) o32 noLoops 0 200 b32 (T32 0 0 m) (M32 x0 x1 x2 x3 x4 x5 x6 x7 x8 x9 x10 x11)).bind (nxt o32.hints b32) = .leaf (some (T32 0 1 m, M32 x0 x1 x2 x3 x4 x5 x6 x7 x8 x9 x10 x11)) := by kernel_rfl
theorem body32_0_1 (m : Bool) (x0 x1 x2 x3 x4 x5 x6 x7 x8 x9 x10 x11 : Int) : (evCodeT Try.prog (tb Try.prog tab22) (tbT Try.prog tab22) o32 noLoops 0 200 b32 (T32 0 1 m) (M32 x0 x1 x2 x3 x4 x5 x6 x7 x8 x9 x10 x11)).bind (nxt o32.hints b32) = .node 38 (apart x0 x1 x2 x3 x4 x5 x6 x7 x8 x9 x10 x11 1) (.leaf (some (T32 0 2 false, M32 x0 x1 x2 x3 x4 x5 x6 x7 x8 x9 x10 x11))) (.leaf (some (T32 0 2 m, M32 x0 x1 x2 x3 x4 x5 x6 x7 x8 x9 x10 x11))) := by kernel_rfl
theorem body32_0_2 (m : Bool) (x0 x1 x2 x3 x4 x5 x6 x7 x8 x9 x10 x11 : Int) : (evCodeT Try.prog (tb Try.prog tab22) (tbT Try.prog tab22) o32 noLoops 0 200 b32 (T32 0 2 m) (M32 x0 x1 x2 x3 x4 x5 x6 x7 x8 x9 x10 x11)).bind (nxt o32.hints b32) = .node 38 (apart x0 x1 x2 x3 x4 x5 x6 x7 x8 x9 x10 x11 2) (.leaf (some (T32 0 3 false, M32 x0 x1 x2 x3 x4 x5 x6 x7 x8 x9 x10 x11))) (.leaf (some (T32 0 3 m, M32 x0 x1 x2 x3 x4 x5 x6 x7 x8 x9 x10 x11))) := by kernel_rfl
theorem out32_0 (m : Bool) (x0 x1 x2 x3 x4 x5 x6 x7 x8 x9 x10 x11 : Int) : evCodeT Try.prog (tb Try.prog tab22) (tbT Try.prog tab22) o32 noLoops 0 200 b32 (T32 0 3 m) (M32 x0 x1 x2 x3 x4 x5 x6 x7 x8 x9 x10 x11) = .leaf (some (.exit 2, E32 0 m, M32 x0 x1 x2 x3 x4 x5 x6 x7 x8 x9 x10 x11)) := by kernel_rfl
def step32_0 (x0 x1 x2 x3 x4 x5 x6 x7 x8 x9 x10 x11 : Int) (s : Nat × Bool) : Option ((Nat × Bool) ⊕ (Exit × Array Value × AH)) := match s with
  | (0, m) => some (.inl (1, m))
  | (1, m) => some (.inl (2, if apart x0 x1 x2 x3 x4 x5 x6 x7 x8 x9 x10 x11 1 then false else m))
  | (2, m) => some (.inl (3, if apart x0 x1 x2 x3 x4 x5 x6 x7 x8 x9 x10 x11 2 then false else m))
  | (3, m) => some (.inr (.exit 2, E32 0 m, M32 x0 x1 x2 x3 x4 x5 x6 x7 x8 x9 x10 x11))
  | _ => none
theorem round32_0 (x0 x1 x2 x3 x4 x5 x6 x7 x8 x9 x10 x11 : Int) : ∃ n, evRound Try.prog (tb Try.prog tab22) o32.hints 0 n b32 (T32 0 0 true) (M32 x0 x1 x2 x3 x4 x5 x6 x7 x8 x9 x10 x11) = some (.exit 2, E32 0 (m32_0 x0 x1 x2 x3 x4 x5 x6 x7 x8 x9 x10 x11), M32 x0 x1 x2 x3 x4 x5 x6 x7 x8 x9 x10 x11) := by
  have hit : iter (step32_0 x0 x1 x2 x3 x4 x5 x6 x7 x8 x9 x10 x11) 4 (0, true) = some (.exit 2, E32 0 (m32_0 x0 x1 x2 x3 x4 x5 x6 x7 x8 x9 x10 x11), M32 x0 x1 x2 x3 x4 x5 x6 x7 x8 x9 x10 x11) := by
    simp only [iter, step32_0, m32_0]
  refine loop_ok (fun s : Nat × Bool => T32 0 (s.1 : Int) s.2) (fun _ => M32 x0 x1 x2 x3 x4 x5 x6 x7 x8 x9 x10 x11) (step32_0 x0 x1 x2 x3 x4 x5 x6 x7 x8 x9 x10 x11) ?_ ?_ 4 (0, true) _ hit
  · have main : ∀ (o o' : Nat) (m m' : Bool), ((evCodeT Try.prog (tb Try.prog tab22) (tbT Try.prog tab22) o32 noLoops 0 200 b32 (T32 0 (o : Int) m) (M32 x0 x1 x2 x3 x4 x5 x6 x7 x8 x9 x10 x11)).bind (nxt o32.hints b32)).res = some (T32 0 (o' : Int) m', M32 x0 x1 x2 x3 x4 x5 x6 x7 x8 x9 x10 x11) → ∃ n t H, evCode Try.prog (tb Try.prog tab22) o32.hints 0 n b32 (T32 0 (o : Int) m) (M32 x0 x1 x2 x3 x4 x5 x6 x7 x8 x9 x10 x11) = some (.normal, t, H) ∧ gcAt 0 (o32.hints.roots (headId b32)) (forgetT (o32.hints.forget (headId b32)) t) H = some (T32 0 (o' : Int) m', M32 x0 x1 x2 x3 x4 x5 x6 x7 x8 x9 x10 x11) := fun o o' m m' h => by
      obtain ⟨t, H, h1, h2⟩ := nxt_res h
      obtain ⟨n, h3⟩ := evCodeT_res (tbT_ok tab22) (body := b32) LOk.none 200 b32 (fun b hb => by rw [loops32] at hb; cases hb) _ _ _ h1
      exact ⟨n, t, H, h3, h2⟩
    intro s s' h
    unfold step32_0 at h
    split at h <;> first | (simp only [Option.some.injEq, Sum.inl.injEq, reduceCtorEq] at h; done) | skip
    · rename_i m
      simp only [Option.some.injEq, Sum.inl.injEq] at h
      subst h
      refine main 0 1 m _ ?_
      rw [show ((0 : Nat) : Int) = 0 from rfl, body32_0_0]
      first | rfl | (simp only [Tr.res]; split <;> rfl)
    · rename_i m
      simp only [Option.some.injEq, Sum.inl.injEq] at h
      subst h
      refine main 1 2 m _ ?_
      rw [show ((1 : Nat) : Int) = 1 from rfl, body32_0_1]
      first | rfl | (simp only [Tr.res]; split <;> rfl)
    · rename_i m
      simp only [Option.some.injEq, Sum.inl.injEq] at h
      subst h
      refine main 2 3 m _ ?_
      rw [show ((2 : Nat) : Int) = 2 from rfl, body32_0_2]
      first | rfl | (simp only [Tr.res]; split <;> rfl)
  · intro s r h
    unfold step32_0 at h
    split at h <;> first | (simp only [Option.some.injEq, reduceCtorEq] at h; done) | skip
    rename_i m
    simp only [Option.some.injEq, Sum.inr.injEq] at h
    subst h
    refine ⟨by simp, ?_⟩
    exact evCodeT_res (tbT_ok tab22) (body := b32) LOk.none 200 b32 (fun b hb => by rw [loops32] at hb; cases hb) _ _ _ (by rw [show (((3 : Nat) : Int)) = 3 from rfl, out32_0]; rfl)
theorem body32_1_0 (m : Bool) (x0 x1 x2 x3 x4 x5 x6 x7 x8 x9 x10 x11 : Int) : (evCodeT Try.prog (tb Try.prog tab22) (tbT Try.prog tab22) o32 noLoops 0 200 b32 (T32 1 0 m) (M32 x0 x1 x2 x3 x4 x5 x6 x7 x8 x9 x10 x11)).bind (nxt o32.hints b32) = .node 38 (apart x0 x1 x2 x3 x4 x5 x6 x7 x8 x9 x10 x11 0) (.leaf (some (T32 1 1 false, M32 x0 x1 x2 x3 x4 x5 x6 x7 x8 x9 x10 x11))) (.leaf (some (T32 1 1 m, M32 x0 x1 x2 x3 x4 x5 x6 x7 x8 x9 x10 x11))) := by kernel_rfl
theorem body32_1_1 (m : Bool) (x0 x1 x2 x3 x4 x5 x6 x7 x8 x9 x10 x11 : Int) : (evCodeT Try.prog (tb Try.prog tab22) (tbT Try.prog tab22) o32 noLoops 0 200 b32 (T32 1 1 m) (M32 x0 x1 x2 x3 x4 x5 x6 x7 x8 x9 x10 x11)).bind (nxt o32.hints b32) = .leaf (some (T32 1 2 m, M32 x0 x1 x2 x3 x4 x5 x6 x7 x8 x9 x10 x11)) := by kernel_rfl
theorem body32_1_2 (m : Bool) (x0 x1 x2 x3 x4 x5 x6 x7 x8 x9 x10 x11 : Int) : (evCodeT Try.prog (tb Try.prog tab22) (tbT Try.prog tab22) o32 noLoops 0 200 b32 (T32 1 2 m) (M32 x0 x1 x2 x3 x4 x5 x6 x7 x8 x9 x10 x11)).bind (nxt o32.hints b32) = .node 38 (apart x0 x1 x2 x3 x4 x5 x6 x7 x8 x9 x10 x11 2) (.leaf (some (T32 1 3 false, M32 x0 x1 x2 x3 x4 x5 x6 x7 x8 x9 x10 x11))) (.leaf (some (T32 1 3 m, M32 x0 x1 x2 x3 x4 x5 x6 x7 x8 x9 x10 x11))) := by kernel_rfl
theorem out32_1 (m : Bool) (x0 x1 x2 x3 x4 x5 x6 x7 x8 x9 x10 x11 : Int) : evCodeT Try.prog (tb Try.prog tab22) (tbT Try.prog tab22) o32 noLoops 0 200 b32 (T32 1 3 m) (M32 x0 x1 x2 x3 x4 x5 x6 x7 x8 x9 x10 x11) = .leaf (some (.exit 2, E32 1 m, M32 x0 x1 x2 x3 x4 x5 x6 x7 x8 x9 x10 x11)) := by kernel_rfl
def step32_1 (x0 x1 x2 x3 x4 x5 x6 x7 x8 x9 x10 x11 : Int) (s : Nat × Bool) : Option ((Nat × Bool) ⊕ (Exit × Array Value × AH)) := match s with
  | (0, m) => some (.inl (1, if apart x0 x1 x2 x3 x4 x5 x6 x7 x8 x9 x10 x11 0 then false else m))
  | (1, m) => some (.inl (2, m))
  | (2, m) => some (.inl (3, if apart x0 x1 x2 x3 x4 x5 x6 x7 x8 x9 x10 x11 2 then false else m))
  | (3, m) => some (.inr (.exit 2, E32 1 m, M32 x0 x1 x2 x3 x4 x5 x6 x7 x8 x9 x10 x11))
  | _ => none
theorem round32_1 (x0 x1 x2 x3 x4 x5 x6 x7 x8 x9 x10 x11 : Int) : ∃ n, evRound Try.prog (tb Try.prog tab22) o32.hints 0 n b32 (T32 1 0 true) (M32 x0 x1 x2 x3 x4 x5 x6 x7 x8 x9 x10 x11) = some (.exit 2, E32 1 (m32_1 x0 x1 x2 x3 x4 x5 x6 x7 x8 x9 x10 x11), M32 x0 x1 x2 x3 x4 x5 x6 x7 x8 x9 x10 x11) := by
  have hit : iter (step32_1 x0 x1 x2 x3 x4 x5 x6 x7 x8 x9 x10 x11) 4 (0, true) = some (.exit 2, E32 1 (m32_1 x0 x1 x2 x3 x4 x5 x6 x7 x8 x9 x10 x11), M32 x0 x1 x2 x3 x4 x5 x6 x7 x8 x9 x10 x11) := by
    simp only [iter, step32_1, m32_1]
  refine loop_ok (fun s : Nat × Bool => T32 1 (s.1 : Int) s.2) (fun _ => M32 x0 x1 x2 x3 x4 x5 x6 x7 x8 x9 x10 x11) (step32_1 x0 x1 x2 x3 x4 x5 x6 x7 x8 x9 x10 x11) ?_ ?_ 4 (0, true) _ hit
  · have main : ∀ (o o' : Nat) (m m' : Bool), ((evCodeT Try.prog (tb Try.prog tab22) (tbT Try.prog tab22) o32 noLoops 0 200 b32 (T32 1 (o : Int) m) (M32 x0 x1 x2 x3 x4 x5 x6 x7 x8 x9 x10 x11)).bind (nxt o32.hints b32)).res = some (T32 1 (o' : Int) m', M32 x0 x1 x2 x3 x4 x5 x6 x7 x8 x9 x10 x11) → ∃ n t H, evCode Try.prog (tb Try.prog tab22) o32.hints 0 n b32 (T32 1 (o : Int) m) (M32 x0 x1 x2 x3 x4 x5 x6 x7 x8 x9 x10 x11) = some (.normal, t, H) ∧ gcAt 0 (o32.hints.roots (headId b32)) (forgetT (o32.hints.forget (headId b32)) t) H = some (T32 1 (o' : Int) m', M32 x0 x1 x2 x3 x4 x5 x6 x7 x8 x9 x10 x11) := fun o o' m m' h => by
      obtain ⟨t, H, h1, h2⟩ := nxt_res h
      obtain ⟨n, h3⟩ := evCodeT_res (tbT_ok tab22) (body := b32) LOk.none 200 b32 (fun b hb => by rw [loops32] at hb; cases hb) _ _ _ h1
      exact ⟨n, t, H, h3, h2⟩
    intro s s' h
    unfold step32_1 at h
    split at h <;> first | (simp only [Option.some.injEq, Sum.inl.injEq, reduceCtorEq] at h; done) | skip
    · rename_i m
      simp only [Option.some.injEq, Sum.inl.injEq] at h
      subst h
      refine main 0 1 m _ ?_
      rw [show ((0 : Nat) : Int) = 0 from rfl, body32_1_0]
      first | rfl | (simp only [Tr.res]; split <;> rfl)
    · rename_i m
      simp only [Option.some.injEq, Sum.inl.injEq] at h
      subst h
      refine main 1 2 m _ ?_
      rw [show ((1 : Nat) : Int) = 1 from rfl, body32_1_1]
      first | rfl | (simp only [Tr.res]; split <;> rfl)
    · rename_i m
      simp only [Option.some.injEq, Sum.inl.injEq] at h
      subst h
      refine main 2 3 m _ ?_
      rw [show ((2 : Nat) : Int) = 2 from rfl, body32_1_2]
      first | rfl | (simp only [Tr.res]; split <;> rfl)
  · intro s r h
    unfold step32_1 at h
    split at h <;> first | (simp only [Option.some.injEq, reduceCtorEq] at h; done) | skip
    rename_i m
    simp only [Option.some.injEq, Sum.inr.injEq] at h
    subst h
    refine ⟨by simp, ?_⟩
    exact evCodeT_res (tbT_ok tab22) (body := b32) LOk.none 200 b32 (fun b hb => by rw [loops32] at hb; cases hb) _ _ _ (by rw [show (((3 : Nat) : Int)) = 3 from rfl, out32_1]; rfl)
theorem body32_2_0 (m : Bool) (x0 x1 x2 x3 x4 x5 x6 x7 x8 x9 x10 x11 : Int) : (evCodeT Try.prog (tb Try.prog tab22) (tbT Try.prog tab22) o32 noLoops 0 200 b32 (T32 2 0 m) (M32 x0 x1 x2 x3 x4 x5 x6 x7 x8 x9 x10 x11)).bind (nxt o32.hints b32) = .node 38 (apart x0 x1 x2 x3 x4 x5 x6 x7 x8 x9 x10 x11 0) (.leaf (some (T32 2 1 false, M32 x0 x1 x2 x3 x4 x5 x6 x7 x8 x9 x10 x11))) (.leaf (some (T32 2 1 m, M32 x0 x1 x2 x3 x4 x5 x6 x7 x8 x9 x10 x11))) := by kernel_rfl
theorem body32_2_1 (m : Bool) (x0 x1 x2 x3 x4 x5 x6 x7 x8 x9 x10 x11 : Int) : (evCodeT Try.prog (tb Try.prog tab22) (tbT Try.prog tab22) o32 noLoops 0 200 b32 (T32 2 1 m) (M32 x0 x1 x2 x3 x4 x5 x6 x7 x8 x9 x10 x11)).bind (nxt o32.hints b32) = .node 38 (apart x0 x1 x2 x3 x4 x5 x6 x7 x8 x9 x10 x11 1) (.leaf (some (T32 2 2 false, M32 x0 x1 x2 x3 x4 x5 x6 x7 x8 x9 x10 x11))) (.leaf (some (T32 2 2 m, M32 x0 x1 x2 x3 x4 x5 x6 x7 x8 x9 x10 x11))) := by kernel_rfl
theorem body32_2_2 (m : Bool) (x0 x1 x2 x3 x4 x5 x6 x7 x8 x9 x10 x11 : Int) : (evCodeT Try.prog (tb Try.prog tab22) (tbT Try.prog tab22) o32 noLoops 0 200 b32 (T32 2 2 m) (M32 x0 x1 x2 x3 x4 x5 x6 x7 x8 x9 x10 x11)).bind (nxt o32.hints b32) = .leaf (some (T32 2 3 m, M32 x0 x1 x2 x3 x4 x5 x6 x7 x8 x9 x10 x11)) := by kernel_rfl
theorem out32_2 (m : Bool) (x0 x1 x2 x3 x4 x5 x6 x7 x8 x9 x10 x11 : Int) : evCodeT Try.prog (tb Try.prog tab22) (tbT Try.prog tab22) o32 noLoops 0 200 b32 (T32 2 3 m) (M32 x0 x1 x2 x3 x4 x5 x6 x7 x8 x9 x10 x11) = .leaf (some (.exit 2, E32 2 m, M32 x0 x1 x2 x3 x4 x5 x6 x7 x8 x9 x10 x11)) := by kernel_rfl
def step32_2 (x0 x1 x2 x3 x4 x5 x6 x7 x8 x9 x10 x11 : Int) (s : Nat × Bool) : Option ((Nat × Bool) ⊕ (Exit × Array Value × AH)) := match s with
  | (0, m) => some (.inl (1, if apart x0 x1 x2 x3 x4 x5 x6 x7 x8 x9 x10 x11 0 then false else m))
  | (1, m) => some (.inl (2, if apart x0 x1 x2 x3 x4 x5 x6 x7 x8 x9 x10 x11 1 then false else m))
  | (2, m) => some (.inl (3, m))
  | (3, m) => some (.inr (.exit 2, E32 2 m, M32 x0 x1 x2 x3 x4 x5 x6 x7 x8 x9 x10 x11))
  | _ => none
theorem round32_2 (x0 x1 x2 x3 x4 x5 x6 x7 x8 x9 x10 x11 : Int) : ∃ n, evRound Try.prog (tb Try.prog tab22) o32.hints 0 n b32 (T32 2 0 true) (M32 x0 x1 x2 x3 x4 x5 x6 x7 x8 x9 x10 x11) = some (.exit 2, E32 2 (m32_2 x0 x1 x2 x3 x4 x5 x6 x7 x8 x9 x10 x11), M32 x0 x1 x2 x3 x4 x5 x6 x7 x8 x9 x10 x11) := by
  have hit : iter (step32_2 x0 x1 x2 x3 x4 x5 x6 x7 x8 x9 x10 x11) 4 (0, true) = some (.exit 2, E32 2 (m32_2 x0 x1 x2 x3 x4 x5 x6 x7 x8 x9 x10 x11), M32 x0 x1 x2 x3 x4 x5 x6 x7 x8 x9 x10 x11) := by
    simp only [iter, step32_2, m32_2]
  refine loop_ok (fun s : Nat × Bool => T32 2 (s.1 : Int) s.2) (fun _ => M32 x0 x1 x2 x3 x4 x5 x6 x7 x8 x9 x10 x11) (step32_2 x0 x1 x2 x3 x4 x5 x6 x7 x8 x9 x10 x11) ?_ ?_ 4 (0, true) _ hit
  · have main : ∀ (o o' : Nat) (m m' : Bool), ((evCodeT Try.prog (tb Try.prog tab22) (tbT Try.prog tab22) o32 noLoops 0 200 b32 (T32 2 (o : Int) m) (M32 x0 x1 x2 x3 x4 x5 x6 x7 x8 x9 x10 x11)).bind (nxt o32.hints b32)).res = some (T32 2 (o' : Int) m', M32 x0 x1 x2 x3 x4 x5 x6 x7 x8 x9 x10 x11) → ∃ n t H, evCode Try.prog (tb Try.prog tab22) o32.hints 0 n b32 (T32 2 (o : Int) m) (M32 x0 x1 x2 x3 x4 x5 x6 x7 x8 x9 x10 x11) = some (.normal, t, H) ∧ gcAt 0 (o32.hints.roots (headId b32)) (forgetT (o32.hints.forget (headId b32)) t) H = some (T32 2 (o' : Int) m', M32 x0 x1 x2 x3 x4 x5 x6 x7 x8 x9 x10 x11) := fun o o' m m' h => by
      obtain ⟨t, H, h1, h2⟩ := nxt_res h
      obtain ⟨n, h3⟩ := evCodeT_res (tbT_ok tab22) (body := b32) LOk.none 200 b32 (fun b hb => by rw [loops32] at hb; cases hb) _ _ _ h1
      exact ⟨n, t, H, h3, h2⟩
    intro s s' h
    unfold step32_2 at h
    split at h <;> first | (simp only [Option.some.injEq, Sum.inl.injEq, reduceCtorEq] at h; done) | skip
    · rename_i m
      simp only [Option.some.injEq, Sum.inl.injEq] at h
      subst h
      refine main 0 1 m _ ?_
      rw [show ((0 : Nat) : Int) = 0 from rfl, body32_2_0]
      first | rfl | (simp only [Tr.res]; split <;> rfl)
    · rename_i m
      simp only [Option.some.injEq, Sum.inl.injEq] at h
      subst h
      refine main 1 2 m _ ?_
      rw [show ((1 : Nat) : Int) = 1 from rfl, body32_2_1]
      first | rfl | (simp only [Tr.res]; split <;> rfl)
    · rename_i m
      simp only [Option.some.injEq, Sum.inl.injEq] at h
      subst h
      refine main 2 3 m _ ?_
      rw [show ((2 : Nat) : Int) = 2 from rfl, body32_2_2]
      first | rfl | (simp only [Tr.res]; split <;> rfl)
  · intro s r h
    unfold step32_2 at h
    split at h <;> first | (simp only [Option.some.injEq, reduceCtorEq] at h; done) | skip
    rename_i m
    simp only [Option.some.injEq, Sum.inr.injEq] at h
    subst h
    refine ⟨by simp, ?_⟩
    exact evCodeT_res (tbT_ok tab22) (body := b32) LOk.none 200 b32 (fun b hb => by rw [loops32] at hb; cases hb) _ _ _ (by rw [show (((3 : Nat) : Int)) = 3 from rfl, out32_2]; rfl)
/-- What is known of the inner loop. -/
def known32 (t : Array Value) (H : AH) : Tr (Exit × Array Value × AH) :=
  match t.toList, H with
  | v0 :: v1 :: v2 :: v3 :: v4 :: .int .i64 k :: rest, [some ⟨[.int .i64 x0, .int .i64 x1, .int .i64 x2, .int .i64 x3, .int .i64 x4, .int .i64 x5], true, true, 0⟩, some ⟨[.int .i64 x6, .int .i64 x7, .int .i64 x8, .int .i64 x9, .int .i64 x10, .int .i64 x11], true, true, 0⟩] =>
    if veqL (veq 5) [v0, v1, v2, v3, v4] fix32 && veqL (veq 5) rest ([Value.bool true, Value.int .i64 0] ++ List.replicate 61 lost) then
      if k = 0 then .node 0 (m32_0 x0 x1 x2 x3 x4 x5 x6 x7 x8 x9 x10 x11) (.leaf (some (.exit 2, E32 0 true, M32 x0 x1 x2 x3 x4 x5 x6 x7 x8 x9 x10 x11))) (.leaf (some (.exit 2, E32 0 false, M32 x0 x1 x2 x3 x4 x5 x6 x7 x8 x9 x10 x11)))
      else if k = 1 then .node 0 (m32_1 x0 x1 x2 x3 x4 x5 x6 x7 x8 x9 x10 x11) (.leaf (some (.exit 2, E32 1 true, M32 x0 x1 x2 x3 x4 x5 x6 x7 x8 x9 x10 x11))) (.leaf (some (.exit 2, E32 1 false, M32 x0 x1 x2 x3 x4 x5 x6 x7 x8 x9 x10 x11)))
      else if k = 2 then .node 0 (m32_2 x0 x1 x2 x3 x4 x5 x6 x7 x8 x9 x10 x11) (.leaf (some (.exit 2, E32 2 true, M32 x0 x1 x2 x3 x4 x5 x6 x7 x8 x9 x10 x11))) (.leaf (some (.exit 2, E32 2 false, M32 x0 x1 x2 x3 x4 x5 x6 x7 x8 x9 x10 x11)))
      else .leaf none
    else .leaf none
  | _, _ => .leaf none
def lt32 : LoopT := fun id => if id = 6 then some known32 else none
theorem at32 {fn : Func} {c : Code} (hf : Try.prog.funcs[32]? = some fn) (hb : fn.body = some c) {b : Code} (h : loopAt c 6 = some b) : b = b32 := by
  unfold b32
  rw [hf]
  simp only [Option.bind_some, hb, h, Option.getD_some]
theorem known32_ok {t : Array Value} {H : AH} {r : Exit × Array Value × AH} (hr : (known32 t H).res = some r) : ∃ n, evRound Try.prog (tb Try.prog tab22) o32.hints 0 n b32 t H = some r := by
  unfold known32 at hr
  split at hr
  · rename_i v0 v1 v2 v3 v4 k rest x0 x1 x2 x3 x4 x5 x6 x7 x8 x9 x10 x11 ht
    split at hr
    · rename_i hv
      simp only [Bool.and_eq_true] at hv
      have h1 := veqL_eq (veq_eq 5) _ _ hv.1
      have h2 := veqL_eq (veq_eq 5) _ _ hv.2
      have htt : t = T32 k 0 true := by
        rw [← Array.toArray_toList (xs := t), ht]
        unfold T32
        rw [← h1, h2]
        rfl
      subst htt
      split at hr
      · rename_i hk; subst hk
        simp only [Tr.res] at hr
        obtain ⟨n, h⟩ := round32_0 x0 x1 x2 x3 x4 x5 x6 x7 x8 x9 x10 x11
        refine ⟨n, h.trans ?_⟩
        cases hm : m32_0 x0 x1 x2 x3 x4 x5 x6 x7 x8 x9 x10 x11 <;> rw [hm] at hr <;> simpa using hr
      · split at hr
        · rename_i hk; subst hk
          simp only [Tr.res] at hr
          obtain ⟨n, h⟩ := round32_1 x0 x1 x2 x3 x4 x5 x6 x7 x8 x9 x10 x11
          refine ⟨n, h.trans ?_⟩
          cases hm : m32_1 x0 x1 x2 x3 x4 x5 x6 x7 x8 x9 x10 x11 <;> rw [hm] at hr <;> simpa using hr
        · split at hr
          · rename_i hk; subst hk
            simp only [Tr.res] at hr
            obtain ⟨n, h⟩ := round32_2 x0 x1 x2 x3 x4 x5 x6 x7 x8 x9 x10 x11
            refine ⟨n, h.trans ?_⟩
            cases hm : m32_2 x0 x1 x2 x3 x4 x5 x6 x7 x8 x9 x10 x11 <;> rw [hm] at hr <;> simpa using hr
          · cases hr
    · cases hr
  · cases hr
theorem lok32 {fn : Func} {c : Code} (hf : Try.prog.funcs[32]? = some fn) (hb : fn.body = some c) : LOk Try.prog (tb Try.prog tab22) o32.hints 0 c lt32 := by
  intro id ans h b hl t H r hr
  unfold lt32 at h
  split at h
  · rename_i he
    subst he
    simp only [Option.some.injEq] at h
    subst h
    obtain rfl := at32 hf hb hl
    exact known32_ok hr
  · cases h
def tr32_2 (x0 x1 x2 x3 x4 x5 x6 x7 x8 x9 x10 x11 : Int) : Tr Value := .node 0 (m32_2 x0 x1 x2 x3 x4 x5 x6 x7 x8 x9 x10 x11) (.node 50 (e32 2 x6 x7 x8 x3 x4 x5) (.leaf (some (.int .i64 4))) (.node 64 (e32 2 x9 x10 x11 x0 x1 x2) (.leaf (some (.int .i64 5))) (.leaf (some (.int .i64 (-1)))))) (.leaf (some (.int .i64 (-1))))
def tr32_1 (x0 x1 x2 x3 x4 x5 x6 x7 x8 x9 x10 x11 : Int) : Tr Value := .node 0 (m32_1 x0 x1 x2 x3 x4 x5 x6 x7 x8 x9 x10 x11) (.node 50 (e32 1 x6 x7 x8 x3 x4 x5) (.leaf (some (.int .i64 2))) (.node 64 (e32 1 x9 x10 x11 x0 x1 x2) (.leaf (some (.int .i64 3))) (tr32_2 x0 x1 x2 x3 x4 x5 x6 x7 x8 x9 x10 x11))) (tr32_2 x0 x1 x2 x3 x4 x5 x6 x7 x8 x9 x10 x11)
def tree32 (x0 x1 x2 x3 x4 x5 x6 x7 x8 x9 x10 x11 : Int) : Tr Value := .node 0 (m32_0 x0 x1 x2 x3 x4 x5 x6 x7 x8 x9 x10 x11) (.node 50 (e32 0 x6 x7 x8 x3 x4 x5) (.leaf (some (.int .i64 0))) (.node 64 (e32 0 x9 x10 x11 x0 x1 x2) (.leaf (some (.int .i64 1))) (tr32_1 x0 x1 x2 x3 x4 x5 x6 x7 x8 x9 x10 x11))) (tr32_1 x0 x1 x2 x3 x4 x5 x6 x7 x8 x9 x10 x11)
theorem fn32 (x0 x1 x2 x3 x4 x5 x6 x7 x8 x9 x10 x11 : Int) : vals (evFnT Try.prog (tb Try.prog tab22) (tbT Try.prog tab22) o32 lt32 300 32 #[.agg #[.int .i64 x0, .int .i64 x1, .int .i64 x2, .int .i64 x3, .int .i64 x4, .int .i64 x5], .agg #[.int .i64 x6, .int .i64 x7, .int .i64 x8, .int .i64 x9, .int .i64 x10, .int .i64 x11]] []) = tree32 x0 x1 x2 x3 x4 x5 x6 x7 x8 x9 x10 x11 := by kernel_rfl
theorem tree32_res (x0 x1 x2 x3 x4 x5 x6 x7 x8 x9 x10 x11 : Int) : (tree32 x0 x1 x2 x3 x4 x5 x6 x7 x8 x9 x10 x11).res = some (.int .i64 (ref06_Touch_0 x0 x1 x2 x3 x4 x5 x6 x7 x8 x9 x10 x11)) := by
  unfold tree32 tr32_1 tr32_2 ref06_Touch_0
  simp only [Tr.res]
  generalize m32_0 x0 x1 x2 x3 x4 x5 x6 x7 x8 x9 x10 x11 = b0
  generalize m32_1 x0 x1 x2 x3 x4 x5 x6 x7 x8 x9 x10 x11 = b1
  generalize m32_2 x0 x1 x2 x3 x4 x5 x6 x7 x8 x9 x10 x11 = b2
  generalize e32 0 x6 x7 x8 x3 x4 x5 = c0
  generalize e32 0 x9 x10 x11 x0 x1 x2 = d0
  generalize e32 1 x6 x7 x8 x3 x4 x5 = c1
  generalize e32 1 x9 x10 x11 x0 x1 x2 = d1
  generalize e32 2 x6 x7 x8 x3 x4 x5 = c2
  generalize e32 2 x9 x10 x11 x0 x1 x2 = d2
  cases b0 <;> cases b1 <;> cases b2 <;> cases c0 <;> cases d0 <;> cases c1 <;> cases d1 <;> cases c2 <;> cases d2 <;> rfl
theorem tab23_ok : TabOk Try.prog tab23 := tab_loops mixed tab22_ok (by decide) fun args v h => by
  unfold ans32 at h
  split at h
  · rename_i c0 c1 h0
    split at h
    · rename_i x0 x1 x2 x3 x4 x5 x6 x7 x8 x9 x10 x11 h1 h2
      injection h with h; subst h
      obtain rfl : c0 = #[.int .i64 x0, .int .i64 x1, .int .i64 x2, .int .i64 x3, .int .i64 x4, .int .i64 x5] := by rw [← Array.toArray_toList (xs := c0), h1]
      obtain rfl : c1 = #[.int .i64 x6, .int .i64 x7, .int .i64 x8, .int .i64 x9, .int .i64 x10, .int .i64 x11] := by rw [← Array.toArray_toList (xs := c1), h2]
      obtain rfl : args = #[.agg #[.int .i64 x0, .int .i64 x1, .int .i64 x2, .int .i64 x3, .int .i64 x4, .int .i64 x5], .agg #[.int .i64 x6, .int .i64 x7, .int .i64 x8, .int .i64 x9, .int .i64 x10, .int .i64 x11]] := by rw [← Array.toArray_toList (xs := args), h0]
      exact ⟨rfl, rfl, o32, lt32, 300, fun _ _ hf hb => lok32 hf hb, by rw [fn32]; exact tree32_res _ _ _ _ _ _ _ _ _ _ _ _⟩
    · cases h
  · cases h
end Go.Proofs.Ytgpcgcflmimnbaa.Vx
