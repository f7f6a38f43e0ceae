/- The answers of the reference's long division. -/
import Derived.Test.YtfpcmckachpnpaaDoorD3
import Derived.IntWalk
namespace Go.Proofs.YtfpcmckachpnpaaDoor.Vx
open Go Go.RowKit Go.Proofs
set_option maxRecDepth 100000
set_option linter.unusedVariables false
set_option linter.unusedSimpArgs false
def euclidW : Nat → Nat → Bool → Nat → Bool → Nat × Bool × Bool
  | 0, X, xn, _, yn => (X, xn, yn)
  | k + 1, X, xn, Y, yn => if Y = 0 then (X, xn, yn) else euclidW k Y yn (X % Y) false
def ans64 : Array Value → Option (Bool × Value) := fun args => match args.toList with
  | [.agg c0, .agg c1] => match c0.toList, c1.toList with
    | [.int .u64 xh, .int .u64 xl, .bool _], [.int .u64 yh, .int .u64 yl, .bool _] => some (inU xh && (inU xl && (inU yh && inU yl)), wideV ((Nat.gcd (w128 xh xl).toNat (w128 yh yl).toNat : Nat) : Int) false)
    | _, _ => none
  | _ => none
def tab36 : Tab := (64, .cond ans64) :: tab35
theorem euclidW_gcd : ∀ (k X : Nat) (xn : Bool) (Y : Nat) (yn : Bool), Y < k → (euclidW k X xn Y yn).1 = Nat.gcd X Y := by
  intro k
  induction k with
  | zero => intro X xn Y yn h; omega
  | succ k ih =>
    intro X xn Y yn h
    unfold euclidW
    by_cases hY : Y = 0
    · subst hY; rw [if_pos rfl, Nat.gcd_zero_right]
    · rw [if_neg hY, ih _ _ _ _ (by have := Nat.mod_lt X (show Y > 0 by omega); omega), Nat.gcd_comm X Y, Nat.gcd_rec Y X, Nat.gcd_comm]
def o64 : Opts := ⟨[(9, 0)], [(1, [0, 1] ++ (List.range 18).map (· + 5))], [(1, [2, 3, 4])]⟩
noncomputable def b64 : Code := (((Tryd.prog.funcs[64]?).bind (·.body)).bind (loopAt · 1)).getD .skip
def T64 : Array Value := ([lost, lost, .pointer (some ⟨0, 0, none⟩), .pointer (some ⟨1, 0, none⟩), .pointer (some ⟨2, 0, none⟩)] ++ List.replicate 18 lost).toArray
def E64 (yn : Bool) : Array Value := ((T64.setIfInBounds 7 (.agg #[.int .u64 0, .int .u64 0, .bool yn])).setIfInBounds 8 (.bool true)).setIfInBounds 9 (.bool false)
def M64 (xh xl : Int) (xn : Bool) (yh yl : Int) (yn : Bool) : AH := [bk xh xl xn, bk yh yl yn, bk 0 0 false]
def zeroB (h l : Int) : Bool := bif h == 0 then l == 0 else false
theorem loops64 : loopsOf b64 = [] := by kernel_rfl
theorem body64 (xh xl : Int) (xn : Bool) (yh yl : Int) (yn : Bool) :
    (evCodeT Tryd.prog (tb Tryd.prog tab35) (tbT Tryd.prog tab35) o64 noLoops 0 200 b64 T64 (M64 xh xl xn yh yl yn)).bind (nxt o64.hints b64) =
    .node 9 (!zeroB yh yl) (.node 0 (ok65 xh xl yh yl) (.leaf (some (T64, M64 yh yl yn (w128 xh xl % w128 yh yl / 18446744073709551616) (w128 xh xl % w128 yh yl % 18446744073709551616) false))) (.leaf none)) (.leaf none) := by kernel_rfl
theorem out64 (xh xl : Int) (xn yn : Bool) :
    (evCodeT Tryd.prog (tb Tryd.prog tab35) (tbT Tryd.prog tab35) o64 noLoops 0 200 b64 T64 (M64 xh xl xn 0 0 yn)).res = some (.exit 0, E64 yn, M64 xh xl xn 0 0 yn) := by kernel_rfl
def S64 (s : Nat × Bool × Nat × Bool) : AH := M64 ((s.1 : Int) / 18446744073709551616) ((s.1 : Int) % 18446744073709551616) s.2.1 ((s.2.2.1 : Int) / 18446744073709551616) ((s.2.2.1 : Int) % 18446744073709551616) s.2.2.2
def X64 (r : Nat × Bool × Bool) : Exit × Array Value × AH := (.exit 0, E64 r.2.2, M64 ((r.1 : Int) / 18446744073709551616) ((r.1 : Int) % 18446744073709551616) r.2.1 0 0 r.2.2)
def sm (n : Nat) : Bool := decide ((n : Int) < 340282366920938463463374607431768211456)
theorem sm_lt {n : Nat} (h : sm n = true) : (n : Int) < 340282366920938463463374607431768211456 := of_decide_eq_true h
theorem sm_of {n : Nat} (h : (n : Int) < 340282366920938463463374607431768211456) : sm n = true := decide_eq_true h
theorem sm_le {n m : Nat} (h : sm n = true) (hm : m ≤ n) : sm m = true := sm_of (by have := sm_lt h; omega)
def step64 (s : Nat × Bool × Nat × Bool) : Option ((Nat × Bool × Nat × Bool) ⊕ (Exit × Array Value × AH)) :=
  if sm s.1 = true ∧ sm s.2.2.1 = true then
    if s.2.2.1 = 0 then some (.inr (X64 (s.1, s.2.1, s.2.2.2))) else some (.inl (s.2.2.1, s.2.2.2, s.1 % s.2.2.1, false))
  else none
theorem step64_out (X : Nat) (xn : Bool) (Y : Nat) (yn : Bool) (hX : sm X = true) (hY : sm Y = true) (h : Y = 0) : step64 (X, xn, Y, yn) = some (.inr (X64 (X, xn, yn))) := by
  unfold step64
  rw [if_pos ⟨hX, hY⟩, if_pos h]
theorem step64_in (X : Nat) (xn : Bool) (Y : Nat) (yn : Bool) (hX : sm X = true) (hY : sm Y = true) (h : ¬ Y = 0) : step64 (X, xn, Y, yn) = some (.inl (Y, yn, X % Y, false)) := by
  unfold step64
  rw [if_pos ⟨hX, hY⟩, if_neg h]
theorem iter_in {S R : Type} {step : S → Option (S ⊕ R)} {k : Nat} {s s' : S} (h : step s = some (.inl s')) : iter step (k + 1) s = iter step k s' := by
  conv => lhs; unfold iter
  rw [h]
theorem iter_out {S R : Type} {step : S → Option (S ⊕ R)} {k : Nat} {s : S} {r : R} (h : step s = some (.inr r)) : iter step (k + 1) s = some r := by
  unfold iter; rw [h]
theorem euclidW_zero (k X : Nat) (xn : Bool) (yn : Bool) : euclidW (k + 1) X xn 0 yn = (X, xn, yn) := rfl
theorem euclidW_succ (k X : Nat) (xn : Bool) (Y : Nat) (yn : Bool) (h : ¬ Y = 0) : euclidW (k + 1) X xn Y yn = euclidW k Y yn (X % Y) false := if_neg h
theorem iter64 : ∀ (k X : Nat) (xn : Bool) (Y : Nat) (yn : Bool), Y < k → sm X = true → sm Y = true → iter step64 k (X, xn, Y, yn) = some (X64 (euclidW k X xn Y yn)) := by
  intro k
  induction k with
  | zero => intro X xn Y yn h; exact absurd h (Nat.not_lt_zero _)
  | succ k ih =>
    intro X xn Y yn h hX hY
    by_cases h0 : Y = 0
    · rw [iter_out (step64_out X xn Y yn hX hY h0), h0, euclidW_zero]
    · rw [iter_in (step64_in X xn Y yn hX hY h0), euclidW_succ _ _ _ _ _ h0]
      have h1 := Nat.mod_lt X (Nat.pos_of_ne_zero h0)
      exact ih Y yn (X % Y) false (Nat.lt_of_lt_of_le h1 (Nat.le_of_lt_succ h)) hY (sm_le hY (Nat.le_of_lt h1))
theorem round64 (X : Nat) (xn : Bool) (Y : Nat) (yn : Bool) (hX : (X : Int) < 340282366920938463463374607431768211456) (hY : (Y : Int) < 340282366920938463463374607431768211456) :
    ∃ n, evRound Tryd.prog (tb Tryd.prog tab35) o64.hints 0 n b64 T64 (S64 (X, xn, Y, yn)) = some (X64 (euclidW (Y + 1) X xn Y yn)) := by
  refine loop_ok (fun _ => T64) S64 step64 ?_ ?_ (Y + 1) (X, xn, Y, yn) _ (iter64 _ X xn Y yn (by omega) (sm_of hX) (sm_of hY))
  · rintro ⟨X, xn, Y, yn⟩ s' h
    unfold step64 at h
    split at h
    · rename_i hb
      obtain ⟨hX, hY⟩ := hb
      have hX := sm_lt hX
      have hY := sm_lt hY
      simp only at hX hY h
      split at h
      · cases h
      · rename_i h0
        simp only [Option.some.injEq, Sum.inl.injEq] at h
        subst h
        have e1 : w128 ((X : Int) / 18446744073709551616) ((X : Int) % 18446744073709551616) = X := by unfold w128; omega
        have e2 : w128 ((Y : Int) / 18446744073709551616) ((Y : Int) % 18446744073709551616) = Y := by unfold w128; omega
        have z : zeroB ((Y : Int) / 18446744073709551616) ((Y : Int) % 18446744073709551616) = false := by
          unfold zeroB
          by_cases h1 : (Y : Int) / 18446744073709551616 = 0
          · rw [h1, beq_self_eq_true, cond_true, beq_eq_false_iff_ne]; omega
          · rw [beq_eq_false_iff_ne.2 h1, cond_false]
        have k : ok65 ((X : Int) / 18446744073709551616) ((X : Int) % 18446744073709551616) ((Y : Int) / 18446744073709551616) ((Y : Int) % 18446744073709551616) = true := by
          unfold ok65
          rw [inU_of (by omega) (by omega), inU_of (by omega) (by omega), inU_of (by omega) (by omega), inU_of (by omega) (by omega), e2, decide_eq_true (by omega)]; rfl
        have hr : ((evCodeT Tryd.prog (tb Tryd.prog tab35) (tbT Tryd.prog tab35) o64 noLoops 0 200 b64 T64 (S64 (X, xn, Y, yn))).bind (nxt o64.hints b64)).res = some (T64, S64 (Y, yn, X % Y, false)) := by
          unfold S64
          rw [body64, z, k, e1, e2]
          simp only [Tr.res, Bool.not_false, if_true]
          rw [Int.natCast_emod]
        obtain ⟨t, M, h2, h3⟩ := nxt_res hr
        obtain ⟨m, h4⟩ := evCodeT_res (tbT_ok tab35) (body := b64) LOk.none 200 b64 (fun b hb => by rw [loops64] at hb; cases hb) _ _ _ h2
        exact ⟨m, t, M, h4, h3⟩
    · cases h
  · rintro ⟨X, xn, Y, yn⟩ r h
    unfold step64 at h
    split at h
    · simp only at h
      split at h
      · rename_i h0
        simp only [Option.some.injEq, Sum.inr.injEq] at h
        subst h h0
        refine ⟨by simp [X64], ?_⟩
        have hz : S64 (X, xn, 0, yn) = M64 ((X : Int) / 18446744073709551616) ((X : Int) % 18446744073709551616) xn 0 0 yn := by
          unfold S64
          rw [show (((0 : Nat) : Int) / 18446744073709551616) = 0 by omega, show (((0 : Nat) : Int) % 18446744073709551616) = 0 by omega]
        rw [hz]
        exact evCodeT_res (tbT_ok tab35) (body := b64) LOk.none 200 b64 (fun b hb => by rw [loops64] at hb; cases hb) _ _ _ (out64 ((X : Int) / 18446744073709551616) ((X : Int) % 18446744073709551616) xn yn)
      · cases h
    · cases h
def ok64 (xh xl yh yl : Int) : Bool := inU xh && (inU xl && (inU yh && inU yl))
def eu64 (xh xl : Int) (xn : Bool) (yh yl : Int) (yn : Bool) : Nat × Bool × Bool := euclidW ((w128 yh yl).toNat + 1) (w128 xh xl).toNat xn (w128 yh yl).toNat yn
def known64 (t : Array Value) (H : AH) : Tr (Exit × Array Value × AH) :=
  match H with
  | [some ⟨[.int .u64 xh, .int .u64 xl, .bool xn], true, true, 0⟩, some ⟨[.int .u64 yh, .int .u64 yl, .bool yn], true, true, 0⟩, some ⟨[.int .u64 z0, .int .u64 z1, .bool z2], true, true, 0⟩] =>
    if veqL (veq 5) t.toList T64.toList && veqL (veq 5) [.int .u64 z0, .int .u64 z1, .bool z2] [.int .u64 0, .int .u64 0, .bool false] then
      .node 0 (ok64 xh xl yh yl) (.leaf (some (.exit 0, E64 (eu64 xh xl xn yh yl yn).2.2, M64 (((eu64 xh xl xn yh yl yn).1 : Int) / 18446744073709551616) (((eu64 xh xl xn yh yl yn).1 : Int) % 18446744073709551616) (eu64 xh xl xn yh yl yn).2.1 0 0 (eu64 xh xl xn yh yl yn).2.2))) (.leaf none)
    else .leaf none
  | _ => .leaf none
def lt64 : LoopT := fun id => if id = 1 then some known64 else none
theorem at64 {fn : Func} {c : Code} (hf : Tryd.prog.funcs[64]? = some fn) (hb : fn.body = some c) {b : Code} (h : loopAt c 1 = some b) : b = b64 := by
  unfold b64
  rw [hf]
  simp only [Option.bind_some, hb, h, Option.getD_some]
theorem known64_ok {t : Array Value} {M : AH} {r : Exit × Array Value × AH} (hr : (known64 t M).res = some r) : ∃ n, evRound Tryd.prog (tb Tryd.prog tab35) o64.hints 0 n b64 t M = some r := by
  unfold known64 at hr
  split at hr
  · rename_i xh xl xn yh yl yn z0 z1 z2
    split at hr
    · rename_i hv
      simp only [Bool.and_eq_true] at hv
      have h1 := veqL_eq (veq_eq 5) _ _ hv.1
      have h2 := veqL_eq (veq_eq 5) _ _ hv.2
      obtain rfl : t = T64 := by rw [← Array.toArray_toList (xs := t), h1, Array.toArray_toList]
      simp only [List.cons.injEq, Value.int.injEq, Value.bool.injEq, true_and, and_true] at h2
      obtain ⟨rfl, rfl, rfl⟩ := h2
      simp only [Tr.res] at hr
      split at hr
      · rename_i hk
        injection hr with hr; subst hr
        unfold ok64 at hk
        simp only [inU, Bool.and_eq_true, decide_eq_true_eq] at hk
        obtain ⟨⟨a1, a2⟩, ⟨b1, b2⟩, ⟨c1, c2⟩, d1, d2⟩ := hk
        obtain ⟨X, eX⟩ : ∃ X : Nat, (X : Int) = w128 xh xl := ⟨(w128 xh xl).toNat, by unfold w128; omega⟩
        obtain ⟨Y, eY⟩ : ∃ Y : Nat, (Y : Int) = w128 yh yl := ⟨(w128 yh yl).toNat, by unfold w128; omega⟩
        have f1 : (X : Int) / 18446744073709551616 = xh := by rw [eX]; unfold w128; omega
        have f2 : (X : Int) % 18446744073709551616 = xl := by rw [eX]; unfold w128; omega
        have f3 : (Y : Int) / 18446744073709551616 = yh := by rw [eY]; unfold w128; omega
        have f4 : (Y : Int) % 18446744073709551616 = yl := by rw [eY]; unfold w128; omega
        have hX : (X : Int) < 340282366920938463463374607431768211456 := by rw [eX]; unfold w128; omega
        have hY : (Y : Int) < 340282366920938463463374607431768211456 := by rw [eY]; unfold w128; omega
        obtain ⟨n, h⟩ := round64 X xn Y yn hX hY
        unfold S64 at h
        simp only [f1, f2, f3, f4] at h
        refine ⟨n, h.trans ?_⟩
        unfold eu64 X64
        rw [← eX, ← eY, Int.toNat_natCast, Int.toNat_natCast]
      · cases hr
    · cases hr
  · cases hr
theorem lok64 {fn : Func} {c : Code} (hf : Tryd.prog.funcs[64]? = some fn) (hb : fn.body = some c) : LOk Tryd.prog (tb Tryd.prog tab35) o64.hints 0 c lt64 := by
  intro id ans h b hl t H r hr
  unfold lt64 at h
  split at h
  · rename_i he
    subst he
    simp only [Option.some.injEq] at h
    subst h
    obtain rfl := at64 hf hb hl
    exact known64_ok hr
  · cases h
theorem fn64 (xh xl : Int) (xn : Bool) (yh yl : Int) (yn : Bool) : vals (evFnT Tryd.prog (tb Tryd.prog tab35) (tbT Tryd.prog tab35) o64 lt64 300 64 #[.agg #[.int .u64 xh, .int .u64 xl, .bool xn], .agg #[.int .u64 yh, .int .u64 yl, .bool yn]] []) =
    .node 0 (ok64 xh xl yh yl) (.leaf (some (wideV ((eu64 xh xl xn yh yl yn).1 : Int) false))) (.leaf none) := by kernel_rfl
theorem tab36_ok : TabOk Tryd.prog tab36 := tab_condloops mixed tab35_ok (by decide) fun args b v h hb => by
  unfold ans64 at h
  split at h
  · rename_i c0 c1 h0
    split at h
    · rename_i xh xl xn yh yl yn h1 h2
      injection h with h; injection h with h1' h2'; subst h1' h2'
      obtain rfl : c0 = #[.int .u64 xh, .int .u64 xl, .bool xn] := by rw [← Array.toArray_toList (xs := c0), h1]
      obtain rfl : c1 = #[.int .u64 yh, .int .u64 yl, .bool yn] := by rw [← Array.toArray_toList (xs := c1), h2]
      obtain rfl : args = #[.agg #[.int .u64 xh, .int .u64 xl, .bool xn], .agg #[.int .u64 yh, .int .u64 yl, .bool yn]] := by rw [← Array.toArray_toList (xs := args), h0]
      refine ⟨rfl, rfl, o64, lt64, 300, fun _ _ hf hb => lok64 hf hb, ?_⟩
      rw [fn64]
      simp only [Tr.res]
      rw [if_pos (show ok64 xh xl yh yl = true from hb)]
      unfold eu64
      rw [euclidW_gcd _ _ _ _ _ (Nat.lt_succ_self _)]
    · cases h
  · cases h
end Go.Proofs.YtfpcmckachpnpaaDoor.Vx
