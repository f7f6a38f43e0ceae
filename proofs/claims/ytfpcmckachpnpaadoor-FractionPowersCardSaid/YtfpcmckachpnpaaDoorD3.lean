/- The answers of the reference's long division. -/
import Derived.Test.YtfpcmckachpnpaaDoorD2
import Derived.IntWalk
namespace Go.Proofs.YtfpcmckachpnpaaDoor.Vx
open Go Go.RowKit Go.Proofs
set_option maxRecDepth 100000
set_option linter.unusedVariables false
set_option linter.unusedSimpArgs false
def ans65 : Array Value → Option (Bool × Value) := fun args => match args.toList with
  | [.agg c0, .agg c1] => match c0.toList, c1.toList with
    | [.int .u64 xh, .int .u64 xl, .bool _], [.int .u64 yh, .int .u64 yl, .bool _] => some (inU xh && (inU xl && (inU yh && (inU yl && decide (w128 yh yl > 0)))), .tuple #[wideV (w128 xh xl / w128 yh yl) false, wideV (w128 xh xl % w128 yh yl) false])
    | _, _ => none
  | _ => none
def tab35 : Tab := (65, .cond ans65) :: tab34
/-- What is left of a round. -/
def nxt (hi : Hints) (b : Code) (r : Exit × Array Value × AH) : Tr (Array Value × AH) := match r with
  | (.normal, t, H) => .leaf (gcAt 0 (hi.roots (headId b)) (forgetT (hi.forget (headId b)) t) H)
  | _ => .leaf none
theorem nxt_res {hi : Hints} {b : Code} {x : Tr (Exit × Array Value × AH)} {y : Array Value × AH} (h : (x.bind (nxt hi b)).res = some y) : ∃ t H, x.res = some (.normal, t, H) ∧ gcAt 0 (hi.roots (headId b)) (forgetT (hi.forget (headId b)) t) H = some y := by
  rw [Tr.res_bind] at h
  cases hx : x.res with
  | none => rw [hx] at h; cases h
  | some r =>
    rw [hx] at h
    obtain ⟨e, t, H⟩ := r
    cases e <;> first | (exact ⟨t, H, rfl, h⟩) | (cases h; done)
def orU (a b : Int) : Int := IntKind.u64.wrap ↑(BitVec.ofInt IntKind.u64.bits a ||| BitVec.ofInt IntKind.u64.bits b).toNat
def shl1 (a : Int) : Int := IntKind.u64.wrap (a * 2 ^ Min.min 1 IntKind.u64.bits)
def up (h l : Int) : Int := orU (shl1 h) (l.fdiv (2 ^ Min.min 63 IntKind.u64.bits))
def o65 : Opts := ⟨[(44, 0)], [(3, [0, 1] ++ (List.range 49).map (· + 9))], []⟩
noncomputable def b65 : Code := (((Tryd.prog.funcs[65]?).bind (·.body)).bind (loopAt · 3)).getD .skip
def T65 (i : Int) : Array Value := ([lost, lost, .pointer (some ⟨0, 0, none⟩), .pointer (some ⟨1, 0, none⟩), .pointer (some ⟨2, 0, none⟩), .pointer (some ⟨3, 0, none⟩), .pointer (some ⟨4, 0, none⟩), .pointer (some ⟨5, 0, none⟩), .int .i64 i] ++ List.replicate 49 lost).toArray
def E65 : Array Value := ((T65 (-1)).setIfInBounds 11 (.int .i64 (-1))).setIfInBounds 12 (.bool false)
def bk (h l : Int) (n : Bool) : Option ABlk := some ⟨[.int .u64 h, .int .u64 l, .bool n], true, true, 0⟩
def M65 (xh xl : Int) (xn : Bool) (yh yl : Int) (yn : Bool) (qh ql rh rl : Int) : AH := [bk xh xl xn, bk yh yl yn, bk 0 0 false, bk 0 0 false, bk qh ql false, bk rh rl false]
theorem loops65 : loopsOf b65 = [] := by kernel_rfl
theorem head65 : headId b65 = 3 := by kernel_rfl
theorem body65 (k : Nat) (xh xl : Int) (xn : Bool) (yh yl : Int) (yn : Bool) (qh ql rh rl : Int) :
    (evCodeT Tryd.prog (tb Tryd.prog tab34) (tbT Tryd.prog tab34) o65 noLoops 0 200 b65 (T65 (Int.ofNat k)) (M65 xh xl xn yh yl yn qh ql rh rl)).bind (nxt o65.hints b65) =
    .node 0 (decide (0 ≤ Int.ofNat k) && decide (Int.ofNat k < 128))
      (.node 44 (!aboveB yh yl (up rh rl) (orU (shl1 rl) (bitI xh xl (Int.ofNat k))))
        (.node 0 (inU (up rh rl) && (inU (orU (shl1 rl) (bitI xh xl (Int.ofNat k))) && (inU yh && (inU yl && !aboveB yh yl (up rh rl) (orU (shl1 rl) (bitI xh xl (Int.ofNat k)))))))
          (.leaf (some (T65 (IntKind.i64.wrap (Int.ofNat k - 1)), M65 xh xl xn yh yl yn (up qh ql) (orU (shl1 ql) 1) ((w128 (up rh rl) (orU (shl1 rl) (bitI xh xl (Int.ofNat k))) - w128 yh yl) / 18446744073709551616) ((w128 (up rh rl) (orU (shl1 rl) (bitI xh xl (Int.ofNat k))) - w128 yh yl) % 18446744073709551616))))
          (.leaf none))
        (.leaf (some (T65 (IntKind.i64.wrap (Int.ofNat k - 1)), M65 xh xl xn yh yl yn (up qh ql) (shl1 ql) (up rh rl) (orU (shl1 rl) (bitI xh xl (Int.ofNat k)))))))
      (.leaf none) := by kernel_rfl
theorem out65 (xh xl : Int) (xn : Bool) (yh yl : Int) (yn : Bool) (qh ql rh rl : Int) :
    evCodeT Tryd.prog (tb Tryd.prog tab34) (tbT Tryd.prog tab34) o65 noLoops 0 200 b65 (T65 (-1)) (M65 xh xl xn yh yl yn qh ql rh rl) = .leaf (some (.exit 0, E65, M65 xh xl xn yh yl yn qh ql rh rl)) := by kernel_rfl
theorem or_even (a b : Int) (ha : 0 ≤ a) (ha2 : a < 18446744073709551616) (he : a % 2 = 0) (hb : 0 ≤ b) (hb2 : b < 2) : orU a b = a + b := by
  obtain ⟨A, rfl⟩ := Int.eq_ofNat_of_zero_le ha
  obtain ⟨B, rfl⟩ := Int.eq_ofNat_of_zero_le hb
  obtain ⟨C, rfl⟩ : ∃ C, A = 2 * C := ⟨A / 2, by omega⟩
  have h1 : (BitVec.ofInt IntKind.u64.bits ((2 * C : Nat) : Int)).toNat = 2 * C := by
    rw [BitVec.toNat_ofInt, show (2 ^ IntKind.u64.bits : Nat) = 18446744073709551616 from rfl]; omega
  have h2 : (BitVec.ofInt IntKind.u64.bits ((B : Nat) : Int)).toNat = B := by
    rw [BitVec.toNat_ofInt, show (2 ^ IntKind.u64.bits : Nat) = 18446744073709551616 from rfl]; omega
  unfold orU
  rw [IntKind.wrap_u64, BitVec.toNat_or, h1, h2]
  have h3 := Nat.two_pow_add_eq_or_of_lt (i := 1) (b := B) (by omega) C
  rw [Nat.pow_one] at h3
  rw [← h3]
  omega
theorem shl1_eq (a : Int) : shl1 a = (2 * a) % 18446744073709551616 := by
  unfold shl1
  rw [IntKind.wrap_u64, show (2 ^ Min.min 1 IntKind.u64.bits : Int) = 2 from rfl, Int.mul_comm]
theorem fdiv63 (l : Int) : l.fdiv (2 ^ Min.min 63 IntKind.u64.bits) = l / 9223372036854775808 := by
  rw [show (2 ^ Min.min 63 IntKind.u64.bits : Int) = 9223372036854775808 from rfl, Int.fdiv_eq_ediv_of_nonneg _ (by decide)]
theorem up_eq (h l : Int) (hl : 0 ≤ l) (hl2 : l < 18446744073709551616) : up h l = (2 * h) % 18446744073709551616 + l / 9223372036854775808 := by
  unfold up
  rw [fdiv63, shl1_eq, or_even _ _ (by omega) (by omega) (by omega) (by omega) (by omega)]
theorem low_eq (l b : Int) (hb : 0 ≤ b) (hb2 : b < 2) : orU (shl1 l) b = (2 * l) % 18446744073709551616 + b := by
  rw [shl1_eq, or_even _ _ (by omega) (by omega) (by omega) (by omega) (by omega)]
/-- Twice a number, and a bit. -/
theorem twice (v b : Int) (hv : 0 ≤ v) (hv2 : 2 * v + b < 340282366920938463463374607431768211456) (hb : 0 ≤ b) (hb2 : b < 2) :
    up (v / 18446744073709551616) (v % 18446744073709551616) = (2 * v + b) / 18446744073709551616 ∧ orU (shl1 (v % 18446744073709551616)) b = (2 * v + b) % 18446744073709551616 := by
  rw [up_eq _ _ (by omega) (by omega), low_eq _ _ hb hb2]
  constructor <;> omega
theorem twice0 (v : Int) (hv : 0 ≤ v) (hv2 : 2 * v < 340282366920938463463374607431768211456) : shl1 (v % 18446744073709551616) = (2 * v) % 18446744073709551616 := by
  rw [shl1_eq]; omega
theorem and_one (a : Nat) : IntKind.u64.wrap ↑(BitVec.ofInt IntKind.u64.bits (a : Int) &&& BitVec.ofInt IntKind.u64.bits 1).toNat = ((a % 2 : Nat) : Int) := by
  have h1 : (BitVec.ofInt IntKind.u64.bits (a : Int)).toNat = a % 18446744073709551616 := by
    rw [BitVec.toNat_ofInt, show (2 ^ IntKind.u64.bits : Nat) = 18446744073709551616 from rfl]; omega
  have h2 : (BitVec.ofInt IntKind.u64.bits 1).toNat = 1 := rfl
  rw [IntKind.wrap_u64, BitVec.toNat_and, h1, h2, Nat.and_one_is_mod]
  omega
theorem bit_eq (H L k : Nat) (hL : L < 18446744073709551616) (hk : k < 128) : bitI (H : Int) (L : Int) (Int.ofNat k) = (((H * 18446744073709551616 + L) / 2 ^ k % 2 : Nat) : Int) := by
  unfold bitI
  simp only [Int.ofNat_eq_natCast]
  by_cases h : (64 : Int) ≤ (k : Int)
  · rw [if_pos h]
    have e : ((k : Int) - 64).toNat = k - 64 := by omega
    have m : Min.min (k - 64) IntKind.u64.bits = k - 64 := Nat.min_eq_left (show k - 64 ≤ 64 by omega)
    rw [e, m, Int.fdiv_eq_ediv_of_nonneg _ (Int.pow_nonneg (by decide))]
    rw [show ((H : Int) / 2 ^ (k - 64)) = ((H / 2 ^ (k - 64) : Nat) : Int) by simp, and_one]
    rw [show 2 ^ k = 18446744073709551616 * 2 ^ (k - 64) by rw [show (18446744073709551616 : Nat) = 2 ^ 64 from rfl, ← Nat.pow_add]; congr 1; omega, ← Nat.div_div_eq_div_mul]
    rw [show (H * 18446744073709551616 + L) / 18446744073709551616 = H by omega]
  · rw [if_neg h]
    have m : Min.min ((k : Int).toNat) IntKind.u64.bits = k := Nat.min_eq_left (show k ≤ 64 by omega)
    rw [m, Int.fdiv_eq_ediv_of_nonneg _ (Int.pow_nonneg (by decide))]
    rw [show ((L : Int) / 2 ^ k) = ((L / 2 ^ k : Nat) : Int) by simp, and_one]
    obtain ⟨d, hd⟩ : ∃ d, 64 = k + (d + 1) := ⟨63 - k, by omega⟩
    rw [show (18446744073709551616 : Nat) = 2 ^ k * 2 ^ (d + 1) by rw [← Nat.pow_add, ← hd], show H * (2 ^ k * 2 ^ (d + 1)) + L = L + 2 ^ k * (H * 2 ^ (d + 1)) by rw [Nat.add_comm, Nat.mul_left_comm], Nat.add_mul_div_left _ _ (Nat.two_pow_pos k)]
    rw [Nat.pow_succ, ← Nat.mul_assoc, Nat.add_mul_mod_self_right]
theorem div_step (Z Y B : Nat) (hY : 0 < Y) (hB : B < 2) :
    (2 * Z + B) / Y = 2 * (Z / Y) + (if 2 * (Z % Y) + B < Y then 0 else 1) ∧ (2 * Z + B) % Y = if 2 * (Z % Y) + B < Y then 2 * (Z % Y) + B else 2 * (Z % Y) + B - Y := by
  have h1 := Nat.div_add_mod Z Y
  have h2 := Nat.mod_lt Z hY
  refine (Nat.div_mod_unique hY).2 ?_
  generalize Z / Y = q at *
  generalize Z % Y = r at *
  subst h1
  split
  · refine ⟨?_, by omega⟩
    simp only [Nat.mul_add, Nat.mul_left_comm Y 2, Nat.mul_zero]; omega
  · refine ⟨?_, by omega⟩
    simp only [Nat.mul_add, Nat.mul_left_comm Y 2, Nat.mul_one]; omega
theorem wid65 {x : Int} (h : -9223372036854775808 ≤ x ∧ x ≤ 9223372036854775807) : IntKind.i64.wrap x = x := IntWalk.i64_in x (by omega)
theorem above_eq (yh yl v : Int) (h1 : 0 ≤ yl) (h2 : yl < 18446744073709551616) : aboveB yh yl (v / 18446744073709551616) (v % 18446744073709551616) = decide (w128 yh yl > v) := by
  unfold aboveB w128
  by_cases a : yh > v / 18446744073709551616
  · rw [decide_eq_true a, cond_true, eq_comm, decide_eq_true_eq]; omega
  · rw [decide_eq_false a, cond_false]
    by_cases b : yh = v / 18446744073709551616
    · have c : (yh == v / 18446744073709551616) = true := by rw [b]; exact beq_self_eq_true _
      rw [c, cond_true]
      by_cases d : yl > v % 18446744073709551616
      · rw [decide_eq_true d, eq_comm, decide_eq_true_eq]; omega
      · rw [decide_eq_false d, eq_comm, decide_eq_false_iff_not]; omega
    · have c : (yh == v / 18446744073709551616) = false := by rw [beq_eq_false_iff_ne]; exact b
      rw [c, cond_false, eq_comm, decide_eq_false_iff_not]; omega
def qN (X Y n : Nat) : Nat := X / 2 ^ n / Y
def rN (X Y n : Nat) : Nat := X / 2 ^ n % Y
def S65 (xn yn : Bool) (H L YH YL : Nat) (q r : Nat) : AH := M65 (H : Int) (L : Int) xn (YH : Int) (YL : Int) yn ((q : Int) / 18446744073709551616) ((q : Int) % 18446744073709551616) ((r : Int) / 18446744073709551616) ((r : Int) % 18446744073709551616)
theorem inU_of {x : Int} (h1 : 0 ≤ x) (h2 : x < 18446744073709551616) : inU x = true := by
  unfold inU; rw [decide_eq_true h1, decide_eq_true h2]; rfl
theorem round_step (xn yn : Bool) (H L YH YL k : Nat) (hH : H < 18446744073709551616) (hL : L < 18446744073709551616) (hYH : YH < 18446744073709551616) (hYL : YL < 18446744073709551616) (X Y : Nat) (eX : X = H * 18446744073709551616 + L) (eY : Y = YH * 18446744073709551616 + YL) (hY : 0 < Y) (hk : k < 128) :
    ((evCodeT Tryd.prog (tb Tryd.prog tab34) (tbT Tryd.prog tab34) o65 noLoops 0 200 b65 (T65 (Int.ofNat k)) (S65 xn yn H L YH YL (qN X Y (k + 1)) (rN X Y (k + 1)))).bind (nxt o65.hints b65)).res =
      some (T65 ((k : Int) - 1), S65 xn yn H L YH YL (qN X Y k) (rN X Y k)) := by
  have hbit := bit_eq H L k hL hk
  rw [← eX] at hbit
  have hw : IntKind.i64.wrap (Int.ofNat k - 1) = (k : Int) - 1 := wid65 (by simp only [Int.ofNat_eq_natCast]; omega)
  have hYw : w128 (YH : Int) (YL : Int) = (Y : Int) := by unfold w128; omega
  have hX : (X : Int) < 340282366920938463463374607431768211456 := by omega
  have hY2 : (Y : Int) < 340282366920938463463374607431768211456 := by omega
  unfold S65
  rw [body65, hbit, hw]
  have hab := fun v : Int => above_eq (YH : Int) (YL : Int) v (by omega) (by omega)
  rw [hYw] at hab ⊢
  clear eX eY
  have hZ : X / 2 ^ (k + 1) = X / 2 ^ k / 2 := by rw [Nat.pow_succ, Nat.div_div_eq_div_mul]
  have hZX : X / 2 ^ k ≤ X := Nat.div_le_self _ _
  unfold qN rN
  rw [hZ]
  generalize X / 2 ^ k = W at *
  obtain ⟨d1, d2⟩ := div_step (W / 2) Y (W % 2) hY (by omega)
  rw [show 2 * (W / 2) + W % 2 = W by omega] at d1 d2
  rw [d1, d2]
  have hq : W / 2 / Y ≤ W / 2 := Nat.div_le_self _ _
  have hr : W / 2 % Y < Y := Nat.mod_lt _ hY
  have hr2 : W / 2 % Y ≤ W / 2 := Nat.mod_le _ _
  generalize W / 2 / Y = q at *
  generalize W / 2 % Y = r at *
  have hB : W % 2 < 2 := by omega
  have hBW : W % 2 + 2 * (W / 2) = W := by omega
  generalize W % 2 = B at *
  generalize W / 2 = V at *
  obtain ⟨u1, u2⟩ := twice (r : Int) (B : Int) (by omega) (by omega) (by omega) (by omega)
  obtain ⟨v1, v2⟩ := twice (q : Int) (0 : Int) (by omega) (by omega) (by omega) (by omega)
  obtain ⟨_, w2⟩ := twice (q : Int) (1 : Int) (by omega) (by omega) (by omega) (by omega)
  have v3 := twice0 (q : Int) (by omega) (by omega)
  rw [u1, u2, v1, w2, v3, hab]
  have t0 : (decide (0 ≤ Int.ofNat k) && decide (Int.ofNat k < 128)) = true := by
    rw [decide_eq_true (by simp only [Int.ofNat_eq_natCast]; omega), decide_eq_true (by simp only [Int.ofNat_eq_natCast]; omega)]; rfl
  have i1 : inU ((2 * (r : Int) + (B : Int)) / 18446744073709551616) = true := inU_of (by omega) (by omega)
  have i2 : inU ((2 * (r : Int) + (B : Int)) % 18446744073709551616) = true := inU_of (by omega) (by omega)
  have i3 : inU (YH : Int) = true := inU_of (by omega) (by omega)
  have i4 : inU (YL : Int) = true := inU_of (by omega) (by omega)
  have back : w128 ((2 * (r : Int) + (B : Int)) / 18446744073709551616) ((2 * (r : Int) + (B : Int)) % 18446744073709551616) = 2 * (r : Int) + (B : Int) := by unfold w128; omega
  rw [t0, i1, i2, i3, i4, back]
  by_cases hc : 2 * r + B < Y
  · rw [if_pos hc, if_pos hc, decide_eq_true (show ((Y : Nat) : Int) > 2 * (r : Int) + (B : Int) by omega)]
    simp only [Tr.res, Bool.not_true, Bool.false_eq_true, if_true, if_false]
    rw [show ((2 * q + 0 : Nat) : Int) = 2 * (q : Int) + 0 by omega, show ((2 * r + B : Nat) : Int) = 2 * (r : Int) + (B : Int) by omega, show (2 * (q : Int) + 0) % 18446744073709551616 = 2 * (q : Int) % 18446744073709551616 by omega]
  · rw [if_neg hc, if_neg hc, decide_eq_false (show ¬ ((Y : Nat) : Int) > 2 * (r : Int) + (B : Int) by omega)]
    simp only [Tr.res, Bool.not_false, Bool.and_self, if_true]
    rw [show ((2 * q + 1 : Nat) : Int) = 2 * (q : Int) + 1 by omega, show ((2 * r + B - Y : Nat) : Int) = 2 * (r : Int) + (B : Int) - (Y : Int) by omega, show (2 * (q : Int) + 0) / 18446744073709551616 = (2 * (q : Int) + 1) / 18446744073709551616 by omega]
def step65 (xn yn : Bool) (H L YH YL X Y : Nat) (n : Nat) : Option (Nat ⊕ (Exit × Array Value × AH)) :=
  if n = 0 then some (.inr (.exit 0, E65, S65 xn yn H L YH YL (qN X Y 0) (rN X Y 0))) else if n ≤ 128 then some (.inl (n - 1)) else none
theorem iter65 (xn yn : Bool) (H L YH YL X Y : Nat) : ∀ k n, n < k → n ≤ 128 → iter (step65 xn yn H L YH YL X Y) k n = some (.exit 0, E65, S65 xn yn H L YH YL (qN X Y 0) (rN X Y 0)) := by
  intro k
  induction k with
  | zero => intro n h; omega
  | succ k ih =>
    intro n h h2
    unfold iter step65
    by_cases hn : n = 0
    · simp only [hn, if_true]
    · simp only [hn, h2, if_false, if_true]
      exact ih (n - 1) (by omega) (by omega)
theorem round65 (xn yn : Bool) (H L YH YL : Nat) (hH : H < 18446744073709551616) (hL : L < 18446744073709551616) (hYH : YH < 18446744073709551616) (hYL : YL < 18446744073709551616) (X Y : Nat) (eX : X = H * 18446744073709551616 + L) (eY : Y = YH * 18446744073709551616 + YL) (hY : 0 < Y) :
    ∃ n, evRound Tryd.prog (tb Tryd.prog tab34) o65.hints 0 n b65 (T65 (((128 : Nat) : Int) - 1)) (S65 xn yn H L YH YL (qN X Y 128) (rN X Y 128)) = some (.exit 0, E65, S65 xn yn H L YH YL (qN X Y 0) (rN X Y 0)) := by
  refine loop_ok (fun n : Nat => T65 ((n : Int) - 1)) (fun n => S65 xn yn H L YH YL (qN X Y n) (rN X Y n)) (step65 xn yn H L YH YL X Y) ?_ ?_ 129 128 _ (iter65 xn yn H L YH YL X Y 129 128 (by omega) (by omega))
  · intro n n' h
    unfold step65 at h
    split at h
    · cases h
    · split at h
      · rename_i h0 h1
        simp only [Option.some.injEq, Sum.inl.injEq] at h
        obtain ⟨k, rfl⟩ : ∃ k, n = k + 1 := ⟨n - 1, by omega⟩
        obtain rfl : n' = k := by omega
        have hr := round_step xn yn H L YH YL n' hH hL hYH hYL X Y eX eY hY (by omega)
        obtain ⟨t, M, h2, h3⟩ := nxt_res hr
        obtain ⟨m, h4⟩ := evCodeT_res (tbT_ok tab34) (body := b65) LOk.none 200 b65 (fun b hb => by rw [loops65] at hb; cases hb) _ _ _ h2
        rw [show Int.ofNat n' = ((n' + 1 : Nat) : Int) - 1 by simp only [Int.ofNat_eq_natCast]; omega] at h4
        exact ⟨m, t, M, h4, h3⟩
      · cases h
  · intro n r h
    unfold step65 at h
    split at h
    · rename_i h0
      simp only [Option.some.injEq, Sum.inr.injEq] at h
      subst h h0
      refine ⟨by simp, ?_⟩
      exact evCodeT_res (tbT_ok tab34) (body := b65) LOk.none 200 b65 (fun b hb => by rw [loops65] at hb; cases hb) _ _ _ (by rw [show (((0 : Nat) : Int) - 1) = -1 from rfl]; unfold S65; rw [out65]; rfl)
    · split at h <;> cases h
/-- What is known of the loop. -/
def ok65 (xh xl yh yl : Int) : Bool := inU xh && (inU xl && (inU yh && (inU yl && decide (w128 yh yl > 0))))
def known65 (t : Array Value) (H : AH) : Tr (Exit × Array Value × AH) :=
  match H with
  | [some ⟨[.int .u64 xh, .int .u64 xl, .bool xn], true, true, 0⟩, some ⟨[.int .u64 yh, .int .u64 yl, .bool yn], true, true, 0⟩, some ⟨[.int .u64 z0, .int .u64 z1, .bool z2], true, true, 0⟩, some ⟨[.int .u64 z3, .int .u64 z4, .bool z5], true, true, 0⟩, some ⟨[.int .u64 z6, .int .u64 z7, .bool z8], true, true, 0⟩, some ⟨[.int .u64 z9, .int .u64 z10, .bool z11], true, true, 0⟩] =>
    if veqL (veq 5) t.toList (T65 127).toList && veqL (veq 5) [.int .u64 z0, .int .u64 z1, .bool z2, .int .u64 z3, .int .u64 z4, .bool z5, .int .u64 z6, .int .u64 z7, .bool z8, .int .u64 z9, .int .u64 z10, .bool z11] [.int .u64 0, .int .u64 0, .bool false, .int .u64 0, .int .u64 0, .bool false, .int .u64 0, .int .u64 0, .bool false, .int .u64 0, .int .u64 0, .bool false] then
      .node 0 (ok65 xh xl yh yl) (.leaf (some (.exit 0, E65, M65 xh xl xn yh yl yn (w128 xh xl / w128 yh yl / 18446744073709551616) (w128 xh xl / w128 yh yl % 18446744073709551616) (w128 xh xl % w128 yh yl / 18446744073709551616) (w128 xh xl % w128 yh yl % 18446744073709551616)))) (.leaf none)
    else .leaf none
  | _ => .leaf none
def lt65 : LoopT := fun id => if id = 3 then some known65 else none
theorem at65 {fn : Func} {c : Code} (hf : Tryd.prog.funcs[65]? = some fn) (hb : fn.body = some c) {b : Code} (h : loopAt c 3 = some b) : b = b65 := by
  unfold b65
  rw [hf]
  simp only [Option.bind_some, hb, h, Option.getD_some]
theorem known65_ok {t : Array Value} {M : AH} {r : Exit × Array Value × AH} (hr : (known65 t M).res = some r) : ∃ n, evRound Tryd.prog (tb Tryd.prog tab34) o65.hints 0 n b65 t M = some r := by
  unfold known65 at hr
  split at hr
  · rename_i xh xl xn yh yl yn z0 z1 z2 z3 z4 z5 z6 z7 z8 z9 z10 z11
    split at hr
    · rename_i hv
      simp only [Bool.and_eq_true] at hv
      have h1 := veqL_eq (veq_eq 5) _ _ hv.1
      have h2 := veqL_eq (veq_eq 5) _ _ hv.2
      obtain rfl : t = T65 127 := by rw [← Array.toArray_toList (xs := t), h1, Array.toArray_toList]
      simp only [List.cons.injEq, Value.int.injEq, Value.bool.injEq, true_and, and_true] at h2
      obtain ⟨rfl, rfl, rfl, rfl, rfl, rfl, rfl, rfl, rfl, rfl, rfl, rfl⟩ := h2
      simp only [Tr.res] at hr
      split at hr
      · rename_i hk
        injection hr with hr; subst hr
        unfold ok65 at hk
        simp only [inU, Bool.and_eq_true, decide_eq_true_eq] at hk
        obtain ⟨⟨a1, a2⟩, ⟨b1, b2⟩, ⟨c1, c2⟩, ⟨d1, d2⟩, hY⟩ := hk
        obtain ⟨H, rfl⟩ := Int.eq_ofNat_of_zero_le a1
        obtain ⟨L, rfl⟩ := Int.eq_ofNat_of_zero_le b1
        obtain ⟨YH, rfl⟩ := Int.eq_ofNat_of_zero_le c1
        obtain ⟨YL, rfl⟩ := Int.eq_ofNat_of_zero_le d1
        obtain ⟨X, eX⟩ : ∃ X, X = H * 18446744073709551616 + L := ⟨_, rfl⟩
        obtain ⟨Y, eY⟩ : ∃ Y, Y = YH * 18446744073709551616 + YL := ⟨_, rfl⟩
        have e1 : w128 (H : Int) (L : Int) = (X : Int) := by unfold w128; omega
        have e2 : w128 (YH : Int) (YL : Int) = (Y : Int) := by unfold w128; omega
        rw [e2] at hY
        obtain ⟨n, h⟩ := round65 xn yn H L YH YL (by omega) (by omega) (by omega) (by omega) X Y eX eY (by omega)
        have z : X / 2 ^ 128 = 0 := by
          have hX : (X : Int) < 340282366920938463463374607431768211456 := by omega
          exact Nat.div_eq_of_lt (by rw [show (2 ^ 128 : Nat) = 340282366920938463463374607431768211456 from rfl]; exact Int.ofNat_lt.1 hX)
        have q0 : qN X Y 128 = 0 := by unfold qN; rw [z, Nat.zero_div]
        have r0 : rN X Y 128 = 0 := by unfold rN; rw [z, Nat.zero_mod]
        have q1 : qN X Y 0 = X / Y := by unfold qN; rw [Nat.pow_zero, Nat.div_one]
        have r1 : rN X Y 0 = X % Y := by unfold rN; rw [Nat.pow_zero, Nat.div_one]
        rw [q0, r0, q1, r1] at h
        rw [e1, e2]
        refine ⟨n, h.trans ?_⟩
        unfold S65
        rw [Int.natCast_ediv, Int.natCast_emod]
      · cases hr
    · cases hr
  · cases hr
theorem lok65 {fn : Func} {c : Code} (hf : Tryd.prog.funcs[65]? = some fn) (hb : fn.body = some c) : LOk Tryd.prog (tb Tryd.prog tab34) o65.hints 0 c lt65 := by
  intro id ans h b hl t H r hr
  unfold lt65 at h
  split at h
  · rename_i he
    subst he
    simp only [Option.some.injEq] at h
    subst h
    obtain rfl := at65 hf hb hl
    exact known65_ok hr
  · cases h
theorem fn65 (xh xl : Int) (xn : Bool) (yh yl : Int) (yn : Bool) : vals (evFnT Tryd.prog (tb Tryd.prog tab34) (tbT Tryd.prog tab34) o65 lt65 300 65 #[.agg #[.int .u64 xh, .int .u64 xl, .bool xn], .agg #[.int .u64 yh, .int .u64 yl, .bool yn]] []) =
    .node 0 (ok65 xh xl yh yl) (.leaf (some (.tuple #[wideV (w128 xh xl / w128 yh yl) false, wideV (w128 xh xl % w128 yh yl) false]))) (.leaf none) := by kernel_rfl
/-- An entry that holds where a test does, of a function with loops. -/
theorem tab_condloops {P : Program} {l : Tab} {f : FuncId} (hm : P.follows .mixedOrders = true) (h : TabOk P l) (hlt : f < 1000000) {s : Array Value → Option (Bool × Value)}
    (hs : ∀ args b v, s args = some (b, v) → b = true → args.toList.all flat = true ∧ flat v = true ∧ ∃ o lt L, (∀ fn c, P.funcs[f]? = some fn → fn.body = some c → LOk P (tb P l) o.hints 0 c lt) ∧
      (vals (evFnT P (tb P l) (tbT P l) o lt L f args [])).res = some v) : TabOk P ((f, .cond s) :: l) := by
  have h0 : TabOk P ((f, .ans fun args => match s args with | some (b, v) => if b then some v else none | none => none) :: l) := tab_loops hm h hlt fun args v hv => by
    cases hq : s args with
    | none => simp only [hq] at hv; cases hv
    | some x =>
      obtain ⟨b, u⟩ := x
      simp only [hq] at hv
      split at hv
      · rename_i hb
        injection hv with hv; subst hv
        exact hs args b u hq hb
      · cases hv
  intro g args H v H' hg
  refine h0 g args H v H' ?_
  unfold tb at hg ⊢
  split at hg
  · rename_i he
    rw [if_pos he]
    cases hq : s args with
    | none => rw [hq] at hg; cases hg
    | some x =>
      obtain ⟨b, u⟩ := x
      rw [hq] at hg
      simp only at hg ⊢
      split at hg
      · rename_i hb
        simp only [Option.some.injEq, Prod.mk.injEq] at hg
        obtain ⟨rfl, rfl⟩ := hg
        simp only [hq, hb, if_true, Option.map_some]
      · cases hg
  · rename_i he; rw [if_neg he]; exact hg
theorem tab35_ok : TabOk Tryd.prog tab35 := tab_condloops mixed tab34_ok (by decide) fun args b v h hb => by
  unfold ans65 at h
  split at h
  · rename_i c0 c1 h0
    split at h
    · rename_i xh xl xn yh yl yn h1 h2
      injection h with h; injection h with h1' h2'; subst h1' h2'
      obtain rfl : c0 = #[.int .u64 xh, .int .u64 xl, .bool xn] := by rw [← Array.toArray_toList (xs := c0), h1]
      obtain rfl : c1 = #[.int .u64 yh, .int .u64 yl, .bool yn] := by rw [← Array.toArray_toList (xs := c1), h2]
      obtain rfl : args = #[.agg #[.int .u64 xh, .int .u64 xl, .bool xn], .agg #[.int .u64 yh, .int .u64 yl, .bool yn]] := by rw [← Array.toArray_toList (xs := args), h0]
      refine ⟨rfl, rfl, o65, lt65, 300, fun _ _ hf hb => lok65 hf hb, ?_⟩
      rw [fn65]
      simp only [Tr.res]
      rw [if_pos (show ok65 xh xl yh yl = true from hb)]
    · cases h
  · cases h
end Go.Proofs.YtfpcmckachpnpaaDoor.Vx
