/- The answers of the functions of the package and of its reference, read off their texts. -/
import Derived.Test.YtfpcmckachpnpaaDoorXA
import Derived.Test.YtfpcmckachpnpaaDoorShelf
namespace Go.Proofs.YtfpcmckachpnpaaDoor.Vx
open Go Go.RowKit Go.Proofs
set_option maxRecDepth 100000
set_option linter.unusedVariables false
set_option linter.unusedSimpArgs false
def tab0 : Tab := []
theorem tab0_ok : TabOk Tryd.prog tab0 := tab_nil

/- gangsaw/gangsawlaw04.awake -/
def ans13 : Ans := fun args => match args.toList with
  | [] => some (.bool true)
  | _ => none
def tab1 : Tab := (13, .ans ans13) :: tab0
theorem tab1_ok : TabOk Tryd.prog tab1 := tab_put tab0_ok (by decide) fun args v h => by
  unfold ans13 at h
  split at h
  · rename_i h0
    injection h with h; subst h
    obtain rfl : args = #[] := by rw [← Array.toArray_toList (xs := args), h0]
    exact ⟨rfl, rfl, fun w hgl => awake_any w hgl⟩
  · cases h

/- gangsaw/fraction.size -/
def fraction_size_0 (x0 : Int) : Int :=
  if Decidable.decide (x0 < 0) then (IntKind.u64.wrap (0 - IntKind.u64.wrap x0)) else (IntKind.u64.wrap x0)
def ans39 : Ans := fun args => match args.toList with
  | [.int .i64 x0] => some (.int .u64 (fraction_size_0 x0))
  | _ => none
def tab2 : Tab := (39, .ans ans39) :: tab1
def tree39 (x0 : Int) : Tr Value :=
  .node 4 (Decidable.decide (x0 < 0))
  (.leaf (some (.int .u64 (IntKind.u64.wrap (0 - IntKind.u64.wrap x0)))))
  (.leaf (some (.int .u64 (IntKind.u64.wrap x0))))
theorem tree39_eq (x0 : Int) : vals (evFnT Tryd.prog (tb Tryd.prog tab1) (tbT Tryd.prog tab1) ⟨[(4, 0)], [], []⟩ noLoops 300 39 #[.int .i64 x0] []) = tree39 x0 := by kernel_rfl
theorem tree39_res (x0 : Int) : (tree39 x0).res = some (.int .u64 (fraction_size_0 x0)) := by
  unfold tree39 fraction_size_0
  simp only [Tr.res]
  generalize (Decidable.decide (x0 < 0)) = b0
  cases b0 with
  | true =>
   first | (simp only [if_true, Bool.false_eq_true, if_false]; done) | rfl
  | false =>
   first | (simp only [if_true, Bool.false_eq_true, if_false]; done) | rfl
theorem tab2_ok : TabOk Tryd.prog tab2 := tab_cons mixed tab1_ok (by decide) fun args v h => by
  unfold ans39 at h
  split at h
  · rename_i x0 h0
    injection h with h; subst h
    obtain rfl : args = #[.int .i64 x0] := by rw [← Array.toArray_toList (xs := args), h0]
    exact ⟨rfl, rfl, ⟨[(4, 0)], [], []⟩, 300, by rw [tree39_eq]; exact tree39_res _⟩
  · cases h

/- gangsaw/gangsawref04.size -/
def ref04_size_0 (x0 : Int) : Int :=
  if Decidable.decide (x0 < 0) then (IntKind.u64.wrap (0 - IntKind.u64.wrap x0)) else (IntKind.u64.wrap x0)
def ans46 : Ans := fun args => match args.toList with
  | [.int .i64 x0] => some (.int .u64 (ref04_size_0 x0))
  | _ => none
def tab3 : Tab := (46, .ans ans46) :: tab2
def tree46 (x0 : Int) : Tr Value :=
  .node 4 (Decidable.decide (x0 < 0))
  (.leaf (some (.int .u64 (IntKind.u64.wrap (0 - IntKind.u64.wrap x0)))))
  (.leaf (some (.int .u64 (IntKind.u64.wrap x0))))
theorem tree46_eq (x0 : Int) : vals (evFnT Tryd.prog (tb Tryd.prog tab2) (tbT Tryd.prog tab2) ⟨[(4, 0)], [], []⟩ noLoops 300 46 #[.int .i64 x0] []) = tree46 x0 := by kernel_rfl
theorem tree46_res (x0 : Int) : (tree46 x0).res = some (.int .u64 (ref04_size_0 x0)) := by
  unfold tree46 ref04_size_0
  simp only [Tr.res]
  generalize (Decidable.decide (x0 < 0)) = b0
  cases b0 with
  | true =>
   first | (simp only [if_true, Bool.false_eq_true, if_false]; done) | rfl
  | false =>
   first | (simp only [if_true, Bool.false_eq_true, if_false]; done) | rfl
theorem tab3_ok : TabOk Tryd.prog tab3 := tab_cons mixed tab2_ok (by decide) fun args v h => by
  unfold ans46 at h
  split at h
  · rename_i x0 h0
    injection h with h; subst h
    obtain rfl : args = #[.int .i64 x0] := by rw [← Array.toArray_toList (xs := args), h0]
    exact ⟨rfl, rfl, ⟨[(4, 0)], [], []⟩, 300, by rw [tree46_eq]; exact tree46_res _⟩
  · cases h

/- gangsaw/fraction.divisor -/
/-- Euclid's algorithm. -/
def euclid : Nat → Int → Int → Int
  | 0, a, _ => a
  | k + 1, a, b => if b = 0 then a else euclid k b (a.tmod b)
def gcdA (a b : Int) : Int := euclid (b.natAbs + 1) a b
def ans40 : Ans := fun args => match args.toList with
  | [.int .u64 x0, .int .u64 x1] => some (.int .u64 (gcdA x0 x1))
  | _ => none
def tab4 : Tab := (40, .ans ans40) :: tab3
def o40 : Opts := ⟨[(6, 0), (10, 0)], [(1, [5, 6, 7, 8, 9, 10])], []⟩
noncomputable def b40 : Code := (((Tryd.prog.funcs[40]?).bind (·.body)).bind (loopAt · 1)).getD .skip
def T40 (a b : Int) : Array Value := #[.int .u64 a, .int .u64 b, undef, undef, .int .u64 0, lost, lost, lost, lost, lost, lost, undef]
def E40 (a : Int) : Array Value := #[.int .u64 a, .int .u64 0, undef, undef, .int .u64 0, .int .u64 0, .bool false, lost, lost, lost, lost, undef]
theorem body40 (l : Tab) (a b : Int) : evCodeT Tryd.prog (tb Tryd.prog l) (tbT Tryd.prog l) o40 noLoops 0 100 b40 (T40 a b) [] =
    .node 6 (b != 0) (.node 10 (b == 0) (.leaf none) (.leaf (some (.normal, #[.int .u64 b, .int .u64 (a.tmod b), undef, undef, .int .u64 0, .int .u64 b, .bool true, .int .u64 b, .int .u64 a, .int .u64 b, .int .u64 (a.tmod b), undef], []))))
      (.leaf (some (.exit 0, #[.int .u64 a, .int .u64 b, undef, undef, .int .u64 0, .int .u64 b, .bool false, lost, lost, lost, lost, undef], []))) := by kernel_rfl
theorem loops40 : loopsOf b40 = [] := by kernel_rfl
def step40 (s : Int × Int) : Option ((Int × Int) ⊕ (Exit × Array Value × AH)) := if s.2 = 0 then some (.inr (.exit 0, E40 s.1, [])) else some (.inl (s.2, s.1.tmod s.2))
theorem iter40 : ∀ (k : Nat) (a b : Int), b.natAbs < k → iter step40 k (a, b) = some (.exit 0, E40 (euclid k a b), []) := by
  intro k
  induction k with
  | zero => intro a b h; omega
  | succ k ih =>
    intro a b h
    unfold iter step40 euclid
    by_cases hb : b = 0
    · simp [hb]
    · simp only [hb, if_false]
      refine ih b (a.tmod b) ?_
      have h1 : (a.tmod b).natAbs = a.natAbs % b.natAbs := Int.natAbs_tmod ..
      have h2 := Nat.mod_lt a.natAbs (show b.natAbs > 0 by omega)
      omega
theorem round40 (l : Tab) (a b : Int) : ∃ n, evRound Tryd.prog (tb Tryd.prog l) o40.hints 0 n b40 (T40 a b) [] = some (.exit 0, E40 (gcdA a b), []) := by
  have hd : headId b40 = 1 := by kernel_rfl
  refine loop_ok (fun s : Int × Int => T40 s.1 s.2) (fun _ => []) step40 ?_ ?_ (b.natAbs + 1) (a, b) _ (iter40 _ a b (by omega))
  · rintro ⟨a, b⟩ s' h
    unfold step40 at h
    simp only at h
    split at h
    · cases h
    · rename_i hb
      simp only [Option.some.injEq, Sum.inl.injEq] at h
      subst h
      have hr : (evCodeT Tryd.prog (tb Tryd.prog l) (tbT Tryd.prog l) o40 noLoops 0 100 b40 (T40 a b) []).res = some (.normal, #[.int .u64 b, .int .u64 (a.tmod b), undef, undef, .int .u64 0, .int .u64 b, .bool true, .int .u64 b, .int .u64 a, .int .u64 b, .int .u64 (a.tmod b), undef], []) := by
        rw [body40 l]; simp [Tr.res, hb]
      obtain ⟨m, h1⟩ := evCodeT_res (tbT_ok l) (body := b40) LOk.none 100 b40 (fun b hb => by rw [loops40] at hb; cases hb) _ _ _ hr
      refine ⟨m, _, _, h1, ?_⟩
      rw [hd]
      kernel_rfl
  · rintro ⟨a, b⟩ r h
    unfold step40 at h
    simp only at h
    split at h
    · rename_i hb
      simp only [Option.some.injEq, Sum.inr.injEq] at h
      subst h hb
      refine ⟨by simp, ?_⟩
      have hr : (evCodeT Tryd.prog (tb Tryd.prog l) (tbT Tryd.prog l) o40 noLoops 0 100 b40 (T40 a 0) []).res = some (.exit 0, E40 a, []) := by
        rw [body40 l]; simp [Tr.res]; rfl
      exact evCodeT_res (tbT_ok l) (body := b40) LOk.none 100 b40 (fun b hb => by rw [loops40] at hb; cases hb) _ _ _ hr
    · cases h
/-- What is known of the loop. -/
def known40 (t : Array Value) (H : AH) : Tr (Exit × Array Value × AH) :=
  match t.toList, H with
  | [.int .u64 a, .int .u64 b, v2, v3, v4, v5, v6, v7, v8, v9, v10, v11], [] =>
    if veqL (veq 5) [v2, v3, v4, v5, v6, v7, v8, v9, v10, v11] [undef, undef, .int .u64 0, lost, lost, lost, lost, lost, lost, undef] then .leaf (some (.exit 0, E40 (gcdA a b), [])) else .leaf none
  | _, _ => .leaf none
def lt40 : LoopT := fun id => if id = 1 then some known40 else none
theorem at40 {fn : Func} {c : Code} (hf : Tryd.prog.funcs[40]? = some fn) (hb : fn.body = some c) {b : Code} (h : loopAt c 1 = some b) : b = b40 := by
  unfold b40
  rw [hf]
  simp only [Option.bind_some, hb, h, Option.getD_some]
theorem lok40 (l : Tab) {fn : Func} {c : Code} (hf : Tryd.prog.funcs[40]? = some fn) (hb : fn.body = some c) : LOk Tryd.prog (tb Tryd.prog l) o40.hints 0 c lt40 := by
  intro id ans h b hl t H r hr
  unfold lt40 at h
  split at h
  · rename_i he
    subst he
    simp only [Option.some.injEq] at h
    subst h
    obtain rfl := at40 hf hb hl
    unfold known40 at hr
    split at hr
    · rename_i a b v2 v3 v4 v5 v6 v7 v8 v9 v10 v11 ht
      split at hr
      · rename_i hv
        have hv := veqL_eq (veq_eq 5) _ _ hv
        simp only [List.cons.injEq, and_true] at hv
        obtain ⟨rfl, rfl, rfl, rfl, rfl, rfl, rfl, rfl, rfl, rfl⟩ := hv
        obtain rfl : t = T40 a b := by rw [← Array.toArray_toList (xs := t), ht]; rfl
        simp only [Tr.res, Option.some.injEq] at hr
        subst hr
        exact round40 l a b
      · cases hr
    · cases hr
  · cases h
theorem fn40 (l : Tab) (a b : Int) : vals (evFnT Tryd.prog (tb Tryd.prog l) (tbT Tryd.prog l) o40 lt40 100 40 #[.int .u64 a, .int .u64 b] []) = .leaf (some (.int .u64 (gcdA a b))) := by kernel_rfl
theorem tab4_ok : TabOk Tryd.prog tab4 := tab_loops mixed tab3_ok (by decide) fun args v h => by
  unfold ans40 at h
  split at h
  · rename_i a b h0
    injection h with h; subst h
    obtain rfl : args = #[.int .u64 a, .int .u64 b] := by rw [← Array.toArray_toList (xs := args), h0]
    exact ⟨rfl, rfl, o40, lt40, 100, fun _ _ hf hb => lok40 _ hf hb, by rw [fn40]; rfl⟩
  · cases h

/- gangsaw/gangsawref04.gcd -/
def ans45 : Ans := fun args => match args.toList with
  | [.int .u64 x0, .int .u64 x1] => some (.int .u64 (gcdA x0 x1))
  | _ => none
def tab5 : Tab := (45, .ans ans45) :: tab4
def o45 : Opts := ⟨[(6, 0), (10, 0)], [(1, [5, 6, 7, 8, 9, 10])], []⟩
noncomputable def b45 : Code := (((Tryd.prog.funcs[45]?).bind (·.body)).bind (loopAt · 1)).getD .skip
def T45 (a b : Int) : Array Value := #[.int .u64 a, .int .u64 b, undef, undef, .int .u64 0, lost, lost, lost, lost, lost, lost, undef]
def E45 (a : Int) : Array Value := #[.int .u64 a, .int .u64 0, undef, undef, .int .u64 0, .int .u64 0, .bool false, lost, lost, lost, lost, undef]
theorem body45 (l : Tab) (a b : Int) : evCodeT Tryd.prog (tb Tryd.prog l) (tbT Tryd.prog l) o45 noLoops 0 100 b45 (T45 a b) [] =
    .node 6 (b != 0) (.node 10 (b == 0) (.leaf none) (.leaf (some (.normal, #[.int .u64 b, .int .u64 (a.tmod b), undef, undef, .int .u64 0, .int .u64 b, .bool true, .int .u64 b, .int .u64 a, .int .u64 b, .int .u64 (a.tmod b), undef], []))))
      (.leaf (some (.exit 0, #[.int .u64 a, .int .u64 b, undef, undef, .int .u64 0, .int .u64 b, .bool false, lost, lost, lost, lost, undef], []))) := by kernel_rfl
theorem loops45 : loopsOf b45 = [] := by kernel_rfl
def step45 (s : Int × Int) : Option ((Int × Int) ⊕ (Exit × Array Value × AH)) := if s.2 = 0 then some (.inr (.exit 0, E45 s.1, [])) else some (.inl (s.2, s.1.tmod s.2))
theorem iter45 : ∀ (k : Nat) (a b : Int), b.natAbs < k → iter step45 k (a, b) = some (.exit 0, E45 (euclid k a b), []) := by
  intro k
  induction k with
  | zero => intro a b h; omega
  | succ k ih =>
    intro a b h
    unfold iter step45 euclid
    by_cases hb : b = 0
    · simp [hb]
    · simp only [hb, if_false]
      refine ih b (a.tmod b) ?_
      have h1 : (a.tmod b).natAbs = a.natAbs % b.natAbs := Int.natAbs_tmod ..
      have h2 := Nat.mod_lt a.natAbs (show b.natAbs > 0 by omega)
      omega
theorem round45 (l : Tab) (a b : Int) : ∃ n, evRound Tryd.prog (tb Tryd.prog l) o45.hints 0 n b45 (T45 a b) [] = some (.exit 0, E45 (gcdA a b), []) := by
  have hd : headId b45 = 1 := by kernel_rfl
  refine loop_ok (fun s : Int × Int => T45 s.1 s.2) (fun _ => []) step45 ?_ ?_ (b.natAbs + 1) (a, b) _ (iter45 _ a b (by omega))
  · rintro ⟨a, b⟩ s' h
    unfold step45 at h
    simp only at h
    split at h
    · cases h
    · rename_i hb
      simp only [Option.some.injEq, Sum.inl.injEq] at h
      subst h
      have hr : (evCodeT Tryd.prog (tb Tryd.prog l) (tbT Tryd.prog l) o45 noLoops 0 100 b45 (T45 a b) []).res = some (.normal, #[.int .u64 b, .int .u64 (a.tmod b), undef, undef, .int .u64 0, .int .u64 b, .bool true, .int .u64 b, .int .u64 a, .int .u64 b, .int .u64 (a.tmod b), undef], []) := by
        rw [body45 l]; simp [Tr.res, hb]
      obtain ⟨m, h1⟩ := evCodeT_res (tbT_ok l) (body := b45) LOk.none 100 b45 (fun b hb => by rw [loops45] at hb; cases hb) _ _ _ hr
      refine ⟨m, _, _, h1, ?_⟩
      rw [hd]
      kernel_rfl
  · rintro ⟨a, b⟩ r h
    unfold step45 at h
    simp only at h
    split at h
    · rename_i hb
      simp only [Option.some.injEq, Sum.inr.injEq] at h
      subst h hb
      refine ⟨by simp, ?_⟩
      have hr : (evCodeT Tryd.prog (tb Tryd.prog l) (tbT Tryd.prog l) o45 noLoops 0 100 b45 (T45 a 0) []).res = some (.exit 0, E45 a, []) := by
        rw [body45 l]; simp [Tr.res]; rfl
      exact evCodeT_res (tbT_ok l) (body := b45) LOk.none 100 b45 (fun b hb => by rw [loops45] at hb; cases hb) _ _ _ hr
    · cases h
/-- What is known of the loop. -/
def known45 (t : Array Value) (H : AH) : Tr (Exit × Array Value × AH) :=
  match t.toList, H with
  | [.int .u64 a, .int .u64 b, v2, v3, v4, v5, v6, v7, v8, v9, v10, v11], [] =>
    if veqL (veq 5) [v2, v3, v4, v5, v6, v7, v8, v9, v10, v11] [undef, undef, .int .u64 0, lost, lost, lost, lost, lost, lost, undef] then .leaf (some (.exit 0, E45 (gcdA a b), [])) else .leaf none
  | _, _ => .leaf none
def lt45 : LoopT := fun id => if id = 1 then some known45 else none
theorem at45 {fn : Func} {c : Code} (hf : Tryd.prog.funcs[45]? = some fn) (hb : fn.body = some c) {b : Code} (h : loopAt c 1 = some b) : b = b45 := by
  unfold b45
  rw [hf]
  simp only [Option.bind_some, hb, h, Option.getD_some]
theorem lok45 (l : Tab) {fn : Func} {c : Code} (hf : Tryd.prog.funcs[45]? = some fn) (hb : fn.body = some c) : LOk Tryd.prog (tb Tryd.prog l) o45.hints 0 c lt45 := by
  intro id ans h b hl t H r hr
  unfold lt45 at h
  split at h
  · rename_i he
    subst he
    simp only [Option.some.injEq] at h
    subst h
    obtain rfl := at45 hf hb hl
    unfold known45 at hr
    split at hr
    · rename_i a b v2 v3 v4 v5 v6 v7 v8 v9 v10 v11 ht
      split at hr
      · rename_i hv
        have hv := veqL_eq (veq_eq 5) _ _ hv
        simp only [List.cons.injEq, and_true] at hv
        obtain ⟨rfl, rfl, rfl, rfl, rfl, rfl, rfl, rfl, rfl, rfl⟩ := hv
        obtain rfl : t = T45 a b := by rw [← Array.toArray_toList (xs := t), ht]; rfl
        simp only [Tr.res, Option.some.injEq] at hr
        subst hr
        exact round45 l a b
      · cases hr
    · cases hr
  · cases h
theorem fn45 (l : Tab) (a b : Int) : vals (evFnT Tryd.prog (tb Tryd.prog l) (tbT Tryd.prog l) o45 lt45 100 45 #[.int .u64 a, .int .u64 b] []) = .leaf (some (.int .u64 (gcdA a b))) := by kernel_rfl
theorem tab5_ok : TabOk Tryd.prog tab5 := tab_loops mixed tab4_ok (by decide) fun args v h => by
  unfold ans45 at h
  split at h
  · rename_i a b h0
    injection h with h; subst h
    obtain rfl : args = #[.int .u64 a, .int .u64 b] := by rw [← Array.toArray_toList (xs := args), h0]
    exact ⟨rfl, rfl, o45, lt45, 100, fun _ _ hf hb => lok45 _ hf hb, by rw [fn45]; rfl⟩
  · cases h

/- math/bits.Mul64 -/
def inU (x : Int) : Bool := decide (0 ≤ x) && decide (x < 18446744073709551616)
def ans74 : Array Value → Option (Bool × Value) := fun args => match args.toList with
  | [.int .u64 x0, .int .u64 x1] => some (inU x0 && inU x1, .tuple #[.int .u64 (x0 * x1 / 18446744073709551616), .int .u64 (x0 * x1 % 18446744073709551616)])
  | _ => none
def tab6 : Tab := (74, .cond ans74) :: tab5
theorem tab6_ok : TabOk Tryd.prog tab6 := tab_condput tab5_ok (by decide) fun args b v h hb => by
  unfold ans74 at h
  split at h
  · rename_i x0 x1 h0
    injection h with h; injection h with h1 h2; subst h1 h2
    obtain rfl : args = #[.int .u64 x0, .int .u64 x1] := by rw [← Array.toArray_toList (xs := args), h0]
    simp only [inU, Bool.and_eq_true, decide_eq_true_eq] at hb
    obtain ⟨X, rfl⟩ := Int.eq_ofNat_of_zero_le hb.1.1
    obtain ⟨Y, rfl⟩ := Int.eq_ofNat_of_zero_le hb.2.1
    refine ⟨rfl, rfl, fun w _ => (Tryd.bits_Mul64 X Y (by omega) (by omega) w).mono ?_⟩
    rintro e w' ⟨rfl, rfl⟩
    refine ⟨?_, Below.refl _ _⟩
    rw [← Int.natCast_mul]
    generalize X * Y = Z
    rw [show ((Z / 18446744073709551616 : Nat) : Int) = (Z : Int) / 18446744073709551616 by omega, show ((Z % 18446744073709551616 : Nat) : Int) = (Z : Int) % 18446744073709551616 by omega]
  · cases h

/- gangsaw/fraction.times -/
def fraction_times_ok (x0 x1 : Int) : Bool :=
  if inU x0 && inU x1 then (Bool.true) else (Bool.false)
def fraction_times_0 (x0 x1 : Int) : Int :=
  (x0 * x1 / 18446744073709551616)
def fraction_times_1 (x0 x1 : Int) : Int :=
  (x0 * x1 % 18446744073709551616)
def ans66 : Array Value → Option (Bool × Value) := fun args => match args.toList with
  | [.int .u64 x0, .int .u64 x1] => some (fraction_times_ok x0 x1, .agg #[.int .u64 (fraction_times_0 x0 x1), .int .u64 (fraction_times_1 x0 x1)])
  | _ => none
def tab7 : Tab := (66, .cond ans66) :: tab6
def tree66 (x0 x1 : Int) : Tr Value :=
  .node 0 (inU x0 && inU x1)
  (.leaf (some (.agg #[.int .u64 (x0 * x1 / 18446744073709551616), .int .u64 (x0 * x1 % 18446744073709551616)])))
  (.leaf none)
theorem tree66_eq (x0 x1 : Int) : vals (evFnT Tryd.prog (tb Tryd.prog tab6) (tbT Tryd.prog tab6) ⟨[], [], []⟩ noLoops 300 66 #[.int .u64 x0, .int .u64 x1] []) = tree66 x0 x1 := by kernel_rfl
theorem tree66_res (x0 x1 : Int) : (tree66 x0 x1).res = if fraction_times_ok x0 x1 = true then some (.agg #[.int .u64 (fraction_times_0 x0 x1), .int .u64 (fraction_times_1 x0 x1)]) else none := by
  unfold tree66 fraction_times_ok fraction_times_0 fraction_times_1
  simp only [Tr.res]
  generalize (inU x0 && inU x1) = b0
  cases b0 with
  | true =>
   first | (simp only [if_true, Bool.false_eq_true, if_false]; done) | rfl
  | false =>
   first | (simp only [if_true, Bool.false_eq_true, if_false]; done) | rfl
theorem tab7_ok : TabOk Tryd.prog tab7 := tab_cond mixed tab6_ok (by decide) fun args b v h hb => by
  unfold ans66 at h
  split at h
  · rename_i x0 x1 h0
    injection h with h; injection h with h1 h2; subst h1 h2
    obtain rfl : args = #[.int .u64 x0, .int .u64 x1] := by rw [← Array.toArray_toList (xs := args), h0]
    exact ⟨rfl, rfl, ⟨[], [], []⟩, 300, by rw [tree66_eq, tree66_res, if_pos hb]⟩
  · cases h

/- gangsaw/gangsawref04.times -/
def ref04_times_ok (x0 x1 : Int) : Bool :=
  if inU (ref04_size_0 x0) && inU (ref04_size_0 x1) then (Bool.true) else (Bool.false)
def ref04_times_0 (x0 x1 : Int) : Int :=
  (ref04_size_0 x0 * ref04_size_0 x1 / 18446744073709551616)
def ref04_times_1 (x0 x1 : Int) : Int :=
  (ref04_size_0 x0 * ref04_size_0 x1 % 18446744073709551616)
def ref04_times_2 (x0 x1 : Int) : Bool :=
  (!Decidable.decide (x0 < 0) == Decidable.decide (x1 < 0))
def ans52 : Array Value → Option (Bool × Value) := fun args => match args.toList with
  | [.int .i64 x0, .int .i64 x1] => some (ref04_times_ok x0 x1, .agg #[.int .u64 (ref04_times_0 x0 x1), .int .u64 (ref04_times_1 x0 x1), .bool (ref04_times_2 x0 x1)])
  | _ => none
def tab8 : Tab := (52, .cond ans52) :: tab7
def tree52 (x0 x1 : Int) : Tr Value :=
  .node 0 (inU (ref04_size_0 x0) && inU (ref04_size_0 x1))
  (.leaf (some (.agg #[.int .u64 (ref04_size_0 x0 * ref04_size_0 x1 / 18446744073709551616), .int .u64 (ref04_size_0 x0 * ref04_size_0 x1 % 18446744073709551616), .bool (!Decidable.decide (x0 < 0) == Decidable.decide (x1 < 0))])))
  (.leaf none)
theorem tree52_eq (x0 x1 : Int) : vals (evFnT Tryd.prog (tb Tryd.prog tab7) (tbT Tryd.prog tab7) ⟨[], [], []⟩ noLoops 300 52 #[.int .i64 x0, .int .i64 x1] []) = tree52 x0 x1 := by kernel_rfl
theorem tree52_res (x0 x1 : Int) : (tree52 x0 x1).res = if ref04_times_ok x0 x1 = true then some (.agg #[.int .u64 (ref04_times_0 x0 x1), .int .u64 (ref04_times_1 x0 x1), .bool (ref04_times_2 x0 x1)]) else none := by
  unfold tree52 ref04_times_ok ref04_times_0 ref04_times_1 ref04_times_2
  simp only [Tr.res]
  generalize (inU (ref04_size_0 x0) && inU (ref04_size_0 x1)) = b0
  cases b0 with
  | true =>
   first | (simp only [if_true, Bool.false_eq_true, if_false]; done) | rfl
  | false =>
   first | (simp only [if_true, Bool.false_eq_true, if_false]; done) | rfl
theorem tab8_ok : TabOk Tryd.prog tab8 := tab_cond mixed tab7_ok (by decide) fun args b v h hb => by
  unfold ans52 at h
  split at h
  · rename_i x0 x1 h0
    injection h with h; injection h with h1 h2; subst h1 h2
    obtain rfl : args = #[.int .i64 x0, .int .i64 x1] := by rw [← Array.toArray_toList (xs := args), h0]
    exact ⟨rfl, rfl, ⟨[], [], []⟩, 300, by rw [tree52_eq, tree52_res, if_pos hb]⟩
  · cases h

/- cmp.isNaN[uint64] -/
def ans96 : Ans := fun args => match args.toList with
  | [.int .u64 x0] => some (.bool (x0 != x0))
  | _ => none
def tab9 : Tab := (96, .ans ans96) :: tab8
def tree96 (x0 : Int) : Tr Value :=
  .leaf (some (.bool (x0 != x0)))
theorem tree96_eq (x0 : Int) : vals (evFnT Tryd.prog (tb Tryd.prog tab8) (tbT Tryd.prog tab8) ⟨[], [], []⟩ noLoops 300 96 #[.int .u64 x0] []) = tree96 x0 := by kernel_rfl
theorem tree96_res (x0 : Int) : (tree96 x0).res = some (.bool (x0 != x0)) := by
  rfl
theorem tab9_ok : TabOk Tryd.prog tab9 := tab_cons mixed tab8_ok (by decide) fun args v h => by
  unfold ans96 at h
  split at h
  · rename_i x0 h0
    injection h with h; subst h
    obtain rfl : args = #[.int .u64 x0] := by rw [← Array.toArray_toList (xs := args), h0]
    exact ⟨rfl, rfl, ⟨[], [], []⟩, 300, by rw [tree96_eq]; exact tree96_res _⟩
  · cases h

/- cmp.Compare[uint64] -/
def cmp_Compare_uint64__0 (x0 x1 : Int) : Int :=
  if x0 != x0 then (if x1 != x1 then (0) else (-1)) else if x1 != x1 then (1) else if Decidable.decide (x0 < x1) then (-1) else if Decidable.decide (x0 > x1) then (1) else (0)
def ans84 : Ans := fun args => match args.toList with
  | [.int .u64 x0, .int .u64 x1] => some (.int .i64 (cmp_Compare_uint64__0 x0 x1))
  | _ => none
def tab10 : Tab := (84, .ans ans84) :: tab9
def tree84 (x0 x1 : Int) : Tr Value :=
  .node 11 (x0 != x0)
  (.node 12 (x1 != x1)
   (.leaf (some (.int .i64 (0))))
   (.leaf (some (.int .i64 (-1)))))
  (.node 13 (x1 != x1)
   (.leaf (some (.int .i64 (1))))
   (.node 16 (Decidable.decide (x0 < x1))
    (.leaf (some (.int .i64 (-1))))
    (.node 19 (Decidable.decide (x0 > x1))
     (.leaf (some (.int .i64 (1))))
     (.leaf (some (.int .i64 (0)))))))
theorem tree84_eq (x0 x1 : Int) : vals (evFnT Tryd.prog (tb Tryd.prog tab9) (tbT Tryd.prog tab9) ⟨[(11, 0), (12, 0), (13, 0), (16, 0), (19, 0)], [], []⟩ noLoops 300 84 #[.int .u64 x0, .int .u64 x1] []) = tree84 x0 x1 := by kernel_rfl
theorem tree84_res (x0 x1 : Int) : (tree84 x0 x1).res = some (.int .i64 (cmp_Compare_uint64__0 x0 x1)) := by
  unfold tree84 cmp_Compare_uint64__0
  simp only [Tr.res]
  generalize (x0 != x0) = b0
  generalize (x1 != x1) = b1
  generalize (Decidable.decide (x0 < x1)) = b2
  generalize (Decidable.decide (x0 > x1)) = b3
  cases b0 with
  | true =>
   cases b1 with
   | true =>
    first | (simp only [if_true, Bool.false_eq_true, if_false]; done) | rfl
   | false =>
    first | (simp only [if_true, Bool.false_eq_true, if_false]; done) | rfl
  | false =>
   cases b1 with
   | true =>
    first | (simp only [if_true, Bool.false_eq_true, if_false]; done) | rfl
   | false =>
    cases b2 with
    | true =>
     first | (simp only [if_true, Bool.false_eq_true, if_false]; done) | rfl
    | false =>
     cases b3 with
     | true =>
      first | (simp only [if_true, Bool.false_eq_true, if_false]; done) | rfl
     | false =>
      first | (simp only [if_true, Bool.false_eq_true, if_false]; done) | rfl
theorem tab10_ok : TabOk Tryd.prog tab10 := tab_cons mixed tab9_ok (by decide) fun args v h => by
  unfold ans84 at h
  split at h
  · rename_i x0 x1 h0
    injection h with h; subst h
    obtain rfl : args = #[.int .u64 x0, .int .u64 x1] := by rw [← Array.toArray_toList (xs := args), h0]
    exact ⟨rfl, rfl, ⟨[(11, 0), (12, 0), (13, 0), (16, 0), (19, 0)], [], []⟩, 300, by rw [tree84_eq]; exact tree84_res _ _⟩
  · cases h

/- (gangsaw/fraction.wide).compare -/
def _fraction_wide_compare_0 (x0 x1 x2 x3 : Int) : Int :=
  if x0 != x2 then (cmp_Compare_uint64__0 x0 x2) else (cmp_Compare_uint64__0 x1 x3)
def ans75 : Ans := fun args => match args.toList with
  | [.agg c0, .agg c1] => match c0.toList, c1.toList with
    | [.int .u64 x0, .int .u64 x1], [.int .u64 x2, .int .u64 x3] => some (.int .i64 (_fraction_wide_compare_0 x0 x1 x2 x3))
    | _, _ => none
  | _ => none
def tab11 : Tab := (75, .ans ans75) :: tab10
def tree75 (x0 x1 x2 x3 : Int) : Tr Value :=
  .node 9 (x0 != x2)
  (.leaf (some (.int .i64 (cmp_Compare_uint64__0 x0 x2))))
  (.leaf (some (.int .i64 (cmp_Compare_uint64__0 x1 x3))))
theorem tree75_eq (x0 x1 x2 x3 : Int) : vals (evFnT Tryd.prog (tb Tryd.prog tab10) (tbT Tryd.prog tab10) ⟨[(9, 0)], [], []⟩ noLoops 300 75 #[.agg #[.int .u64 x0, .int .u64 x1], .agg #[.int .u64 x2, .int .u64 x3]] []) = tree75 x0 x1 x2 x3 := by kernel_rfl
theorem tree75_res (x0 x1 x2 x3 : Int) : (tree75 x0 x1 x2 x3).res = some (.int .i64 (_fraction_wide_compare_0 x0 x1 x2 x3)) := by
  unfold tree75 _fraction_wide_compare_0
  simp only [Tr.res]
  generalize (x0 != x2) = b0
  cases b0 with
  | true =>
   first | (simp only [if_true, Bool.false_eq_true, if_false]; done) | rfl
  | false =>
   first | (simp only [if_true, Bool.false_eq_true, if_false]; done) | rfl
theorem tab11_ok : TabOk Tryd.prog tab11 := tab_cons mixed tab10_ok (by decide) fun args v h => by
  unfold ans75 at h
  split at h
  · rename_i c0 c1 h0
    split at h
    · rename_i x0 x1 x2 x3 h1 h2
      injection h with h; subst h
      obtain rfl : c0 = #[.int .u64 x0, .int .u64 x1] := by rw [← Array.toArray_toList (xs := c0), h1]
      obtain rfl : c1 = #[.int .u64 x2, .int .u64 x3] := by rw [← Array.toArray_toList (xs := c1), h2]
      obtain rfl : args = #[.agg #[.int .u64 x0, .int .u64 x1], .agg #[.int .u64 x2, .int .u64 x3]] := by rw [← Array.toArray_toList (xs := args), h0]
      exact ⟨rfl, rfl, ⟨[(9, 0)], [], []⟩, 300, by rw [tree75_eq]; exact tree75_res _ _ _ _⟩
    · cases h
  · cases h

/- gangsaw/fraction.Valid -/
def fraction_Valid_0 (x0 x1 : Int) : Bool :=
  if Decidable.decide (x1 ≥ 1) then (if Decidable.decide (x1 < 1000000000000000000) then (if Decidable.decide (x0 > -1000000000000000000) then (if Decidable.decide (x0 < 1000000000000000000) then (if gcdA (fraction_size_0 x0) (fraction_size_0 x1) == 1 then (Bool.true) else (Bool.false)) else (Bool.false)) else (Bool.false)) else (Bool.false)) else (Bool.false)
def ans14 : Ans := fun args => match args.toList with
  | [.agg c0] => match c0.toList with
    | [.int .i64 x0, .int .i64 x1] => some (.bool (fraction_Valid_0 x0 x1))
    | _ => none
  | _ => none
def tab12 : Tab := (14, .ans ans14) :: tab11
def tree14 (x0 x1 : Int) : Tr Value :=
  .node 5 (Decidable.decide (x1 ≥ 1))
  (.node 9 (Decidable.decide (x1 < 1000000000000000000))
   (.node 14 (Decidable.decide (x0 > -1000000000000000000))
    (.node 19 (Decidable.decide (x0 < 1000000000000000000))
     (.node 29 (gcdA (fraction_size_0 x0) (fraction_size_0 x1) == 1)
      (.leaf (some (.bool (Bool.true))))
      (.leaf (some (.bool (Bool.false)))))
     (.leaf (some (.bool (Bool.false)))))
    (.leaf (some (.bool (Bool.false)))))
   (.leaf (some (.bool (Bool.false)))))
  (.leaf (some (.bool (Bool.false))))
theorem tree14_eq (x0 x1 : Int) : vals (evFnT Tryd.prog (tb Tryd.prog tab11) (tbT Tryd.prog tab11) ⟨[(5, 0), (9, 0), (14, 0), (19, 0), (29, 0)], [], []⟩ noLoops 300 14 #[.agg #[.int .i64 x0, .int .i64 x1]] []) = tree14 x0 x1 := by kernel_rfl
theorem tree14_res (x0 x1 : Int) : (tree14 x0 x1).res = some (.bool (fraction_Valid_0 x0 x1)) := by
  unfold tree14 fraction_Valid_0
  simp only [Tr.res]
  generalize (Decidable.decide (x1 ≥ 1)) = b0
  generalize (Decidable.decide (x1 < 1000000000000000000)) = b1
  generalize (Decidable.decide (x0 > -1000000000000000000)) = b2
  generalize (Decidable.decide (x0 < 1000000000000000000)) = b3
  generalize (gcdA (fraction_size_0 x0) (fraction_size_0 x1) == 1) = b4
  cases b0 with
  | true =>
   cases b1 with
   | true =>
    cases b2 with
    | true =>
     cases b3 with
     | true =>
      cases b4 with
      | true =>
       first | (simp only [if_true, Bool.false_eq_true, if_false]; done) | rfl
      | false =>
       first | (simp only [if_true, Bool.false_eq_true, if_false]; done) | rfl
     | false =>
      first | (simp only [if_true, Bool.false_eq_true, if_false]; done) | rfl
    | false =>
     first | (simp only [if_true, Bool.false_eq_true, if_false]; done) | rfl
   | false =>
    first | (simp only [if_true, Bool.false_eq_true, if_false]; done) | rfl
  | false =>
   first | (simp only [if_true, Bool.false_eq_true, if_false]; done) | rfl
theorem tab12_ok : TabOk Tryd.prog tab12 := tab_cons mixed tab11_ok (by decide) fun args v h => by
  unfold ans14 at h
  split at h
  · rename_i c0 h0
    split at h
    · rename_i x0 x1 h1
      injection h with h; subst h
      obtain rfl : c0 = #[.int .i64 x0, .int .i64 x1] := by rw [← Array.toArray_toList (xs := c0), h1]
      obtain rfl : args = #[.agg #[.int .i64 x0, .int .i64 x1]] := by rw [← Array.toArray_toList (xs := args), h0]
      exact ⟨rfl, rfl, ⟨[(5, 0), (9, 0), (14, 0), (19, 0), (29, 0)], [], []⟩, 300, by rw [tree14_eq]; exact tree14_res _ _⟩
    · cases h
  · cases h

/- gangsaw/gangsawref04.Valid -/
def ref04_Valid_0 (x0 x1 : Int) : Bool :=
  if Decidable.decide (x1 ≥ 1) then (if Decidable.decide (x1 < 1000000000000000000) then (if Decidable.decide (x0 > -1000000000000000000) then (if Decidable.decide (x0 < 1000000000000000000) then (if gcdA (ref04_size_0 x0) (IntKind.u64.wrap x1) == 1 then (Bool.true) else (Bool.false)) else (Bool.false)) else (Bool.false)) else (Bool.false)) else (Bool.false)
def ans15 : Ans := fun args => match args.toList with
  | [.agg c0] => match c0.toList with
    | [.int .i64 x0, .int .i64 x1] => some (.bool (ref04_Valid_0 x0 x1))
    | _ => none
  | _ => none
def tab13 : Tab := (15, .ans ans15) :: tab12
def tree15 (x0 x1 : Int) : Tr Value :=
  .node 5 (Decidable.decide (x1 ≥ 1))
  (.node 9 (Decidable.decide (x1 < 1000000000000000000))
   (.node 14 (Decidable.decide (x0 > -1000000000000000000))
    (.node 19 (Decidable.decide (x0 < 1000000000000000000))
     (.node 29 (gcdA (ref04_size_0 x0) (IntKind.u64.wrap x1) == 1)
      (.leaf (some (.bool (Bool.true))))
      (.leaf (some (.bool (Bool.false)))))
     (.leaf (some (.bool (Bool.false)))))
    (.leaf (some (.bool (Bool.false)))))
   (.leaf (some (.bool (Bool.false)))))
  (.leaf (some (.bool (Bool.false))))
theorem tree15_eq (x0 x1 : Int) : vals (evFnT Tryd.prog (tb Tryd.prog tab12) (tbT Tryd.prog tab12) ⟨[(5, 0), (9, 0), (14, 0), (19, 0), (29, 0)], [], []⟩ noLoops 300 15 #[.agg #[.int .i64 x0, .int .i64 x1]] []) = tree15 x0 x1 := by kernel_rfl
theorem tree15_res (x0 x1 : Int) : (tree15 x0 x1).res = some (.bool (ref04_Valid_0 x0 x1)) := by
  unfold tree15 ref04_Valid_0
  simp only [Tr.res]
  generalize (Decidable.decide (x1 ≥ 1)) = b0
  generalize (Decidable.decide (x1 < 1000000000000000000)) = b1
  generalize (Decidable.decide (x0 > -1000000000000000000)) = b2
  generalize (Decidable.decide (x0 < 1000000000000000000)) = b3
  generalize (gcdA (ref04_size_0 x0) (IntKind.u64.wrap x1) == 1) = b4
  cases b0 with
  | true =>
   cases b1 with
   | true =>
    cases b2 with
    | true =>
     cases b3 with
     | true =>
      cases b4 with
      | true =>
       first | (simp only [if_true, Bool.false_eq_true, if_false]; done) | rfl
      | false =>
       first | (simp only [if_true, Bool.false_eq_true, if_false]; done) | rfl
     | false =>
      first | (simp only [if_true, Bool.false_eq_true, if_false]; done) | rfl
    | false =>
     first | (simp only [if_true, Bool.false_eq_true, if_false]; done) | rfl
   | false =>
    first | (simp only [if_true, Bool.false_eq_true, if_false]; done) | rfl
  | false =>
   first | (simp only [if_true, Bool.false_eq_true, if_false]; done) | rfl
theorem tab13_ok : TabOk Tryd.prog tab13 := tab_cons mixed tab12_ok (by decide) fun args v h => by
  unfold ans15 at h
  split at h
  · rename_i c0 h0
    split at h
    · rename_i x0 x1 h1
      injection h with h; subst h
      obtain rfl : c0 = #[.int .i64 x0, .int .i64 x1] := by rw [← Array.toArray_toList (xs := c0), h1]
      obtain rfl : args = #[.agg #[.int .i64 x0, .int .i64 x1]] := by rw [← Array.toArray_toList (xs := args), h0]
      exact ⟨rfl, rfl, ⟨[(5, 0), (9, 0), (14, 0), (19, 0), (29, 0)], [], []⟩, 300, by rw [tree15_eq]; exact tree15_res _ _⟩
    · cases h
  · cases h

/- gangsaw/fraction.allValid -/
def tab14 : Tab := (47, .inl ⟨[(13, 0)], [], []⟩ 300) :: tab13
theorem tab14_ok : TabOk Tryd.prog tab14 := tab_inl mixed tab13_ok _ _ _

/- gangsaw/gangsawlaw04.two -/
def law04_two_0 (x0 x1 x2 x3 : Int) : Bool :=
  (bif ref04_Valid_0 x0 x1 then ref04_Valid_0 x2 x3 else Bool.false)
def ans20 : Ans := fun args => match args.toList with
  | [.agg c0, .agg c1] => match c0.toList, c1.toList with
    | [.int .i64 x0, .int .i64 x1], [.int .i64 x2, .int .i64 x3] => some (.bool (law04_two_0 x0 x1 x2 x3))
    | _, _ => none
  | _ => none
def tab15 : Tab := (20, .ans ans20) :: tab14
def tree20 (x0 x1 x2 x3 : Int) : Tr Value :=
  .leaf (some (.bool (bif ref04_Valid_0 x0 x1 then ref04_Valid_0 x2 x3 else Bool.false)))
theorem tree20_eq (x0 x1 x2 x3 : Int) : vals (evFnT Tryd.prog (tb Tryd.prog tab14) (tbT Tryd.prog tab14) ⟨[(2000001, 0)], [], []⟩ noLoops 300 20 #[.agg #[.int .i64 x0, .int .i64 x1], .agg #[.int .i64 x2, .int .i64 x3]] []) = tree20 x0 x1 x2 x3 := by kernel_rfl
theorem tree20_res (x0 x1 x2 x3 : Int) : (tree20 x0 x1 x2 x3).res = some (.bool (law04_two_0 x0 x1 x2 x3)) := by
  rfl
theorem tab15_ok : TabOk Tryd.prog tab15 := tab_cons mixed tab14_ok (by decide) fun args v h => by
  unfold ans20 at h
  split at h
  · rename_i c0 c1 h0
    split at h
    · rename_i x0 x1 x2 x3 h1 h2
      injection h with h; subst h
      obtain rfl : c0 = #[.int .i64 x0, .int .i64 x1] := by rw [← Array.toArray_toList (xs := c0), h1]
      obtain rfl : c1 = #[.int .i64 x2, .int .i64 x3] := by rw [← Array.toArray_toList (xs := c1), h2]
      obtain rfl : args = #[.agg #[.int .i64 x0, .int .i64 x1], .agg #[.int .i64 x2, .int .i64 x3]] := by rw [← Array.toArray_toList (xs := args), h0]
      exact ⟨rfl, rfl, ⟨[(2000001, 0)], [], []⟩, 300, by rw [tree20_eq]; exact tree20_res _ _ _ _⟩
    · cases h
  · cases h
end Go.Proofs.YtfpcmckachpnpaaDoor.Vx
