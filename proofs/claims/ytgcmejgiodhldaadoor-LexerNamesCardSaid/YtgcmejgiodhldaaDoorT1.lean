/- The answers of functions, read off their texts. -/
import Derived.Test.YtgcmejgiodhldaaDoorX17
import Derived.Test.YtgcmejgiodhldaaDoorProg
import Derived.Test.YtgcmejgiodhldaaDoorXA
namespace Go.Proofs.YtgcmejgiodhldaaDoor.Vx
open Go Go.RowKit Go.Proofs
set_option maxRecDepth 100000
set_option linter.unusedVariables false
set_option linter.unusedSimpArgs false
def tab0 : Tab := []
theorem tab0_ok : TabOk Tryd.prog tab0 := tab_nil
/- gangsaw/gangsawlaw09.awake -/
def ans9 : Ans := fun args => match args.toList with
  | [] => some (.bool true)
  | _ => none
def tab1 : Tab := (9, .ans ans9) :: tab0
theorem tab1_ok : TabOk Tryd.prog tab1 := tab_put tab0_ok (by decide) fun args v h => by
  unfold ans9 at h
  split at h
  · rename_i h0
    injection h with h; subst h
    obtain rfl : args = #[] := by rw [← Array.toArray_toList (xs := args), h0]
    exact ⟨rfl, rfl, fun w hgl => awake_any w hgl⟩
  · cases h
/- gangsaw/lexer.isSmall -/
def o28 : Opts := ⟨[(2000001, 0)], [], []⟩
def lexer_isSmall_ok (_x0 : Int) : Bool :=
  (Bool.true)
def lexer_isSmall_0 (x0 : Int) : Bool :=
  (bif Decidable.decide ((97 : Int) ≤ x0) then Decidable.decide (x0 ≤ (122 : Int)) else Bool.false)
def ans28 : Ans := fun args => match args.toList with
  | [.int .u8 x0] => some (.bool (lexer_isSmall_0 x0))
  | _ => none
def tab2 : Tab := (28, .ans ans28) :: tab1
theorem lok28z {fn : Func} {c : Code} (hf : Tryd.prog.funcs[28]? = some fn) (hb : fn.body = some c) : LOk Tryd.prog (tb Tryd.prog tab1) o28.hints 0 c (noLoops) := by
  exact LOk.none
def tree28 (x0 : Int) : Tr Value :=
  .leaf (some (.bool (bif Decidable.decide ((97 : Int) ≤ x0) then Decidable.decide (x0 ≤ (122 : Int)) else Bool.false)))
theorem tree28_eq (x0 : Int) : vals (evFnT Tryd.prog (tb Tryd.prog tab1) (tbT Tryd.prog tab1) o28 (noLoops) 300 28 #[.int .u8 x0] []) = tree28 x0 := by kernel_rfl
theorem tree28_res (x0 : Int) : (tree28 x0).res = if lexer_isSmall_ok x0 = true then some (.bool (lexer_isSmall_0 x0)) else none := by
  unfold tree28 lexer_isSmall_ok lexer_isSmall_0
  simp only [Tr.res]
  first | (simp only [if_true, Bool.false_eq_true, if_false]; done) | rfl
theorem ok28 (x0 : Int) : lexer_isSmall_ok x0 = true := by
  unfold lexer_isSmall_ok
  rfl
theorem var28 (args : Array Value) (v : Value) (h : ans28 args = some v) : args.toList.all flat = true ∧ flat v = true ∧ ∃ o lt L, (∀ fn c, Tryd.prog.funcs[28]? = some fn → fn.body = some c → LOk Tryd.prog (tb Tryd.prog tab1) o.hints 0 c lt) ∧ (vals (evFnT Tryd.prog (tb Tryd.prog tab1) (tbT Tryd.prog tab1) o lt L 28 args [])).res = some v := by
  unfold ans28 at h
  split at h
  · rename_i x0 h0
    injection h with h; subst h
    obtain rfl : args = #[.int .u8 x0] := by rw [← Array.toArray_toList (xs := args), h0]
    exact ⟨rfl, rfl, o28, noLoops, 300, fun _ _ hf hb => lok28z hf hb, by rw [tree28_eq, tree28_res, if_pos (ok28 _)]⟩
  · cases h
theorem tab2_ok : TabOk Tryd.prog tab2 := tab_loops mixed tab1_ok (by decide) fun args v h => var28 args v h
/- gangsaw/lexer.isDigit -/
def o42 : Opts := ⟨[(2000001, 0)], [], []⟩
def lexer_isDigit_ok (_x0 : Int) : Bool :=
  (Bool.true)
def lexer_isDigit_0 (x0 : Int) : Bool :=
  (bif Decidable.decide ((48 : Int) ≤ x0) then Decidable.decide (x0 ≤ (57 : Int)) else Bool.false)
def ans42 : Ans := fun args => match args.toList with
  | [.int .u8 x0] => some (.bool (lexer_isDigit_0 x0))
  | _ => none
def tab3 : Tab := (42, .ans ans42) :: tab2
theorem lok42z {fn : Func} {c : Code} (hf : Tryd.prog.funcs[42]? = some fn) (hb : fn.body = some c) : LOk Tryd.prog (tb Tryd.prog tab2) o42.hints 0 c (noLoops) := by
  exact LOk.none
def tree42 (x0 : Int) : Tr Value :=
  .leaf (some (.bool (bif Decidable.decide ((48 : Int) ≤ x0) then Decidable.decide (x0 ≤ (57 : Int)) else Bool.false)))
theorem tree42_eq (x0 : Int) : vals (evFnT Tryd.prog (tb Tryd.prog tab2) (tbT Tryd.prog tab2) o42 (noLoops) 300 42 #[.int .u8 x0] []) = tree42 x0 := by kernel_rfl
theorem tree42_res (x0 : Int) : (tree42 x0).res = if lexer_isDigit_ok x0 = true then some (.bool (lexer_isDigit_0 x0)) else none := by
  unfold tree42 lexer_isDigit_ok lexer_isDigit_0
  simp only [Tr.res]
  first | (simp only [if_true, Bool.false_eq_true, if_false]; done) | rfl
theorem ok42 (x0 : Int) : lexer_isDigit_ok x0 = true := by
  unfold lexer_isDigit_ok
  rfl
theorem var42 (args : Array Value) (v : Value) (h : ans42 args = some v) : args.toList.all flat = true ∧ flat v = true ∧ ∃ o lt L, (∀ fn c, Tryd.prog.funcs[42]? = some fn → fn.body = some c → LOk Tryd.prog (tb Tryd.prog tab2) o.hints 0 c lt) ∧ (vals (evFnT Tryd.prog (tb Tryd.prog tab2) (tbT Tryd.prog tab2) o lt L 42 args [])).res = some v := by
  unfold ans42 at h
  split at h
  · rename_i x0 h0
    injection h with h; subst h
    obtain rfl : args = #[.int .u8 x0] := by rw [← Array.toArray_toList (xs := args), h0]
    exact ⟨rfl, rfl, o42, noLoops, 300, fun _ _ hf hb => lok42z hf hb, by rw [tree42_eq, tree42_res, if_pos (ok42 _)]⟩
  · cases h
theorem tab3_ok : TabOk Tryd.prog tab3 := tab_loops mixed tab2_ok (by decide) fun args v h => var42 args v h
/- gangsaw/gangsawref09.digit -/
def o47 : Opts := ⟨[(2000001, 0)], [], []⟩
def ref09_digit_ok (_x0 : Int) : Bool :=
  (Bool.true)
def ref09_digit_0 (x0 : Int) : Bool :=
  (bif Decidable.decide (x0 ≥ (48 : Int)) then Decidable.decide (x0 ≤ (57 : Int)) else Bool.false)
def ans47 : Ans := fun args => match args.toList with
  | [.int .u8 x0] => some (.bool (ref09_digit_0 x0))
  | _ => none
def tab4 : Tab := (47, .ans ans47) :: tab3
theorem lok47z {fn : Func} {c : Code} (hf : Tryd.prog.funcs[47]? = some fn) (hb : fn.body = some c) : LOk Tryd.prog (tb Tryd.prog tab3) o47.hints 0 c (noLoops) := by
  exact LOk.none
def tree47 (x0 : Int) : Tr Value :=
  .leaf (some (.bool (bif Decidable.decide (x0 ≥ (48 : Int)) then Decidable.decide (x0 ≤ (57 : Int)) else Bool.false)))
theorem tree47_eq (x0 : Int) : vals (evFnT Tryd.prog (tb Tryd.prog tab3) (tbT Tryd.prog tab3) o47 (noLoops) 300 47 #[.int .u8 x0] []) = tree47 x0 := by kernel_rfl
theorem tree47_res (x0 : Int) : (tree47 x0).res = if ref09_digit_ok x0 = true then some (.bool (ref09_digit_0 x0)) else none := by
  unfold tree47 ref09_digit_ok ref09_digit_0
  simp only [Tr.res]
  first | (simp only [if_true, Bool.false_eq_true, if_false]; done) | rfl
theorem ok47 (x0 : Int) : ref09_digit_ok x0 = true := by
  unfold ref09_digit_ok
  rfl
theorem var47 (args : Array Value) (v : Value) (h : ans47 args = some v) : args.toList.all flat = true ∧ flat v = true ∧ ∃ o lt L, (∀ fn c, Tryd.prog.funcs[47]? = some fn → fn.body = some c → LOk Tryd.prog (tb Tryd.prog tab3) o.hints 0 c lt) ∧ (vals (evFnT Tryd.prog (tb Tryd.prog tab3) (tbT Tryd.prog tab3) o lt L 47 args [])).res = some v := by
  unfold ans47 at h
  split at h
  · rename_i x0 h0
    injection h with h; subst h
    obtain rfl : args = #[.int .u8 x0] := by rw [← Array.toArray_toList (xs := args), h0]
    exact ⟨rfl, rfl, o47, noLoops, 300, fun _ _ hf hb => lok47z hf hb, by rw [tree47_eq, tree47_res, if_pos (ok47 _)]⟩
  · cases h
theorem tab4_ok : TabOk Tryd.prog tab4 := tab_loops mixed tab3_ok (by decide) fun args v h => var47 args v h
/- gangsaw/gangsawref09.letter -/
def o32 : Opts := ⟨[(2000001, 0)], [], []⟩
def ref09_letter_ok (_x0 : Int) : Bool :=
  (Bool.true)
def ref09_letter_0 (x0 : Int) : Bool :=
  (bif bif Decidable.decide (x0 ≥ (97 : Int)) then Decidable.decide (x0 ≤ (122 : Int)) else Bool.false then Bool.true else bif Decidable.decide (x0 ≥ (65 : Int)) then Decidable.decide (x0 ≤ (90 : Int)) else Bool.false)
def ans32 : Ans := fun args => match args.toList with
  | [.int .u8 x0] => some (.bool (ref09_letter_0 x0))
  | _ => none
def tab5 : Tab := (32, .ans ans32) :: tab4
theorem lok32z {fn : Func} {c : Code} (hf : Tryd.prog.funcs[32]? = some fn) (hb : fn.body = some c) : LOk Tryd.prog (tb Tryd.prog tab4) o32.hints 0 c (noLoops) := by
  exact LOk.none
def tree32 (x0 : Int) : Tr Value :=
  .leaf (some (.bool (bif bif Decidable.decide (x0 ≥ (97 : Int)) then Decidable.decide (x0 ≤ (122 : Int)) else Bool.false then Bool.true else bif Decidable.decide (x0 ≥ (65 : Int)) then Decidable.decide (x0 ≤ (90 : Int)) else Bool.false)))
theorem tree32_eq (x0 : Int) : vals (evFnT Tryd.prog (tb Tryd.prog tab4) (tbT Tryd.prog tab4) o32 (noLoops) 300 32 #[.int .u8 x0] []) = tree32 x0 := by kernel_rfl
theorem tree32_res (x0 : Int) : (tree32 x0).res = if ref09_letter_ok x0 = true then some (.bool (ref09_letter_0 x0)) else none := by
  unfold tree32 ref09_letter_ok ref09_letter_0
  simp only [Tr.res]
  first | (simp only [if_true, Bool.false_eq_true, if_false]; done) | rfl
theorem ok32 (x0 : Int) : ref09_letter_ok x0 = true := by
  unfold ref09_letter_ok
  rfl
theorem var32 (args : Array Value) (v : Value) (h : ans32 args = some v) : args.toList.all flat = true ∧ flat v = true ∧ ∃ o lt L, (∀ fn c, Tryd.prog.funcs[32]? = some fn → fn.body = some c → LOk Tryd.prog (tb Tryd.prog tab4) o.hints 0 c lt) ∧ (vals (evFnT Tryd.prog (tb Tryd.prog tab4) (tbT Tryd.prog tab4) o lt L 32 args [])).res = some v := by
  unfold ans32 at h
  split at h
  · rename_i x0 h0
    injection h with h; subst h
    obtain rfl : args = #[.int .u8 x0] := by rw [← Array.toArray_toList (xs := args), h0]
    exact ⟨rfl, rfl, o32, noLoops, 300, fun _ _ hf hb => lok32z hf hb, by rw [tree32_eq, tree32_res, if_pos (ok32 _)]⟩
  · cases h
theorem tab5_ok : TabOk Tryd.prog tab5 := tab_loops mixed tab4_ok (by decide) fun args v h => var32 args v h
/- gangsaw/lexer.isOfName -/
def o30 : Opts := ⟨[(2000001, 0)], [], []⟩
def lexer_isOfName_ok (_x0 : Int) : Bool :=
  (Bool.true)
def lexer_isOfName_0 (x0 : Int) : Bool :=
  (bif bif lexer_isSmall_0 x0 then Bool.true else lexer_isDigit_0 x0 then Bool.true else x0 == (95 : Int))
def ans30 : Ans := fun args => match args.toList with
  | [.int .u8 x0] => some (.bool (lexer_isOfName_0 x0))
  | _ => none
def tab6 : Tab := (30, .ans ans30) :: tab5
theorem lok30z {fn : Func} {c : Code} (hf : Tryd.prog.funcs[30]? = some fn) (hb : fn.body = some c) : LOk Tryd.prog (tb Tryd.prog tab5) o30.hints 0 c (noLoops) := by
  exact LOk.none
def tree30 (x0 : Int) : Tr Value :=
  .leaf (some (.bool (bif bif lexer_isSmall_0 x0 then Bool.true else lexer_isDigit_0 x0 then Bool.true else x0 == (95 : Int))))
theorem tree30_eq (x0 : Int) : vals (evFnT Tryd.prog (tb Tryd.prog tab5) (tbT Tryd.prog tab5) o30 (noLoops) 300 30 #[.int .u8 x0] []) = tree30 x0 := by kernel_rfl
theorem tree30_res (x0 : Int) : (tree30 x0).res = if lexer_isOfName_ok x0 = true then some (.bool (lexer_isOfName_0 x0)) else none := by
  unfold tree30 lexer_isOfName_ok lexer_isOfName_0
  simp only [Tr.res]
  first | (simp only [if_true, Bool.false_eq_true, if_false]; done) | rfl
theorem ok30 (x0 : Int) : lexer_isOfName_ok x0 = true := by
  unfold lexer_isOfName_ok
  rfl
theorem var30 (args : Array Value) (v : Value) (h : ans30 args = some v) : args.toList.all flat = true ∧ flat v = true ∧ ∃ o lt L, (∀ fn c, Tryd.prog.funcs[30]? = some fn → fn.body = some c → LOk Tryd.prog (tb Tryd.prog tab5) o.hints 0 c lt) ∧ (vals (evFnT Tryd.prog (tb Tryd.prog tab5) (tbT Tryd.prog tab5) o lt L 30 args [])).res = some v := by
  unfold ans30 at h
  split at h
  · rename_i x0 h0
    injection h with h; subst h
    obtain rfl : args = #[.int .u8 x0] := by rw [← Array.toArray_toList (xs := args), h0]
    exact ⟨rfl, rfl, o30, noLoops, 300, fun _ _ hf hb => lok30z hf hb, by rw [tree30_eq, tree30_res, if_pos (ok30 _)]⟩
  · cases h
theorem tab6_ok : TabOk Tryd.prog tab6 := tab_loops mixed tab5_ok (by decide) fun args v h => var30 args v h
/- gangsaw/lexer.isOfLabel -/
def o33 : Opts := ⟨[(2000001, 0)], [], []⟩
def lexer_isOfLabel_ok (_x0 : Int) : Bool :=
  (Bool.true)
def lexer_isOfLabel_0 (x0 : Int) : Bool :=
  (bif bif Decidable.decide ((32 : Int) ≤ x0) then Decidable.decide (x0 ≤ (126 : Int)) else Bool.false then x0 != (34 : Int) else Bool.false)
def ans33 : Ans := fun args => match args.toList with
  | [.int .u8 x0] => some (.bool (lexer_isOfLabel_0 x0))
  | _ => none
def tab7 : Tab := (33, .ans ans33) :: tab6
theorem lok33z {fn : Func} {c : Code} (hf : Tryd.prog.funcs[33]? = some fn) (hb : fn.body = some c) : LOk Tryd.prog (tb Tryd.prog tab6) o33.hints 0 c (noLoops) := by
  exact LOk.none
def tree33 (x0 : Int) : Tr Value :=
  .leaf (some (.bool (bif bif Decidable.decide ((32 : Int) ≤ x0) then Decidable.decide (x0 ≤ (126 : Int)) else Bool.false then x0 != (34 : Int) else Bool.false)))
theorem tree33_eq (x0 : Int) : vals (evFnT Tryd.prog (tb Tryd.prog tab6) (tbT Tryd.prog tab6) o33 (noLoops) 300 33 #[.int .u8 x0] []) = tree33 x0 := by kernel_rfl
theorem tree33_res (x0 : Int) : (tree33 x0).res = if lexer_isOfLabel_ok x0 = true then some (.bool (lexer_isOfLabel_0 x0)) else none := by
  unfold tree33 lexer_isOfLabel_ok lexer_isOfLabel_0
  simp only [Tr.res]
  first | (simp only [if_true, Bool.false_eq_true, if_false]; done) | rfl
theorem ok33 (x0 : Int) : lexer_isOfLabel_ok x0 = true := by
  unfold lexer_isOfLabel_ok
  rfl
theorem var33 (args : Array Value) (v : Value) (h : ans33 args = some v) : args.toList.all flat = true ∧ flat v = true ∧ ∃ o lt L, (∀ fn c, Tryd.prog.funcs[33]? = some fn → fn.body = some c → LOk Tryd.prog (tb Tryd.prog tab6) o.hints 0 c lt) ∧ (vals (evFnT Tryd.prog (tb Tryd.prog tab6) (tbT Tryd.prog tab6) o lt L 33 args [])).res = some v := by
  unfold ans33 at h
  split at h
  · rename_i x0 h0
    injection h with h; subst h
    obtain rfl : args = #[.int .u8 x0] := by rw [← Array.toArray_toList (xs := args), h0]
    exact ⟨rfl, rfl, o33, noLoops, 300, fun _ _ hf hb => lok33z hf hb, by rw [tree33_eq, tree33_res, if_pos (ok33 _)]⟩
  · cases h
theorem tab7_ok : TabOk Tryd.prog tab7 := tab_loops mixed tab6_ok (by decide) fun args v h => var33 args v h
/- gangsaw/gangsawref09.part -/
def o31 : Opts := ⟨[(2000001, 0)], [], []⟩
def ref09_part_ok (_x0 : Int) : Bool :=
  (Bool.true)
def ref09_part_0 (x0 : Int) : Bool :=
  (bif bif ref09_digit_0 x0 then Bool.true else ref09_letter_0 x0 then Bool.true else x0 == (95 : Int))
def ans31 : Ans := fun args => match args.toList with
  | [.int .u8 x0] => some (.bool (ref09_part_0 x0))
  | _ => none
def tab8 : Tab := (31, .ans ans31) :: tab7
theorem lok31z {fn : Func} {c : Code} (hf : Tryd.prog.funcs[31]? = some fn) (hb : fn.body = some c) : LOk Tryd.prog (tb Tryd.prog tab7) o31.hints 0 c (noLoops) := by
  exact LOk.none
def tree31 (x0 : Int) : Tr Value :=
  .leaf (some (.bool (bif bif ref09_digit_0 x0 then Bool.true else ref09_letter_0 x0 then Bool.true else x0 == (95 : Int))))
theorem tree31_eq (x0 : Int) : vals (evFnT Tryd.prog (tb Tryd.prog tab7) (tbT Tryd.prog tab7) o31 (noLoops) 300 31 #[.int .u8 x0] []) = tree31 x0 := by kernel_rfl
theorem tree31_res (x0 : Int) : (tree31 x0).res = if ref09_part_ok x0 = true then some (.bool (ref09_part_0 x0)) else none := by
  unfold tree31 ref09_part_ok ref09_part_0
  simp only [Tr.res]
  first | (simp only [if_true, Bool.false_eq_true, if_false]; done) | rfl
theorem ok31 (x0 : Int) : ref09_part_ok x0 = true := by
  unfold ref09_part_ok
  rfl
theorem var31 (args : Array Value) (v : Value) (h : ans31 args = some v) : args.toList.all flat = true ∧ flat v = true ∧ ∃ o lt L, (∀ fn c, Tryd.prog.funcs[31]? = some fn → fn.body = some c → LOk Tryd.prog (tb Tryd.prog tab7) o.hints 0 c lt) ∧ (vals (evFnT Tryd.prog (tb Tryd.prog tab7) (tbT Tryd.prog tab7) o lt L 31 args [])).res = some v := by
  unfold ans31 at h
  split at h
  · rename_i x0 h0
    injection h with h; subst h
    obtain rfl : args = #[.int .u8 x0] := by rw [← Array.toArray_toList (xs := args), h0]
    exact ⟨rfl, rfl, o31, noLoops, 300, fun _ _ hf hb => lok31z hf hb, by rw [tree31_eq, tree31_res, if_pos (ok31 _)]⟩
  · cases h
theorem tab8_ok : TabOk Tryd.prog tab8 := tab_loops mixed tab7_ok (by decide) fun args v h => var31 args v h
/- gangsaw/lexer.run -/
def o29 : Opts := ⟨[(9, 0), (16, 0), (3000014, 0)], [(2, [2, 3, 4, 5, 6, 9, 10, 11, 12, 13, 14, 15, 16, 17, 18, 19, 20])], []⟩
noncomputable def b29_2 : Code := (((Tryd.prog.funcs[29]?).bind (·.body)).bind (loopAt · 2)).getD .skip
structure S29_2a where
  v8 : Int
def T29_2a (v0 : ByteArray) (v7 : Int) (s : S29_2a) : Array Value := #[.string (v0), (Go.Value.func (Go.Fn.func 30) #[] #[] : Value), lost, lost, lost, lost, lost, .int .i64 (v7), .int .i64 (s.v8), lost, lost, lost, lost, lost, lost, lost, lost, lost, lost, lost, lost]
def M29_2a (v0 : ByteArray) (v7 : Int) (s : S29_2a) : AH := []
def nx29_2a (v0 : ByteArray) (v7 : Int) (s : S29_2a) : Option S29_2a :=
  if Decidable.decide (s.v8 < v7) then (if Decidable.decide ((0 : Int) ≤ s.v8 ∧ s.v8 < ↑v0.size) then (if !lexer_isOfName_0 (byteAt v0 s.v8) then none else some ⟨IntKind.i64.wrap (s.v8 + (1 : Int))⟩) else none) else none
def ex29_2a (v0 : ByteArray) (v7 : Int) (s : S29_2a) : Tr (Exit × Array Value × AH) :=
  .node 9 (Decidable.decide (s.v8 < v7))
  (.node 14 (Decidable.decide ((0 : Int) ≤ s.v8 ∧ s.v8 < ↑v0.size))
   (.node 16 (!lexer_isOfName_0 (byteAt v0 s.v8))
    (.leaf (some (Exit.ret, #[.string (v0), (Go.Value.func (Go.Fn.func 30) #[] #[] : Value), .tuple #[(Go.Value.chan (Option.some 1) : Value)], .tuple #[(Go.Value.chan (Option.some 1) : Value)], .int .i64 (s.v8), .int .i64 (s.v8), .tuple #[(Go.Value.chan (Option.some 1) : Value)], .int .i64 (v7), .int .i64 (s.v8), .bool (Bool.true), .int .i64 (s.v8), (Go.Value.func (Go.Fn.func 30) #[] #[] : Value), .string (v0), .int .i64 (s.v8), .int .u8 (byteAt v0 s.v8), .bool (lexer_isOfName_0 (byteAt v0 s.v8)), .bool (Bool.true), .int .i64 (s.v8), .tuple #[(Go.Value.chan (Option.some 1) : Value)], .tuple #[(Go.Value.chan (Option.some 1) : Value)], .tuple #[(Go.Value.chan (Option.some 1) : Value)]], [])))
    (.leaf none))
   (.leaf none))
  (.leaf (some (Exit.exit 0, #[.string (v0), (Go.Value.func (Go.Fn.func 30) #[] #[] : Value), .tuple #[(Go.Value.chan (Option.some 1) : Value)], .tuple #[(Go.Value.chan (Option.some 1) : Value)], .tuple #[(Go.Value.chan (Option.some 1) : Value)], .tuple #[(Go.Value.chan (Option.some 1) : Value)], .tuple #[(Go.Value.chan (Option.some 1) : Value)], .int .i64 (v7), .int .i64 (s.v8), .bool (Bool.false), .tuple #[(Go.Value.chan (Option.some 1) : Value)], .tuple #[(Go.Value.chan (Option.some 1) : Value)], .tuple #[(Go.Value.chan (Option.some 1) : Value)], .tuple #[(Go.Value.chan (Option.some 1) : Value)], .tuple #[(Go.Value.chan (Option.some 1) : Value)], .tuple #[(Go.Value.chan (Option.some 1) : Value)], .tuple #[(Go.Value.chan (Option.some 1) : Value)], .tuple #[(Go.Value.chan (Option.some 1) : Value)], .tuple #[(Go.Value.chan (Option.some 1) : Value)], .tuple #[(Go.Value.chan (Option.some 1) : Value)], .tuple #[(Go.Value.chan (Option.some 1) : Value)]], [])))
def fin29_2a (v0 : ByteArray) (v7 : Int) (s : S29_2a) : S29_2a := lgo (nx29_2a v0 v7) ((v7 - s.v8).toNat) s
def kn29_2a (t : Array Value) (H : AH) : Tr (Exit × Array Value × AH) :=
  match t.toList, H with
  | .string v0 :: w1 :: w2 :: w3 :: w4 :: w5 :: w6 :: .int .i64 v7 :: .int .i64 v8 :: w9 :: w10 :: w11 :: w12 :: w13 :: w14 :: w15 :: w16 :: w17 :: w18 :: w19 :: w20 :: [], [] =>
    if veqL (veq 5) [w1, w2, w3, w4, w5, w6, w9, w10, w11, w12, w13, w14, w15, w16, w17, w18, w19, w20] [(Go.Value.func (Go.Fn.func 30) #[] #[] : Value), lost, lost, lost, lost, lost, lost, lost, lost, lost, lost, lost, lost, lost, lost, lost, lost, lost] then ex29_2a v0 v7 (fin29_2a v0 v7 ⟨v8⟩) else .leaf none
  | _, _ => .leaf none
def lt29a_1 : LoopT := fun id => if id = 2 then some kn29_2a else  none
structure S29_2b where
  v8 : Int
def T29_2b (v0 : ByteArray) (v7 : Int) (s : S29_2b) : Array Value := #[.string (v0), (Go.Value.func (Go.Fn.func 33) #[] #[] : Value), lost, lost, lost, lost, lost, .int .i64 (v7), .int .i64 (s.v8), lost, lost, lost, lost, lost, lost, lost, lost, lost, lost, lost, lost]
def M29_2b (v0 : ByteArray) (v7 : Int) (s : S29_2b) : AH := []
def nx29_2b (v0 : ByteArray) (v7 : Int) (s : S29_2b) : Option S29_2b :=
  if Decidable.decide (s.v8 < v7) then (if Decidable.decide ((0 : Int) ≤ s.v8 ∧ s.v8 < ↑v0.size) then (if !lexer_isOfLabel_0 (byteAt v0 s.v8) then none else some ⟨IntKind.i64.wrap (s.v8 + (1 : Int))⟩) else none) else none
def ex29_2b (v0 : ByteArray) (v7 : Int) (s : S29_2b) : Tr (Exit × Array Value × AH) :=
  .node 9 (Decidable.decide (s.v8 < v7))
  (.node 14 (Decidable.decide ((0 : Int) ≤ s.v8 ∧ s.v8 < ↑v0.size))
   (.node 16 (!lexer_isOfLabel_0 (byteAt v0 s.v8))
    (.leaf (some (Exit.ret, #[.string (v0), (Go.Value.func (Go.Fn.func 33) #[] #[] : Value), .tuple #[(Go.Value.chan (Option.some 1) : Value)], .tuple #[(Go.Value.chan (Option.some 1) : Value)], .int .i64 (s.v8), .int .i64 (s.v8), .tuple #[(Go.Value.chan (Option.some 1) : Value)], .int .i64 (v7), .int .i64 (s.v8), .bool (Bool.true), .int .i64 (s.v8), (Go.Value.func (Go.Fn.func 33) #[] #[] : Value), .string (v0), .int .i64 (s.v8), .int .u8 (byteAt v0 s.v8), .bool (lexer_isOfLabel_0 (byteAt v0 s.v8)), .bool (Bool.true), .int .i64 (s.v8), .tuple #[(Go.Value.chan (Option.some 1) : Value)], .tuple #[(Go.Value.chan (Option.some 1) : Value)], .tuple #[(Go.Value.chan (Option.some 1) : Value)]], [])))
    (.leaf none))
   (.leaf none))
  (.leaf (some (Exit.exit 0, #[.string (v0), (Go.Value.func (Go.Fn.func 33) #[] #[] : Value), .tuple #[(Go.Value.chan (Option.some 1) : Value)], .tuple #[(Go.Value.chan (Option.some 1) : Value)], .tuple #[(Go.Value.chan (Option.some 1) : Value)], .tuple #[(Go.Value.chan (Option.some 1) : Value)], .tuple #[(Go.Value.chan (Option.some 1) : Value)], .int .i64 (v7), .int .i64 (s.v8), .bool (Bool.false), .tuple #[(Go.Value.chan (Option.some 1) : Value)], .tuple #[(Go.Value.chan (Option.some 1) : Value)], .tuple #[(Go.Value.chan (Option.some 1) : Value)], .tuple #[(Go.Value.chan (Option.some 1) : Value)], .tuple #[(Go.Value.chan (Option.some 1) : Value)], .tuple #[(Go.Value.chan (Option.some 1) : Value)], .tuple #[(Go.Value.chan (Option.some 1) : Value)], .tuple #[(Go.Value.chan (Option.some 1) : Value)], .tuple #[(Go.Value.chan (Option.some 1) : Value)], .tuple #[(Go.Value.chan (Option.some 1) : Value)], .tuple #[(Go.Value.chan (Option.some 1) : Value)]], [])))
def fin29_2b (v0 : ByteArray) (v7 : Int) (s : S29_2b) : S29_2b := lgo (nx29_2b v0 v7) ((v7 - s.v8).toNat) s
def kn29_2b (t : Array Value) (H : AH) : Tr (Exit × Array Value × AH) :=
  match t.toList, H with
  | .string v0 :: w1 :: w2 :: w3 :: w4 :: w5 :: w6 :: .int .i64 v7 :: .int .i64 v8 :: w9 :: w10 :: w11 :: w12 :: w13 :: w14 :: w15 :: w16 :: w17 :: w18 :: w19 :: w20 :: [], [] =>
    if veqL (veq 5) [w1, w2, w3, w4, w5, w6, w9, w10, w11, w12, w13, w14, w15, w16, w17, w18, w19, w20] [(Go.Value.func (Go.Fn.func 33) #[] #[] : Value), lost, lost, lost, lost, lost, lost, lost, lost, lost, lost, lost, lost, lost, lost, lost, lost, lost] then ex29_2b v0 v7 (fin29_2b v0 v7 ⟨v8⟩) else .leaf none
  | _, _ => .leaf none
def lt29b_1 : LoopT := fun id => if id = 2 then some kn29_2b else  none
def lexer_run_a_ok (x0 : ByteArray) : Bool :=
  if Decidable.decide ((fin29_2a x0 (↑x0.size) (S29_2a.mk (0 : Int))).v8 < ↑x0.size) then (if Decidable.decide ((0 : Int) ≤ (fin29_2a x0 (↑x0.size) (S29_2a.mk (0 : Int))).v8 ∧ (fin29_2a x0 (↑x0.size) (S29_2a.mk (0 : Int))).v8 < ↑x0.size) then (if !lexer_isOfName_0 (byteAt x0 (fin29_2a x0 (↑x0.size) (S29_2a.mk (0 : Int))).v8) then (Bool.true) else (Bool.false)) else (Bool.false)) else (Bool.true)
def lexer_run_a_0 (x0 : ByteArray) : Int :=
  if Decidable.decide ((fin29_2a x0 (↑x0.size) (S29_2a.mk (0 : Int))).v8 < ↑x0.size) then ((fin29_2a x0 (↑x0.size) (S29_2a.mk (0 : Int))).v8) else (↑x0.size)
def ans29a : Array Value → Option (Bool × Value) := fun args => match args.toList with
  | [.string x0, .func (.func 30) c1a c1b] => if c1a.size = 0 ∧ c1b.size = 0 then some (lexer_run_a_ok x0, .int .i64 (lexer_run_a_0 x0)) else none
  | _ => none
def lexer_run_b_ok (x0 : ByteArray) : Bool :=
  if Decidable.decide ((fin29_2b x0 (↑x0.size) (S29_2b.mk (0 : Int))).v8 < ↑x0.size) then (if Decidable.decide ((0 : Int) ≤ (fin29_2b x0 (↑x0.size) (S29_2b.mk (0 : Int))).v8 ∧ (fin29_2b x0 (↑x0.size) (S29_2b.mk (0 : Int))).v8 < ↑x0.size) then (if !lexer_isOfLabel_0 (byteAt x0 (fin29_2b x0 (↑x0.size) (S29_2b.mk (0 : Int))).v8) then (Bool.true) else (Bool.false)) else (Bool.false)) else (Bool.true)
def lexer_run_b_0 (x0 : ByteArray) : Int :=
  if Decidable.decide ((fin29_2b x0 (↑x0.size) (S29_2b.mk (0 : Int))).v8 < ↑x0.size) then ((fin29_2b x0 (↑x0.size) (S29_2b.mk (0 : Int))).v8) else (↑x0.size)
def ans29b : Array Value → Option (Bool × Value) := fun args => match args.toList with
  | [.string x0, .func (.func 33) c1a c1b] => if c1a.size = 0 ∧ c1b.size = 0 then some (lexer_run_b_ok x0, .int .i64 (lexer_run_b_0 x0)) else none
  | _ => none
def ans29 : Array Value → Option (Bool × Value) := fun args => (match ans29a args with | some r => some r | none => (match ans29b args with | some r => some r | none => none))
def tab9 : Tab := (29, .cond ans29) :: tab8
def rt29_2a (v0 : ByteArray) (v7 : Int) (s : S29_2a) : Tr (Exit × Array Value × AH) :=
  .node 9 (Decidable.decide (s.v8 < v7))
  (.node 14 (Decidable.decide ((0 : Int) ≤ s.v8 ∧ s.v8 < ↑v0.size))
   (.node 16 (!lexer_isOfName_0 (byteAt v0 s.v8))
    (.leaf (some (Exit.ret, #[.string (v0), (Go.Value.func (Go.Fn.func 30) #[] #[] : Value), .tuple #[(Go.Value.chan (Option.some 1) : Value)], .tuple #[(Go.Value.chan (Option.some 1) : Value)], .int .i64 (s.v8), .int .i64 (s.v8), .tuple #[(Go.Value.chan (Option.some 1) : Value)], .int .i64 (v7), .int .i64 (s.v8), .bool (Bool.true), .int .i64 (s.v8), (Go.Value.func (Go.Fn.func 30) #[] #[] : Value), .string (v0), .int .i64 (s.v8), .int .u8 (byteAt v0 s.v8), .bool (lexer_isOfName_0 (byteAt v0 s.v8)), .bool (Bool.true), .int .i64 (s.v8), .tuple #[(Go.Value.chan (Option.some 1) : Value)], .tuple #[(Go.Value.chan (Option.some 1) : Value)], .tuple #[(Go.Value.chan (Option.some 1) : Value)]], [])))
    (.leaf (some (.normal, T29_2a v0 v7 ⟨IntKind.i64.wrap (s.v8 + (1 : Int))⟩, M29_2a v0 v7 ⟨IntKind.i64.wrap (s.v8 + (1 : Int))⟩))))
   (.leaf none))
  (.leaf (some (Exit.exit 0, #[.string (v0), (Go.Value.func (Go.Fn.func 30) #[] #[] : Value), .tuple #[(Go.Value.chan (Option.some 1) : Value)], .tuple #[(Go.Value.chan (Option.some 1) : Value)], .tuple #[(Go.Value.chan (Option.some 1) : Value)], .tuple #[(Go.Value.chan (Option.some 1) : Value)], .tuple #[(Go.Value.chan (Option.some 1) : Value)], .int .i64 (v7), .int .i64 (s.v8), .bool (Bool.false), .tuple #[(Go.Value.chan (Option.some 1) : Value)], .tuple #[(Go.Value.chan (Option.some 1) : Value)], .tuple #[(Go.Value.chan (Option.some 1) : Value)], .tuple #[(Go.Value.chan (Option.some 1) : Value)], .tuple #[(Go.Value.chan (Option.some 1) : Value)], .tuple #[(Go.Value.chan (Option.some 1) : Value)], .tuple #[(Go.Value.chan (Option.some 1) : Value)], .tuple #[(Go.Value.chan (Option.some 1) : Value)], .tuple #[(Go.Value.chan (Option.some 1) : Value)], .tuple #[(Go.Value.chan (Option.some 1) : Value)], .tuple #[(Go.Value.chan (Option.some 1) : Value)]], [])))
theorem rt29_2a_eq  (v0 : ByteArray) (v7 : Int) (s : S29_2a) : roundT Tryd.prog (tb Tryd.prog tab8) (tbT Tryd.prog tab8) (o29) (noLoops) 0 300 b29_2 (T29_2a v0 v7 s) (M29_2a v0 v7 s) = rt29_2a v0 v7 s := by kernel_rfl
theorem in29_2a (v0 : ByteArray) (v7 : Int) (s s2 : S29_2a) (h : nx29_2a v0 v7 s = some s2) : (rt29_2a v0 v7 s).res = some (.normal, T29_2a v0 v7 s2, M29_2a v0 v7 s2) := by
  unfold nx29_2a at h
  unfold rt29_2a
  simp only [Tr.res] at h ⊢
  generalize (Decidable.decide (s.v8 < v7)) = b0 at *
  generalize (Decidable.decide ((0 : Int) ≤ s.v8 ∧ s.v8 < ↑v0.size)) = b1 at *
  generalize (!lexer_isOfName_0 (byteAt v0 s.v8)) = b2 at *
  cases b0 with
  | true =>
   cases b1 with
   | true =>
    cases b2 with
    | true =>
     first | cases h | (simp at h)
    | false =>
     first | (cases h; rfl) | (simp only [if_true, Bool.false_eq_true, if_false, Option.some.injEq] at h ⊢; subst h; rfl)
   | false =>
    first | cases h | (simp at h)
  | false =>
   first | cases h | (simp at h)
theorem out29_2a (v0 : ByteArray) (v7 : Int) (s : S29_2a) (r : Exit × Array Value × AH) (h : (ex29_2a v0 v7 s).res = some r) : r.1 ≠ .normal ∧ (rt29_2a v0 v7 s).res = some r := by
  unfold ex29_2a at h
  unfold rt29_2a
  simp only [Tr.res] at h ⊢
  generalize (Decidable.decide (s.v8 < v7)) = b0 at *
  generalize (Decidable.decide ((0 : Int) ≤ s.v8 ∧ s.v8 < ↑v0.size)) = b1 at *
  generalize (!lexer_isOfName_0 (byteAt v0 s.v8)) = b2 at *
  cases b0 with
  | true =>
   cases b1 with
   | true =>
    cases b2 with
    | true =>
     first | (cases h; exact ⟨(by intro hh; cases hh), rfl⟩) | (simp only [if_true, Bool.false_eq_true, if_false, Option.some.injEq] at h ⊢; subst h; exact ⟨(by intro hh; cases hh), rfl⟩)
    | false =>
     first | cases h | (simp at h)
   | false =>
    first | cases h | (simp at h)
  | false =>
   first | (cases h; exact ⟨(by intro hh; cases hh), rfl⟩) | (simp only [if_true, Bool.false_eq_true, if_false, Option.some.injEq] at h ⊢; subst h; exact ⟨(by intro hh; cases hh), rfl⟩)
def rt29_2b (v0 : ByteArray) (v7 : Int) (s : S29_2b) : Tr (Exit × Array Value × AH) :=
  .node 9 (Decidable.decide (s.v8 < v7))
  (.node 14 (Decidable.decide ((0 : Int) ≤ s.v8 ∧ s.v8 < ↑v0.size))
   (.node 16 (!lexer_isOfLabel_0 (byteAt v0 s.v8))
    (.leaf (some (Exit.ret, #[.string (v0), (Go.Value.func (Go.Fn.func 33) #[] #[] : Value), .tuple #[(Go.Value.chan (Option.some 1) : Value)], .tuple #[(Go.Value.chan (Option.some 1) : Value)], .int .i64 (s.v8), .int .i64 (s.v8), .tuple #[(Go.Value.chan (Option.some 1) : Value)], .int .i64 (v7), .int .i64 (s.v8), .bool (Bool.true), .int .i64 (s.v8), (Go.Value.func (Go.Fn.func 33) #[] #[] : Value), .string (v0), .int .i64 (s.v8), .int .u8 (byteAt v0 s.v8), .bool (lexer_isOfLabel_0 (byteAt v0 s.v8)), .bool (Bool.true), .int .i64 (s.v8), .tuple #[(Go.Value.chan (Option.some 1) : Value)], .tuple #[(Go.Value.chan (Option.some 1) : Value)], .tuple #[(Go.Value.chan (Option.some 1) : Value)]], [])))
    (.leaf (some (.normal, T29_2b v0 v7 ⟨IntKind.i64.wrap (s.v8 + (1 : Int))⟩, M29_2b v0 v7 ⟨IntKind.i64.wrap (s.v8 + (1 : Int))⟩))))
   (.leaf none))
  (.leaf (some (Exit.exit 0, #[.string (v0), (Go.Value.func (Go.Fn.func 33) #[] #[] : Value), .tuple #[(Go.Value.chan (Option.some 1) : Value)], .tuple #[(Go.Value.chan (Option.some 1) : Value)], .tuple #[(Go.Value.chan (Option.some 1) : Value)], .tuple #[(Go.Value.chan (Option.some 1) : Value)], .tuple #[(Go.Value.chan (Option.some 1) : Value)], .int .i64 (v7), .int .i64 (s.v8), .bool (Bool.false), .tuple #[(Go.Value.chan (Option.some 1) : Value)], .tuple #[(Go.Value.chan (Option.some 1) : Value)], .tuple #[(Go.Value.chan (Option.some 1) : Value)], .tuple #[(Go.Value.chan (Option.some 1) : Value)], .tuple #[(Go.Value.chan (Option.some 1) : Value)], .tuple #[(Go.Value.chan (Option.some 1) : Value)], .tuple #[(Go.Value.chan (Option.some 1) : Value)], .tuple #[(Go.Value.chan (Option.some 1) : Value)], .tuple #[(Go.Value.chan (Option.some 1) : Value)], .tuple #[(Go.Value.chan (Option.some 1) : Value)], .tuple #[(Go.Value.chan (Option.some 1) : Value)]], [])))
theorem rt29_2b_eq  (v0 : ByteArray) (v7 : Int) (s : S29_2b) : roundT Tryd.prog (tb Tryd.prog tab8) (tbT Tryd.prog tab8) (o29) (noLoops) 0 300 b29_2 (T29_2b v0 v7 s) (M29_2b v0 v7 s) = rt29_2b v0 v7 s := by kernel_rfl
theorem in29_2b (v0 : ByteArray) (v7 : Int) (s s2 : S29_2b) (h : nx29_2b v0 v7 s = some s2) : (rt29_2b v0 v7 s).res = some (.normal, T29_2b v0 v7 s2, M29_2b v0 v7 s2) := by
  unfold nx29_2b at h
  unfold rt29_2b
  simp only [Tr.res] at h ⊢
  generalize (Decidable.decide (s.v8 < v7)) = b0 at *
  generalize (Decidable.decide ((0 : Int) ≤ s.v8 ∧ s.v8 < ↑v0.size)) = b1 at *
  generalize (!lexer_isOfLabel_0 (byteAt v0 s.v8)) = b2 at *
  cases b0 with
  | true =>
   cases b1 with
   | true =>
    cases b2 with
    | true =>
     first | cases h | (simp at h)
    | false =>
     first | (cases h; rfl) | (simp only [if_true, Bool.false_eq_true, if_false, Option.some.injEq] at h ⊢; subst h; rfl)
   | false =>
    first | cases h | (simp at h)
  | false =>
   first | cases h | (simp at h)
theorem out29_2b (v0 : ByteArray) (v7 : Int) (s : S29_2b) (r : Exit × Array Value × AH) (h : (ex29_2b v0 v7 s).res = some r) : r.1 ≠ .normal ∧ (rt29_2b v0 v7 s).res = some r := by
  unfold ex29_2b at h
  unfold rt29_2b
  simp only [Tr.res] at h ⊢
  generalize (Decidable.decide (s.v8 < v7)) = b0 at *
  generalize (Decidable.decide ((0 : Int) ≤ s.v8 ∧ s.v8 < ↑v0.size)) = b1 at *
  generalize (!lexer_isOfLabel_0 (byteAt v0 s.v8)) = b2 at *
  cases b0 with
  | true =>
   cases b1 with
   | true =>
    cases b2 with
    | true =>
     first | (cases h; exact ⟨(by intro hh; cases hh), rfl⟩) | (simp only [if_true, Bool.false_eq_true, if_false, Option.some.injEq] at h ⊢; subst h; exact ⟨(by intro hh; cases hh), rfl⟩)
    | false =>
     first | cases h | (simp at h)
   | false =>
    first | cases h | (simp at h)
  | false =>
   first | (cases h; exact ⟨(by intro hh; cases hh), rfl⟩) | (simp only [if_true, Bool.false_eq_true, if_false, Option.some.injEq] at h ⊢; subst h; exact ⟨(by intro hh; cases hh), rfl⟩)
theorem lok29_2a {fn : Func} {c : Code} (hf : Tryd.prog.funcs[29]? = some fn) (hb : fn.body = some c) : LOk Tryd.prog (tb Tryd.prog tab8) o29.hints 0 c (noLoops) := by
  exact LOk.none
theorem sub29_2a {fn : Func} {c : Code} (hf : Tryd.prog.funcs[29]? = some fn) (hb : fn.body = some c) : ∀ b2 ∈ loopsOf b29_2, loopAt c (headId b2) = some b2 := by
  have h1 : ((Tryd.prog.funcs[29]?).bind (·.body)) = some c := by rw [hf]; exact hb
  intro b2 h2
  rw [show loopsOf b29_2 = [] by kernel_rfl] at h2
  cases h2
theorem lk29_2a (t : Array Value) (H : AH) (r : Exit × Array Value × AH) {fn : Func} {c : Code} (hf : Tryd.prog.funcs[29]? = some fn) (hb : fn.body = some c) (hr : (kn29_2a t H).res = some r) : ∃ n, evRound Tryd.prog (tb Tryd.prog tab8) o29.hints 0 n b29_2 t H = some r := by
  unfold kn29_2a at hr
  split at hr
  · rename_i v0 w1 w2 w3 w4 w5 w6 v7 v8 w9 w10 w11 w12 w13 w14 w15 w16 w17 w18 w19 w20 ht
    split at hr
    · rename_i hv
      have hv := veqL_eq (veq_eq 5) _ _ hv
      simp only [List.cons.injEq, and_true] at hv
      obtain ⟨rfl, rfl, rfl, rfl, rfl, rfl, rfl, rfl, rfl, rfl, rfl, rfl, rfl, rfl, rfl, rfl, rfl, rfl⟩ := hv
      obtain rfl : t = T29_2a v0 v7 ⟨v8⟩ := by rw [← Array.toArray_toList (xs := t), ht]; rfl
      exact loop_fin (tbT_ok _) (T29_2a v0 v7) (M29_2a v0 v7) (nx29_2a v0 v7) (ex29_2a v0 v7) (lok29_2a hf hb) (sub29_2a hf hb) (fun s s2 h => by rw [rt29_2a_eq]; exact in29_2a v0 v7 s s2 h) (fun s r h => by rw [rt29_2a_eq]; exact out29_2a v0 v7 s r h) _ _ _ hr
    · cases hr
  · cases hr
theorem lok29az {fn : Func} {c : Code} (hf : Tryd.prog.funcs[29]? = some fn) (hb : fn.body = some c) : LOk Tryd.prog (tb Tryd.prog tab8) o29.hints 0 c (lt29a_1) := by
  intro id ans h b hl t H r hr
  unfold lt29a_1 at h
  split at h
  · rename_i he
    subst he
    simp only [Option.some.injEq] at h
    subst h
    obtain rfl : b = b29_2 := by unfold b29_2; rw [hf]; simp only [Option.bind_some, hb, hl, Option.getD_some]
    exact lk29_2a t H r hf hb hr
  cases h
theorem lok29_2b {fn : Func} {c : Code} (hf : Tryd.prog.funcs[29]? = some fn) (hb : fn.body = some c) : LOk Tryd.prog (tb Tryd.prog tab8) o29.hints 0 c (noLoops) := by
  exact LOk.none
theorem sub29_2b {fn : Func} {c : Code} (hf : Tryd.prog.funcs[29]? = some fn) (hb : fn.body = some c) : ∀ b2 ∈ loopsOf b29_2, loopAt c (headId b2) = some b2 := by
  have h1 : ((Tryd.prog.funcs[29]?).bind (·.body)) = some c := by rw [hf]; exact hb
  intro b2 h2
  rw [show loopsOf b29_2 = [] by kernel_rfl] at h2
  cases h2
theorem lk29_2b (t : Array Value) (H : AH) (r : Exit × Array Value × AH) {fn : Func} {c : Code} (hf : Tryd.prog.funcs[29]? = some fn) (hb : fn.body = some c) (hr : (kn29_2b t H).res = some r) : ∃ n, evRound Tryd.prog (tb Tryd.prog tab8) o29.hints 0 n b29_2 t H = some r := by
  unfold kn29_2b at hr
  split at hr
  · rename_i v0 w1 w2 w3 w4 w5 w6 v7 v8 w9 w10 w11 w12 w13 w14 w15 w16 w17 w18 w19 w20 ht
    split at hr
    · rename_i hv
      have hv := veqL_eq (veq_eq 5) _ _ hv
      simp only [List.cons.injEq, and_true] at hv
      obtain ⟨rfl, rfl, rfl, rfl, rfl, rfl, rfl, rfl, rfl, rfl, rfl, rfl, rfl, rfl, rfl, rfl, rfl, rfl⟩ := hv
      obtain rfl : t = T29_2b v0 v7 ⟨v8⟩ := by rw [← Array.toArray_toList (xs := t), ht]; rfl
      exact loop_fin (tbT_ok _) (T29_2b v0 v7) (M29_2b v0 v7) (nx29_2b v0 v7) (ex29_2b v0 v7) (lok29_2b hf hb) (sub29_2b hf hb) (fun s s2 h => by rw [rt29_2b_eq]; exact in29_2b v0 v7 s s2 h) (fun s r h => by rw [rt29_2b_eq]; exact out29_2b v0 v7 s r h) _ _ _ hr
    · cases hr
  · cases hr
theorem lok29bz {fn : Func} {c : Code} (hf : Tryd.prog.funcs[29]? = some fn) (hb : fn.body = some c) : LOk Tryd.prog (tb Tryd.prog tab8) o29.hints 0 c (lt29b_1) := by
  intro id ans h b hl t H r hr
  unfold lt29b_1 at h
  split at h
  · rename_i he
    subst he
    simp only [Option.some.injEq] at h
    subst h
    obtain rfl : b = b29_2 := by unfold b29_2; rw [hf]; simp only [Option.bind_some, hb, hl, Option.getD_some]
    exact lk29_2b t H r hf hb hr
  cases h
def tree29a (x0 : ByteArray) : Tr Value :=
  .node 9 (Decidable.decide ((fin29_2a x0 (↑x0.size) (S29_2a.mk (0 : Int))).v8 < ↑x0.size))
  (.node 14 (Decidable.decide ((0 : Int) ≤ (fin29_2a x0 (↑x0.size) (S29_2a.mk (0 : Int))).v8 ∧ (fin29_2a x0 (↑x0.size) (S29_2a.mk (0 : Int))).v8 < ↑x0.size))
   (.node 16 (!lexer_isOfName_0 (byteAt x0 (fin29_2a x0 (↑x0.size) (S29_2a.mk (0 : Int))).v8))
    (.leaf (some (.int .i64 ((fin29_2a x0 (↑x0.size) (S29_2a.mk (0 : Int))).v8))))
    (.leaf none))
   (.leaf none))
  (.leaf (some (.int .i64 (↑x0.size))))
theorem tree29a_eq (x0 : ByteArray) : vals (evFnT Tryd.prog (tb Tryd.prog tab8) (tbT Tryd.prog tab8) o29 (lt29a_1) 300 29 #[.string x0, .func (.func 30) #[] #[]] []) = tree29a x0 := by kernel_rfl
theorem tree29a_res (x0 : ByteArray) : (tree29a x0).res = if lexer_run_a_ok x0 = true then some (.int .i64 (lexer_run_a_0 x0)) else none := by
  unfold tree29a lexer_run_a_ok lexer_run_a_0
  simp only [Tr.res]
  generalize (Decidable.decide ((fin29_2a x0 (↑x0.size) (S29_2a.mk (0 : Int))).v8 < ↑x0.size)) = b0
  generalize (Decidable.decide ((0 : Int) ≤ (fin29_2a x0 (↑x0.size) (S29_2a.mk (0 : Int))).v8 ∧ (fin29_2a x0 (↑x0.size) (S29_2a.mk (0 : Int))).v8 < ↑x0.size)) = b1
  generalize (!lexer_isOfName_0 (byteAt x0 (fin29_2a x0 (↑x0.size) (S29_2a.mk (0 : Int))).v8)) = b2
  cases b0 with
  | true =>
   cases b1 with
   | true =>
    cases b2 with
    | true =>
     first | (simp only [if_true, Bool.false_eq_true, if_false]; done) | rfl
    | false =>
     first | (simp only [if_true, Bool.false_eq_true, if_false]; done) | rfl
   | false =>
    first | (simp only [if_true, Bool.false_eq_true, if_false]; done) | rfl
  | false =>
   first | (simp only [if_true, Bool.false_eq_true, if_false]; done) | rfl
theorem var29a (args : Array Value) (b : Bool) (v : Value) (h : ans29a args = some (b, v)) (hb : b = true) : args.toList.all flat = true ∧ flat v = true ∧ ∃ o lt L, (∀ fn c, Tryd.prog.funcs[29]? = some fn → fn.body = some c → LOk Tryd.prog (tb Tryd.prog tab8) o.hints 0 c lt) ∧ (vals (evFnT Tryd.prog (tb Tryd.prog tab8) (tbT Tryd.prog tab8) o lt L 29 args [])).res = some v := by
  unfold ans29a at h
  split at h
  · rename_i x0 c1a c1b h0
    split at h
    · rename_i hz1
      simp only [Option.some.injEq, Prod.mk.injEq] at h
      obtain ⟨rfl, rfl⟩ := h
      obtain rfl : c1a = #[] := Array.eq_empty_of_size_eq_zero hz1.1
      obtain rfl : c1b = #[] := Array.eq_empty_of_size_eq_zero hz1.2
      obtain rfl : args = #[.string x0, .func (.func 30) #[] #[]] := by rw [← Array.toArray_toList (xs := args), h0]
      exact ⟨rfl, rfl, o29, lt29a_1, 300, fun _ _ hf hb => lok29az hf hb, by rw [tree29a_eq, tree29a_res, if_pos hb]⟩
    · cases h
  · cases h
def tree29b (x0 : ByteArray) : Tr Value :=
  .node 9 (Decidable.decide ((fin29_2b x0 (↑x0.size) (S29_2b.mk (0 : Int))).v8 < ↑x0.size))
  (.node 14 (Decidable.decide ((0 : Int) ≤ (fin29_2b x0 (↑x0.size) (S29_2b.mk (0 : Int))).v8 ∧ (fin29_2b x0 (↑x0.size) (S29_2b.mk (0 : Int))).v8 < ↑x0.size))
   (.node 16 (!lexer_isOfLabel_0 (byteAt x0 (fin29_2b x0 (↑x0.size) (S29_2b.mk (0 : Int))).v8))
    (.leaf (some (.int .i64 ((fin29_2b x0 (↑x0.size) (S29_2b.mk (0 : Int))).v8))))
    (.leaf none))
   (.leaf none))
  (.leaf (some (.int .i64 (↑x0.size))))
theorem tree29b_eq (x0 : ByteArray) : vals (evFnT Tryd.prog (tb Tryd.prog tab8) (tbT Tryd.prog tab8) o29 (lt29b_1) 300 29 #[.string x0, .func (.func 33) #[] #[]] []) = tree29b x0 := by kernel_rfl
theorem tree29b_res (x0 : ByteArray) : (tree29b x0).res = if lexer_run_b_ok x0 = true then some (.int .i64 (lexer_run_b_0 x0)) else none := by
  unfold tree29b lexer_run_b_ok lexer_run_b_0
  simp only [Tr.res]
  generalize (Decidable.decide ((fin29_2b x0 (↑x0.size) (S29_2b.mk (0 : Int))).v8 < ↑x0.size)) = b0
  generalize (Decidable.decide ((0 : Int) ≤ (fin29_2b x0 (↑x0.size) (S29_2b.mk (0 : Int))).v8 ∧ (fin29_2b x0 (↑x0.size) (S29_2b.mk (0 : Int))).v8 < ↑x0.size)) = b1
  generalize (!lexer_isOfLabel_0 (byteAt x0 (fin29_2b x0 (↑x0.size) (S29_2b.mk (0 : Int))).v8)) = b2
  cases b0 with
  | true =>
   cases b1 with
   | true =>
    cases b2 with
    | true =>
     first | (simp only [if_true, Bool.false_eq_true, if_false]; done) | rfl
    | false =>
     first | (simp only [if_true, Bool.false_eq_true, if_false]; done) | rfl
   | false =>
    first | (simp only [if_true, Bool.false_eq_true, if_false]; done) | rfl
  | false =>
   first | (simp only [if_true, Bool.false_eq_true, if_false]; done) | rfl
theorem var29b (args : Array Value) (b : Bool) (v : Value) (h : ans29b args = some (b, v)) (hb : b = true) : args.toList.all flat = true ∧ flat v = true ∧ ∃ o lt L, (∀ fn c, Tryd.prog.funcs[29]? = some fn → fn.body = some c → LOk Tryd.prog (tb Tryd.prog tab8) o.hints 0 c lt) ∧ (vals (evFnT Tryd.prog (tb Tryd.prog tab8) (tbT Tryd.prog tab8) o lt L 29 args [])).res = some v := by
  unfold ans29b at h
  split at h
  · rename_i x0 c1a c1b h0
    split at h
    · rename_i hz1
      simp only [Option.some.injEq, Prod.mk.injEq] at h
      obtain ⟨rfl, rfl⟩ := h
      obtain rfl : c1a = #[] := Array.eq_empty_of_size_eq_zero hz1.1
      obtain rfl : c1b = #[] := Array.eq_empty_of_size_eq_zero hz1.2
      obtain rfl : args = #[.string x0, .func (.func 33) #[] #[]] := by rw [← Array.toArray_toList (xs := args), h0]
      exact ⟨rfl, rfl, o29, lt29b_1, 300, fun _ _ hf hb => lok29bz hf hb, by rw [tree29b_eq, tree29b_res, if_pos hb]⟩
    · cases h
  · cases h
theorem tab9_ok : TabOk Tryd.prog tab9 := tab_condL mixed tab8_ok (by decide) fun args b v h hb => by
  unfold ans29 at h
  split at h
  · rename_i hq; exact var29a args b v (by rw [hq, h]) hb
  split at h
  · rename_i hq; exact var29b args b v (by rw [hq, h]) hb
  cases h
/- gangsaw/lexer.Name -/
def o13 : Opts := ⟨[(2000001, 0), (3000012, 0)], [], []⟩
def lexer_Name_ok (x0 : ByteArray) : Bool :=
  if (!bif Decidable.decide (↑x0.size ≤ (24 : Int)) then !x0.toList == (ByteArray.mk #[]).toList else Bool.false) || Decidable.decide ((0 : Int) ≤ (0 : Int) ∧ (0 : Int) < ↑x0.size) then (if (!bif bif Decidable.decide (↑x0.size ≤ (24 : Int)) then !x0.toList == (ByteArray.mk #[]).toList else Bool.false then lexer_isSmall_0 (byteAt x0 (0 : Int)) else Bool.false) || lexer_run_a_ok x0 then (Bool.true) else (Bool.false)) else (Bool.false)
def lexer_Name_0 (x0 : ByteArray) : Bool :=
  (bif bif bif Decidable.decide (↑x0.size ≤ (24 : Int)) then !x0.toList == (ByteArray.mk #[]).toList else Bool.false then lexer_isSmall_0 (byteAt x0 (0 : Int)) else Bool.false then lexer_run_a_0 x0 == ↑x0.size else Bool.false)
def ans13 : Array Value → Option (Bool × Value) := fun args => match args.toList with
  | [.string x0] => some (lexer_Name_ok x0, .bool (lexer_Name_0 x0))
  | _ => none
def tab10 : Tab := (13, .cond ans13) :: tab9
theorem lok13z {fn : Func} {c : Code} (hf : Tryd.prog.funcs[13]? = some fn) (hb : fn.body = some c) : LOk Tryd.prog (tb Tryd.prog tab9) o13.hints 0 c (noLoops) := by
  exact LOk.none
def tree13 (x0 : ByteArray) : Tr Value :=
  .node 12 ((!bif Decidable.decide (↑x0.size ≤ (24 : Int)) then !x0.toList == (ByteArray.mk #[]).toList else Bool.false) || Decidable.decide ((0 : Int) ≤ (0 : Int) ∧ (0 : Int) < ↑x0.size))
  (.node 17 ((!bif bif Decidable.decide (↑x0.size ≤ (24 : Int)) then !x0.toList == (ByteArray.mk #[]).toList else Bool.false then lexer_isSmall_0 (byteAt x0 (0 : Int)) else Bool.false) || lexer_run_a_ok x0)
   (.leaf (some (.bool (bif bif bif Decidable.decide (↑x0.size ≤ (24 : Int)) then !x0.toList == (ByteArray.mk #[]).toList else Bool.false then lexer_isSmall_0 (byteAt x0 (0 : Int)) else Bool.false then lexer_run_a_0 x0 == ↑x0.size else Bool.false))))
   (.leaf none))
  (.leaf none)
theorem tree13_eq (x0 : ByteArray) : vals (evFnT Tryd.prog (tb Tryd.prog tab9) (tbT Tryd.prog tab9) o13 (noLoops) 300 13 #[.string x0] []) = tree13 x0 := by kernel_rfl
theorem tree13_res (x0 : ByteArray) : (tree13 x0).res = if lexer_Name_ok x0 = true then some (.bool (lexer_Name_0 x0)) else none := by
  unfold tree13 lexer_Name_ok lexer_Name_0
  simp only [Tr.res]
  generalize ((!bif Decidable.decide (↑x0.size ≤ (24 : Int)) then !x0.toList == (ByteArray.mk #[]).toList else Bool.false) || Decidable.decide ((0 : Int) ≤ (0 : Int) ∧ (0 : Int) < ↑x0.size)) = b0
  generalize ((!bif bif Decidable.decide (↑x0.size ≤ (24 : Int)) then !x0.toList == (ByteArray.mk #[]).toList else Bool.false then lexer_isSmall_0 (byteAt x0 (0 : Int)) else Bool.false) || lexer_run_a_ok x0) = b1
  cases b0 with
  | true =>
   cases b1 with
   | true =>
    first | (simp only [if_true, Bool.false_eq_true, if_false]; done) | rfl
   | false =>
    first | (simp only [if_true, Bool.false_eq_true, if_false]; done) | rfl
  | false =>
   first | (simp only [if_true, Bool.false_eq_true, if_false]; done) | rfl
theorem var13 (args : Array Value) (b : Bool) (v : Value) (h : ans13 args = some (b, v)) (hb : b = true) : args.toList.all flat = true ∧ flat v = true ∧ ∃ o lt L, (∀ fn c, Tryd.prog.funcs[13]? = some fn → fn.body = some c → LOk Tryd.prog (tb Tryd.prog tab9) o.hints 0 c lt) ∧ (vals (evFnT Tryd.prog (tb Tryd.prog tab9) (tbT Tryd.prog tab9) o lt L 13 args [])).res = some v := by
  unfold ans13 at h
  split at h
  · rename_i x0 h0
    simp only [Option.some.injEq, Prod.mk.injEq] at h
    obtain ⟨rfl, rfl⟩ := h
    obtain rfl : args = #[.string x0] := by rw [← Array.toArray_toList (xs := args), h0]
    exact ⟨rfl, rfl, o13, noLoops, 300, fun _ _ hf hb => lok13z hf hb, by rw [tree13_eq, tree13_res, if_pos hb]⟩
  · cases h
theorem tab10_ok : TabOk Tryd.prog tab10 := tab_condL mixed tab9_ok (by decide) fun args b v h hb => var13 args b v h hb
/- gangsaw/gangsawref09.Name -/
def o14 : Opts := ⟨[(7, 0), (37, 0), (2000004, 0), (2000006, 0), (3000012, 0), (3000018, 0), (3000023, 0), (3000033, 0)], [(2, [1, 2, 4, 5, 6, 7, 8, 9, 10, 11, 12, 13, 14, 15, 16, 17, 18, 19, 20, 21, 22, 23, 24, 25, 26, 27, 28, 29, 30, 31, 32, 33, 34, 35, 36, 37, 38, 39, 40, 41, 42, 43, 44, 45])], []⟩
noncomputable def b14_2 : Code := (((Tryd.prog.funcs[14]?).bind (·.body)).bind (loopAt · 2)).getD .skip
structure S14_2 where
  v3 : Int
def T14_2 (v0 : ByteArray) (s : S14_2) : Array Value := #[.string (v0), lost, lost, .int .i64 (s.v3), lost, lost, lost, lost, lost, lost, lost, lost, lost, lost, lost, lost, lost, lost, lost, lost, lost, lost, lost, lost, lost, lost, lost, lost, lost, lost, lost, lost, lost, lost, lost, lost, lost, lost, lost, lost, lost, lost, lost, lost, lost, lost]
def M14_2 (v0 : ByteArray) (s : S14_2) : AH := []
def nx14_2 (v0 : ByteArray) (s : S14_2) : Option S14_2 :=
  if Decidable.decide (s.v3 < ↑v0.size) then (if !Bool.true || Decidable.decide ((0 : Int) ≤ s.v3 ∧ s.v3 < ↑v0.size) then (if !!!ref09_part_0 (byteAt v0 s.v3) || Decidable.decide ((0 : Int) ≤ s.v3 ∧ s.v3 < ↑v0.size) then (if !(Decidable.decide (byteAt v0 s.v3 ≥ (65 : Int)) && !!ref09_part_0 (byteAt v0 s.v3)) || Decidable.decide ((0 : Int) ≤ s.v3 ∧ s.v3 < ↑v0.size) then (if !(s.v3 == (0 : Int) && !bif !ref09_part_0 (byteAt v0 s.v3) then Bool.true else bif Decidable.decide (byteAt v0 s.v3 ≥ (65 : Int)) then Decidable.decide (byteAt v0 s.v3 ≤ (90 : Int)) else Bool.false) || Decidable.decide ((0 : Int) ≤ s.v3 ∧ s.v3 < ↑v0.size) then (if bif bif !ref09_part_0 (byteAt v0 s.v3) then Bool.true else bif Decidable.decide (byteAt v0 s.v3 ≥ (65 : Int)) then Decidable.decide (byteAt v0 s.v3 ≤ (90 : Int)) else Bool.false then Bool.true else bif s.v3 == (0 : Int) then !ref09_letter_0 (byteAt v0 s.v3) else Bool.false then none else some ⟨IntKind.i64.wrap (s.v3 + (1 : Int))⟩) else none) else none) else none) else none) else none
def ex14_2 (v0 : ByteArray) (s : S14_2) : Tr (Exit × Array Value × AH) :=
  .node 7 (Decidable.decide (s.v3 < ↑v0.size))
  (.node 12 (!Bool.true || Decidable.decide ((0 : Int) ≤ s.v3 ∧ s.v3 < ↑v0.size))
   (.node 18 (!!!ref09_part_0 (byteAt v0 s.v3) || Decidable.decide ((0 : Int) ≤ s.v3 ∧ s.v3 < ↑v0.size))
    (.node 23 (!(Decidable.decide (byteAt v0 s.v3 ≥ (65 : Int)) && !!ref09_part_0 (byteAt v0 s.v3)) || Decidable.decide ((0 : Int) ≤ s.v3 ∧ s.v3 < ↑v0.size))
     (.node 33 (!(s.v3 == (0 : Int) && !bif !ref09_part_0 (byteAt v0 s.v3) then Bool.true else bif Decidable.decide (byteAt v0 s.v3 ≥ (65 : Int)) then Decidable.decide (byteAt v0 s.v3 ≤ (90 : Int)) else Bool.false) || Decidable.decide ((0 : Int) ≤ s.v3 ∧ s.v3 < ↑v0.size))
      (.node 37 (bif bif !ref09_part_0 (byteAt v0 s.v3) then Bool.true else bif Decidable.decide (byteAt v0 s.v3 ≥ (65 : Int)) then Decidable.decide (byteAt v0 s.v3 ≤ (90 : Int)) else Bool.false then Bool.true else bif s.v3 == (0 : Int) then !ref09_letter_0 (byteAt v0 s.v3) else Bool.false)
       (.leaf (some (Exit.ret, #[.string (v0), .tuple #[(Go.Value.chan (Option.some 1) : Value)], .bool (Bool.false), .int .i64 (s.v3), .int .i64 (s.v3), .string (v0), .int .i64 (↑v0.size), .bool (Bool.true), .tuple #[(Go.Value.chan (Option.some 1) : Value)], .tuple #[(Go.Value.chan (Option.some 1) : Value)], .string (v0), .int .i64 (s.v3), .int .u8 (byteAt v0 s.v3), .bool (ref09_part_0 (byteAt v0 s.v3)), .bool (!ref09_part_0 (byteAt v0 s.v3)), .bool (!ref09_part_0 (byteAt v0 s.v3)), (bif !!ref09_part_0 (byteAt v0 s.v3) then Go.Value.string v0 else Go.undef : Value), (bif !!ref09_part_0 (byteAt v0 s.v3) then Go.Value.int IntKind.i64 s.v3 else Go.undef : Value), (bif !!ref09_part_0 (byteAt v0 s.v3) then Go.Value.int IntKind.u8 (byteAt v0 s.v3) else Go.undef : Value), (bif !!ref09_part_0 (byteAt v0 s.v3) then Go.Value.bool (Decidable.decide (byteAt v0 s.v3 ≥ (65 : Int))) else Go.undef : Value), (bif !!ref09_part_0 (byteAt v0 s.v3) then Go.Value.bool (Decidable.decide (byteAt v0 s.v3 ≥ (65 : Int))) else Go.undef : Value), (bif Decidable.decide (byteAt v0 s.v3 ≥ (65 : Int)) && !!ref09_part_0 (byteAt v0 s.v3) then Go.Value.string v0 else Go.undef : Value), (bif Decidable.decide (byteAt v0 s.v3 ≥ (65 : Int)) && !!ref09_part_0 (byteAt v0 s.v3) then Go.Value.int IntKind.i64 s.v3 else Go.undef : Value), (bif Decidable.decide (byteAt v0 s.v3 ≥ (65 : Int)) && !!ref09_part_0 (byteAt v0 s.v3) then Go.Value.int IntKind.u8 (byteAt v0 s.v3) else Go.undef : Value), (bif Decidable.decide (byteAt v0 s.v3 ≥ (65 : Int)) && !!ref09_part_0 (byteAt v0 s.v3) then Go.Value.bool (Decidable.decide (byteAt v0 s.v3 ≤ (90 : Int))) else Go.undef : Value), (bif !!ref09_part_0 (byteAt v0 s.v3) then Go.Value.bool (bif Decidable.decide (byteAt v0 s.v3 ≥ (65 : Int)) then Decidable.decide (byteAt v0 s.v3 ≤ (90 : Int)) else Bool.false) else Go.undef : Value), .bool (bif !ref09_part_0 (byteAt v0 s.v3) then Bool.true else bif Decidable.decide (byteAt v0 s.v3 ≥ (65 : Int)) then Decidable.decide (byteAt v0 s.v3 ≤ (90 : Int)) else Bool.false), .bool (bif !ref09_part_0 (byteAt v0 s.v3) then Bool.true else bif Decidable.decide (byteAt v0 s.v3 ≥ (65 : Int)) then Decidable.decide (byteAt v0 s.v3 ≤ (90 : Int)) else Bool.false), (bif !bif !ref09_part_0 (byteAt v0 s.v3) then Bool.true else bif Decidable.decide (byteAt v0 s.v3 ≥ (65 : Int)) then Decidable.decide (byteAt v0 s.v3 ≤ (90 : Int)) else Bool.false then Go.Value.int IntKind.i64 s.v3 else Go.undef : Value), (bif !bif !ref09_part_0 (byteAt v0 s.v3) then Bool.true else bif Decidable.decide (byteAt v0 s.v3 ≥ (65 : Int)) then Decidable.decide (byteAt v0 s.v3 ≤ (90 : Int)) else Bool.false then Go.Value.bool (s.v3 == (0 : Int)) else Go.undef : Value), (bif !bif !ref09_part_0 (byteAt v0 s.v3) then Bool.true else bif Decidable.decide (byteAt v0 s.v3 ≥ (65 : Int)) then Decidable.decide (byteAt v0 s.v3 ≤ (90 : Int)) else Bool.false then Go.Value.bool (s.v3 == (0 : Int)) else Go.undef : Value), (bif s.v3 == (0 : Int) && !bif !ref09_part_0 (byteAt v0 s.v3) then Bool.true else bif Decidable.decide (byteAt v0 s.v3 ≥ (65 : Int)) then Decidable.decide (byteAt v0 s.v3 ≤ (90 : Int)) else Bool.false then Go.Value.string v0 else Go.undef : Value), (bif s.v3 == (0 : Int) && !bif !ref09_part_0 (byteAt v0 s.v3) then Bool.true else bif Decidable.decide (byteAt v0 s.v3 ≥ (65 : Int)) then Decidable.decide (byteAt v0 s.v3 ≤ (90 : Int)) else Bool.false then Go.Value.int IntKind.i64 s.v3 else Go.undef : Value), (bif s.v3 == (0 : Int) && !bif !ref09_part_0 (byteAt v0 s.v3) then Bool.true else bif Decidable.decide (byteAt v0 s.v3 ≥ (65 : Int)) then Decidable.decide (byteAt v0 s.v3 ≤ (90 : Int)) else Bool.false then Go.Value.int IntKind.u8 (byteAt v0 s.v3) else Go.undef : Value), (bif s.v3 == (0 : Int) && !bif !ref09_part_0 (byteAt v0 s.v3) then Bool.true else bif Decidable.decide (byteAt v0 s.v3 ≥ (65 : Int)) then Decidable.decide (byteAt v0 s.v3 ≤ (90 : Int)) else Bool.false then Go.Value.bool (ref09_letter_0 (byteAt v0 s.v3)) else Go.undef : Value), (bif s.v3 == (0 : Int) && !bif !ref09_part_0 (byteAt v0 s.v3) then Bool.true else bif Decidable.decide (byteAt v0 s.v3 ≥ (65 : Int)) then Decidable.decide (byteAt v0 s.v3 ≤ (90 : Int)) else Bool.false then Go.Value.bool !ref09_letter_0 (byteAt v0 s.v3) else Go.undef : Value), (bif !bif !ref09_part_0 (byteAt v0 s.v3) then Bool.true else bif Decidable.decide (byteAt v0 s.v3 ≥ (65 : Int)) then Decidable.decide (byteAt v0 s.v3 ≤ (90 : Int)) else Bool.false then Go.Value.bool (bif s.v3 == (0 : Int) then !ref09_letter_0 (byteAt v0 s.v3) else Bool.false) else Go.undef : Value), .bool (Bool.true), .tuple #[(Go.Value.chan (Option.some 1) : Value)], .tuple #[(Go.Value.chan (Option.some 1) : Value)], .tuple #[(Go.Value.chan (Option.some 1) : Value)], .tuple #[(Go.Value.chan (Option.some 1) : Value)], .tuple #[(Go.Value.chan (Option.some 1) : Value)], .tuple #[(Go.Value.chan (Option.some 1) : Value)], .tuple #[(Go.Value.chan (Option.some 1) : Value)], .tuple #[(Go.Value.chan (Option.some 1) : Value)]], [])))
       (.leaf none))
      (.leaf none))
     (.leaf none))
    (.leaf none))
   (.leaf none))
  (.leaf (some (Exit.exit 0, #[.string (v0), .tuple #[(Go.Value.chan (Option.some 1) : Value)], .tuple #[(Go.Value.chan (Option.some 1) : Value)], .int .i64 (s.v3), .int .i64 (s.v3), .string (v0), .int .i64 (↑v0.size), .bool (Bool.false), .tuple #[(Go.Value.chan (Option.some 1) : Value)], .tuple #[(Go.Value.chan (Option.some 1) : Value)], .tuple #[(Go.Value.chan (Option.some 1) : Value)], .tuple #[(Go.Value.chan (Option.some 1) : Value)], .tuple #[(Go.Value.chan (Option.some 1) : Value)], .tuple #[(Go.Value.chan (Option.some 1) : Value)], .tuple #[(Go.Value.chan (Option.some 1) : Value)], .tuple #[(Go.Value.chan (Option.some 1) : Value)], .tuple #[(Go.Value.chan (Option.some 1) : Value)], .tuple #[(Go.Value.chan (Option.some 1) : Value)], .tuple #[(Go.Value.chan (Option.some 1) : Value)], .tuple #[(Go.Value.chan (Option.some 1) : Value)], .tuple #[(Go.Value.chan (Option.some 1) : Value)], .tuple #[(Go.Value.chan (Option.some 1) : Value)], .tuple #[(Go.Value.chan (Option.some 1) : Value)], .tuple #[(Go.Value.chan (Option.some 1) : Value)], .tuple #[(Go.Value.chan (Option.some 1) : Value)], .tuple #[(Go.Value.chan (Option.some 1) : Value)], .tuple #[(Go.Value.chan (Option.some 1) : Value)], .tuple #[(Go.Value.chan (Option.some 1) : Value)], .tuple #[(Go.Value.chan (Option.some 1) : Value)], .tuple #[(Go.Value.chan (Option.some 1) : Value)], .tuple #[(Go.Value.chan (Option.some 1) : Value)], .tuple #[(Go.Value.chan (Option.some 1) : Value)], .tuple #[(Go.Value.chan (Option.some 1) : Value)], .tuple #[(Go.Value.chan (Option.some 1) : Value)], .tuple #[(Go.Value.chan (Option.some 1) : Value)], .tuple #[(Go.Value.chan (Option.some 1) : Value)], .tuple #[(Go.Value.chan (Option.some 1) : Value)], .tuple #[(Go.Value.chan (Option.some 1) : Value)], .tuple #[(Go.Value.chan (Option.some 1) : Value)], .tuple #[(Go.Value.chan (Option.some 1) : Value)], .tuple #[(Go.Value.chan (Option.some 1) : Value)], .tuple #[(Go.Value.chan (Option.some 1) : Value)], .tuple #[(Go.Value.chan (Option.some 1) : Value)], .tuple #[(Go.Value.chan (Option.some 1) : Value)], .tuple #[(Go.Value.chan (Option.some 1) : Value)], .tuple #[(Go.Value.chan (Option.some 1) : Value)]], [])))
def fin14_2 (v0 : ByteArray) (s : S14_2) : S14_2 := lgo (nx14_2 v0) ((↑v0.size - s.v3).toNat) s
def kn14_2 (t : Array Value) (H : AH) : Tr (Exit × Array Value × AH) :=
  match t.toList, H with
  | .string v0 :: w1 :: w2 :: .int .i64 v3 :: w4 :: w5 :: w6 :: w7 :: w8 :: w9 :: w10 :: w11 :: w12 :: w13 :: w14 :: w15 :: w16 :: w17 :: w18 :: w19 :: w20 :: w21 :: w22 :: w23 :: w24 :: w25 :: w26 :: w27 :: w28 :: w29 :: w30 :: w31 :: w32 :: w33 :: w34 :: w35 :: w36 :: w37 :: w38 :: w39 :: w40 :: w41 :: w42 :: w43 :: w44 :: w45 :: [], [] =>
    if veqL (veq 5) [w1, w2, w4, w5, w6, w7, w8, w9, w10, w11, w12, w13, w14, w15, w16, w17, w18, w19, w20, w21, w22, w23, w24, w25, w26, w27, w28, w29, w30, w31, w32, w33, w34, w35, w36, w37, w38, w39, w40, w41, w42, w43, w44, w45] [lost, lost, lost, lost, lost, lost, lost, lost, lost, lost, lost, lost, lost, lost, lost, lost, lost, lost, lost, lost, lost, lost, lost, lost, lost, lost, lost, lost, lost, lost, lost, lost, lost, lost, lost, lost, lost, lost, lost, lost, lost, lost, lost, lost] then ex14_2 v0 (fin14_2 v0 ⟨v3⟩) else .leaf none
  | _, _ => .leaf none
def lt14_1 : LoopT := fun id => if id = 2 then some kn14_2 else  none
def ref09_Name_ok (x0 : ByteArray) : Bool :=
  if Decidable.decide ((fin14_2 x0 (S14_2.mk (0 : Int))).v3 < ↑x0.size) then (if !Bool.true || Decidable.decide ((0 : Int) ≤ (fin14_2 x0 (S14_2.mk (0 : Int))).v3 ∧ (fin14_2 x0 (S14_2.mk (0 : Int))).v3 < ↑x0.size) then (if !!!ref09_part_0 (byteAt x0 (fin14_2 x0 (S14_2.mk (0 : Int))).v3) || Decidable.decide ((0 : Int) ≤ (fin14_2 x0 (S14_2.mk (0 : Int))).v3 ∧ (fin14_2 x0 (S14_2.mk (0 : Int))).v3 < ↑x0.size) then (if !(Decidable.decide (byteAt x0 (fin14_2 x0 (S14_2.mk (0 : Int))).v3 ≥ (65 : Int)) && !!ref09_part_0 (byteAt x0 (fin14_2 x0 (S14_2.mk (0 : Int))).v3)) || Decidable.decide ((0 : Int) ≤ (fin14_2 x0 (S14_2.mk (0 : Int))).v3 ∧ (fin14_2 x0 (S14_2.mk (0 : Int))).v3 < ↑x0.size) then (if !((fin14_2 x0 (S14_2.mk (0 : Int))).v3 == (0 : Int) && !bif !ref09_part_0 (byteAt x0 (fin14_2 x0 (S14_2.mk (0 : Int))).v3) then Bool.true else bif Decidable.decide (byteAt x0 (fin14_2 x0 (S14_2.mk (0 : Int))).v3 ≥ (65 : Int)) then Decidable.decide (byteAt x0 (fin14_2 x0 (S14_2.mk (0 : Int))).v3 ≤ (90 : Int)) else Bool.false) || Decidable.decide ((0 : Int) ≤ (fin14_2 x0 (S14_2.mk (0 : Int))).v3 ∧ (fin14_2 x0 (S14_2.mk (0 : Int))).v3 < ↑x0.size) then (if bif bif !ref09_part_0 (byteAt x0 (fin14_2 x0 (S14_2.mk (0 : Int))).v3) then Bool.true else bif Decidable.decide (byteAt x0 (fin14_2 x0 (S14_2.mk (0 : Int))).v3 ≥ (65 : Int)) then Decidable.decide (byteAt x0 (fin14_2 x0 (S14_2.mk (0 : Int))).v3 ≤ (90 : Int)) else Bool.false then Bool.true else bif (fin14_2 x0 (S14_2.mk (0 : Int))).v3 == (0 : Int) then !ref09_letter_0 (byteAt x0 (fin14_2 x0 (S14_2.mk (0 : Int))).v3) else Bool.false then (Bool.true) else (Bool.false)) else (Bool.false)) else (Bool.false)) else (Bool.false)) else (Bool.false)) else (Bool.true)
def ref09_Name_0 (x0 : ByteArray) : Bool :=
  if Decidable.decide ((fin14_2 x0 (S14_2.mk (0 : Int))).v3 < ↑x0.size) then (Bool.false) else (bif Decidable.decide (↑x0.size ≥ (1 : Int)) then Decidable.decide (↑x0.size ≤ (24 : Int)) else Bool.false)
def ans14 : Array Value → Option (Bool × Value) := fun args => match args.toList with
  | [.string x0] => some (ref09_Name_ok x0, .bool (ref09_Name_0 x0))
  | _ => none
def tab11 : Tab := (14, .cond ans14) :: tab10
def rt14_2 (v0 : ByteArray) (s : S14_2) : Tr (Exit × Array Value × AH) :=
  .node 7 (Decidable.decide (s.v3 < ↑v0.size))
  (.node 12 (!Bool.true || Decidable.decide ((0 : Int) ≤ s.v3 ∧ s.v3 < ↑v0.size))
   (.node 18 (!!!ref09_part_0 (byteAt v0 s.v3) || Decidable.decide ((0 : Int) ≤ s.v3 ∧ s.v3 < ↑v0.size))
    (.node 23 (!(Decidable.decide (byteAt v0 s.v3 ≥ (65 : Int)) && !!ref09_part_0 (byteAt v0 s.v3)) || Decidable.decide ((0 : Int) ≤ s.v3 ∧ s.v3 < ↑v0.size))
     (.node 33 (!(s.v3 == (0 : Int) && !bif !ref09_part_0 (byteAt v0 s.v3) then Bool.true else bif Decidable.decide (byteAt v0 s.v3 ≥ (65 : Int)) then Decidable.decide (byteAt v0 s.v3 ≤ (90 : Int)) else Bool.false) || Decidable.decide ((0 : Int) ≤ s.v3 ∧ s.v3 < ↑v0.size))
      (.node 37 (bif bif !ref09_part_0 (byteAt v0 s.v3) then Bool.true else bif Decidable.decide (byteAt v0 s.v3 ≥ (65 : Int)) then Decidable.decide (byteAt v0 s.v3 ≤ (90 : Int)) else Bool.false then Bool.true else bif s.v3 == (0 : Int) then !ref09_letter_0 (byteAt v0 s.v3) else Bool.false)
       (.leaf (some (Exit.ret, #[.string (v0), .tuple #[(Go.Value.chan (Option.some 1) : Value)], .bool (Bool.false), .int .i64 (s.v3), .int .i64 (s.v3), .string (v0), .int .i64 (↑v0.size), .bool (Bool.true), .tuple #[(Go.Value.chan (Option.some 1) : Value)], .tuple #[(Go.Value.chan (Option.some 1) : Value)], .string (v0), .int .i64 (s.v3), .int .u8 (byteAt v0 s.v3), .bool (ref09_part_0 (byteAt v0 s.v3)), .bool (!ref09_part_0 (byteAt v0 s.v3)), .bool (!ref09_part_0 (byteAt v0 s.v3)), (bif !!ref09_part_0 (byteAt v0 s.v3) then Go.Value.string v0 else Go.undef : Value), (bif !!ref09_part_0 (byteAt v0 s.v3) then Go.Value.int IntKind.i64 s.v3 else Go.undef : Value), (bif !!ref09_part_0 (byteAt v0 s.v3) then Go.Value.int IntKind.u8 (byteAt v0 s.v3) else Go.undef : Value), (bif !!ref09_part_0 (byteAt v0 s.v3) then Go.Value.bool (Decidable.decide (byteAt v0 s.v3 ≥ (65 : Int))) else Go.undef : Value), (bif !!ref09_part_0 (byteAt v0 s.v3) then Go.Value.bool (Decidable.decide (byteAt v0 s.v3 ≥ (65 : Int))) else Go.undef : Value), (bif Decidable.decide (byteAt v0 s.v3 ≥ (65 : Int)) && !!ref09_part_0 (byteAt v0 s.v3) then Go.Value.string v0 else Go.undef : Value), (bif Decidable.decide (byteAt v0 s.v3 ≥ (65 : Int)) && !!ref09_part_0 (byteAt v0 s.v3) then Go.Value.int IntKind.i64 s.v3 else Go.undef : Value), (bif Decidable.decide (byteAt v0 s.v3 ≥ (65 : Int)) && !!ref09_part_0 (byteAt v0 s.v3) then Go.Value.int IntKind.u8 (byteAt v0 s.v3) else Go.undef : Value), (bif Decidable.decide (byteAt v0 s.v3 ≥ (65 : Int)) && !!ref09_part_0 (byteAt v0 s.v3) then Go.Value.bool (Decidable.decide (byteAt v0 s.v3 ≤ (90 : Int))) else Go.undef : Value), (bif !!ref09_part_0 (byteAt v0 s.v3) then Go.Value.bool (bif Decidable.decide (byteAt v0 s.v3 ≥ (65 : Int)) then Decidable.decide (byteAt v0 s.v3 ≤ (90 : Int)) else Bool.false) else Go.undef : Value), .bool (bif !ref09_part_0 (byteAt v0 s.v3) then Bool.true else bif Decidable.decide (byteAt v0 s.v3 ≥ (65 : Int)) then Decidable.decide (byteAt v0 s.v3 ≤ (90 : Int)) else Bool.false), .bool (bif !ref09_part_0 (byteAt v0 s.v3) then Bool.true else bif Decidable.decide (byteAt v0 s.v3 ≥ (65 : Int)) then Decidable.decide (byteAt v0 s.v3 ≤ (90 : Int)) else Bool.false), (bif !bif !ref09_part_0 (byteAt v0 s.v3) then Bool.true else bif Decidable.decide (byteAt v0 s.v3 ≥ (65 : Int)) then Decidable.decide (byteAt v0 s.v3 ≤ (90 : Int)) else Bool.false then Go.Value.int IntKind.i64 s.v3 else Go.undef : Value), (bif !bif !ref09_part_0 (byteAt v0 s.v3) then Bool.true else bif Decidable.decide (byteAt v0 s.v3 ≥ (65 : Int)) then Decidable.decide (byteAt v0 s.v3 ≤ (90 : Int)) else Bool.false then Go.Value.bool (s.v3 == (0 : Int)) else Go.undef : Value), (bif !bif !ref09_part_0 (byteAt v0 s.v3) then Bool.true else bif Decidable.decide (byteAt v0 s.v3 ≥ (65 : Int)) then Decidable.decide (byteAt v0 s.v3 ≤ (90 : Int)) else Bool.false then Go.Value.bool (s.v3 == (0 : Int)) else Go.undef : Value), (bif s.v3 == (0 : Int) && !bif !ref09_part_0 (byteAt v0 s.v3) then Bool.true else bif Decidable.decide (byteAt v0 s.v3 ≥ (65 : Int)) then Decidable.decide (byteAt v0 s.v3 ≤ (90 : Int)) else Bool.false then Go.Value.string v0 else Go.undef : Value), (bif s.v3 == (0 : Int) && !bif !ref09_part_0 (byteAt v0 s.v3) then Bool.true else bif Decidable.decide (byteAt v0 s.v3 ≥ (65 : Int)) then Decidable.decide (byteAt v0 s.v3 ≤ (90 : Int)) else Bool.false then Go.Value.int IntKind.i64 s.v3 else Go.undef : Value), (bif s.v3 == (0 : Int) && !bif !ref09_part_0 (byteAt v0 s.v3) then Bool.true else bif Decidable.decide (byteAt v0 s.v3 ≥ (65 : Int)) then Decidable.decide (byteAt v0 s.v3 ≤ (90 : Int)) else Bool.false then Go.Value.int IntKind.u8 (byteAt v0 s.v3) else Go.undef : Value), (bif s.v3 == (0 : Int) && !bif !ref09_part_0 (byteAt v0 s.v3) then Bool.true else bif Decidable.decide (byteAt v0 s.v3 ≥ (65 : Int)) then Decidable.decide (byteAt v0 s.v3 ≤ (90 : Int)) else Bool.false then Go.Value.bool (ref09_letter_0 (byteAt v0 s.v3)) else Go.undef : Value), (bif s.v3 == (0 : Int) && !bif !ref09_part_0 (byteAt v0 s.v3) then Bool.true else bif Decidable.decide (byteAt v0 s.v3 ≥ (65 : Int)) then Decidable.decide (byteAt v0 s.v3 ≤ (90 : Int)) else Bool.false then Go.Value.bool !ref09_letter_0 (byteAt v0 s.v3) else Go.undef : Value), (bif !bif !ref09_part_0 (byteAt v0 s.v3) then Bool.true else bif Decidable.decide (byteAt v0 s.v3 ≥ (65 : Int)) then Decidable.decide (byteAt v0 s.v3 ≤ (90 : Int)) else Bool.false then Go.Value.bool (bif s.v3 == (0 : Int) then !ref09_letter_0 (byteAt v0 s.v3) else Bool.false) else Go.undef : Value), .bool (Bool.true), .tuple #[(Go.Value.chan (Option.some 1) : Value)], .tuple #[(Go.Value.chan (Option.some 1) : Value)], .tuple #[(Go.Value.chan (Option.some 1) : Value)], .tuple #[(Go.Value.chan (Option.some 1) : Value)], .tuple #[(Go.Value.chan (Option.some 1) : Value)], .tuple #[(Go.Value.chan (Option.some 1) : Value)], .tuple #[(Go.Value.chan (Option.some 1) : Value)], .tuple #[(Go.Value.chan (Option.some 1) : Value)]], [])))
       (.leaf (some (.normal, T14_2 v0 ⟨IntKind.i64.wrap (s.v3 + (1 : Int))⟩, M14_2 v0 ⟨IntKind.i64.wrap (s.v3 + (1 : Int))⟩))))
      (.leaf none))
     (.leaf none))
    (.leaf none))
   (.leaf none))
  (.leaf (some (Exit.exit 0, #[.string (v0), .tuple #[(Go.Value.chan (Option.some 1) : Value)], .tuple #[(Go.Value.chan (Option.some 1) : Value)], .int .i64 (s.v3), .int .i64 (s.v3), .string (v0), .int .i64 (↑v0.size), .bool (Bool.false), .tuple #[(Go.Value.chan (Option.some 1) : Value)], .tuple #[(Go.Value.chan (Option.some 1) : Value)], .tuple #[(Go.Value.chan (Option.some 1) : Value)], .tuple #[(Go.Value.chan (Option.some 1) : Value)], .tuple #[(Go.Value.chan (Option.some 1) : Value)], .tuple #[(Go.Value.chan (Option.some 1) : Value)], .tuple #[(Go.Value.chan (Option.some 1) : Value)], .tuple #[(Go.Value.chan (Option.some 1) : Value)], .tuple #[(Go.Value.chan (Option.some 1) : Value)], .tuple #[(Go.Value.chan (Option.some 1) : Value)], .tuple #[(Go.Value.chan (Option.some 1) : Value)], .tuple #[(Go.Value.chan (Option.some 1) : Value)], .tuple #[(Go.Value.chan (Option.some 1) : Value)], .tuple #[(Go.Value.chan (Option.some 1) : Value)], .tuple #[(Go.Value.chan (Option.some 1) : Value)], .tuple #[(Go.Value.chan (Option.some 1) : Value)], .tuple #[(Go.Value.chan (Option.some 1) : Value)], .tuple #[(Go.Value.chan (Option.some 1) : Value)], .tuple #[(Go.Value.chan (Option.some 1) : Value)], .tuple #[(Go.Value.chan (Option.some 1) : Value)], .tuple #[(Go.Value.chan (Option.some 1) : Value)], .tuple #[(Go.Value.chan (Option.some 1) : Value)], .tuple #[(Go.Value.chan (Option.some 1) : Value)], .tuple #[(Go.Value.chan (Option.some 1) : Value)], .tuple #[(Go.Value.chan (Option.some 1) : Value)], .tuple #[(Go.Value.chan (Option.some 1) : Value)], .tuple #[(Go.Value.chan (Option.some 1) : Value)], .tuple #[(Go.Value.chan (Option.some 1) : Value)], .tuple #[(Go.Value.chan (Option.some 1) : Value)], .tuple #[(Go.Value.chan (Option.some 1) : Value)], .tuple #[(Go.Value.chan (Option.some 1) : Value)], .tuple #[(Go.Value.chan (Option.some 1) : Value)], .tuple #[(Go.Value.chan (Option.some 1) : Value)], .tuple #[(Go.Value.chan (Option.some 1) : Value)], .tuple #[(Go.Value.chan (Option.some 1) : Value)], .tuple #[(Go.Value.chan (Option.some 1) : Value)], .tuple #[(Go.Value.chan (Option.some 1) : Value)], .tuple #[(Go.Value.chan (Option.some 1) : Value)]], [])))
theorem rt14_2_eq  (v0 : ByteArray) (s : S14_2) : roundT Tryd.prog (tb Tryd.prog tab10) (tbT Tryd.prog tab10) (o14) (noLoops) 0 300 b14_2 (T14_2 v0 s) (M14_2 v0 s) = rt14_2 v0 s := by kernel_rfl
theorem in14_2 (v0 : ByteArray) (s s2 : S14_2) (h : nx14_2 v0 s = some s2) : (rt14_2 v0 s).res = some (.normal, T14_2 v0 s2, M14_2 v0 s2) := by
  unfold nx14_2 at h
  unfold rt14_2
  simp only [Tr.res] at h ⊢
  generalize (Decidable.decide (s.v3 < ↑v0.size)) = b0 at *
  generalize (!Bool.true || Decidable.decide ((0 : Int) ≤ s.v3 ∧ s.v3 < ↑v0.size)) = b1 at *
  generalize (!!!ref09_part_0 (byteAt v0 s.v3) || Decidable.decide ((0 : Int) ≤ s.v3 ∧ s.v3 < ↑v0.size)) = b2 at *
  generalize (!(Decidable.decide (byteAt v0 s.v3 ≥ (65 : Int)) && !!ref09_part_0 (byteAt v0 s.v3)) || Decidable.decide ((0 : Int) ≤ s.v3 ∧ s.v3 < ↑v0.size)) = b3 at *
  generalize (!(s.v3 == (0 : Int) && !bif !ref09_part_0 (byteAt v0 s.v3) then Bool.true else bif Decidable.decide (byteAt v0 s.v3 ≥ (65 : Int)) then Decidable.decide (byteAt v0 s.v3 ≤ (90 : Int)) else Bool.false) || Decidable.decide ((0 : Int) ≤ s.v3 ∧ s.v3 < ↑v0.size)) = b4 at *
  generalize (bif bif !ref09_part_0 (byteAt v0 s.v3) then Bool.true else bif Decidable.decide (byteAt v0 s.v3 ≥ (65 : Int)) then Decidable.decide (byteAt v0 s.v3 ≤ (90 : Int)) else Bool.false then Bool.true else bif s.v3 == (0 : Int) then !ref09_letter_0 (byteAt v0 s.v3) else Bool.false) = b5 at *
  cases b0 with
  | true =>
   cases b1 with
   | true =>
    cases b2 with
    | true =>
     cases b3 with
     | true =>
      cases b4 with
      | true =>
       cases b5 with
       | true =>
        first | cases h | (simp at h)
       | false =>
        first | (cases h; rfl) | (simp only [if_true, Bool.false_eq_true, if_false, Option.some.injEq] at h ⊢; subst h; rfl)
      | false =>
       first | cases h | (simp at h)
     | false =>
      first | cases h | (simp at h)
    | false =>
     first | cases h | (simp at h)
   | false =>
    first | cases h | (simp at h)
  | false =>
   first | cases h | (simp at h)
theorem out14_2 (v0 : ByteArray) (s : S14_2) (r : Exit × Array Value × AH) (h : (ex14_2 v0 s).res = some r) : r.1 ≠ .normal ∧ (rt14_2 v0 s).res = some r := by
  unfold ex14_2 at h
  unfold rt14_2
  simp only [Tr.res] at h ⊢
  generalize (Decidable.decide (s.v3 < ↑v0.size)) = b0 at *
  generalize (!Bool.true || Decidable.decide ((0 : Int) ≤ s.v3 ∧ s.v3 < ↑v0.size)) = b1 at *
  generalize (!!!ref09_part_0 (byteAt v0 s.v3) || Decidable.decide ((0 : Int) ≤ s.v3 ∧ s.v3 < ↑v0.size)) = b2 at *
  generalize (!(Decidable.decide (byteAt v0 s.v3 ≥ (65 : Int)) && !!ref09_part_0 (byteAt v0 s.v3)) || Decidable.decide ((0 : Int) ≤ s.v3 ∧ s.v3 < ↑v0.size)) = b3 at *
  generalize (!(s.v3 == (0 : Int) && !bif !ref09_part_0 (byteAt v0 s.v3) then Bool.true else bif Decidable.decide (byteAt v0 s.v3 ≥ (65 : Int)) then Decidable.decide (byteAt v0 s.v3 ≤ (90 : Int)) else Bool.false) || Decidable.decide ((0 : Int) ≤ s.v3 ∧ s.v3 < ↑v0.size)) = b4 at *
  generalize (bif bif !ref09_part_0 (byteAt v0 s.v3) then Bool.true else bif Decidable.decide (byteAt v0 s.v3 ≥ (65 : Int)) then Decidable.decide (byteAt v0 s.v3 ≤ (90 : Int)) else Bool.false then Bool.true else bif s.v3 == (0 : Int) then !ref09_letter_0 (byteAt v0 s.v3) else Bool.false) = b5 at *
  cases b0 with
  | true =>
   cases b1 with
   | true =>
    cases b2 with
    | true =>
     cases b3 with
     | true =>
      cases b4 with
      | true =>
       cases b5 with
       | true =>
        first | (cases h; exact ⟨(by intro hh; cases hh), rfl⟩) | (simp only [if_true, Bool.false_eq_true, if_false, Option.some.injEq] at h ⊢; subst h; exact ⟨(by intro hh; cases hh), rfl⟩)
       | false =>
        first | cases h | (simp at h)
      | false =>
       first | cases h | (simp at h)
     | false =>
      first | cases h | (simp at h)
    | false =>
     first | cases h | (simp at h)
   | false =>
    first | cases h | (simp at h)
  | false =>
   first | (cases h; exact ⟨(by intro hh; cases hh), rfl⟩) | (simp only [if_true, Bool.false_eq_true, if_false, Option.some.injEq] at h ⊢; subst h; exact ⟨(by intro hh; cases hh), rfl⟩)
theorem lok14_2 {fn : Func} {c : Code} (hf : Tryd.prog.funcs[14]? = some fn) (hb : fn.body = some c) : LOk Tryd.prog (tb Tryd.prog tab10) o14.hints 0 c (noLoops) := by
  exact LOk.none
theorem sub14_2 {fn : Func} {c : Code} (hf : Tryd.prog.funcs[14]? = some fn) (hb : fn.body = some c) : ∀ b2 ∈ loopsOf b14_2, loopAt c (headId b2) = some b2 := by
  have h1 : ((Tryd.prog.funcs[14]?).bind (·.body)) = some c := by rw [hf]; exact hb
  intro b2 h2
  rw [show loopsOf b14_2 = [] by kernel_rfl] at h2
  cases h2
theorem lk14_2 (t : Array Value) (H : AH) (r : Exit × Array Value × AH) {fn : Func} {c : Code} (hf : Tryd.prog.funcs[14]? = some fn) (hb : fn.body = some c) (hr : (kn14_2 t H).res = some r) : ∃ n, evRound Tryd.prog (tb Tryd.prog tab10) o14.hints 0 n b14_2 t H = some r := by
  unfold kn14_2 at hr
  split at hr
  · rename_i v0 w1 w2 v3 w4 w5 w6 w7 w8 w9 w10 w11 w12 w13 w14 w15 w16 w17 w18 w19 w20 w21 w22 w23 w24 w25 w26 w27 w28 w29 w30 w31 w32 w33 w34 w35 w36 w37 w38 w39 w40 w41 w42 w43 w44 w45 ht
    split at hr
    · rename_i hv
      have hv := veqL_eq (veq_eq 5) _ _ hv
      simp only [List.cons.injEq, and_true] at hv
      obtain ⟨rfl, rfl, rfl, rfl, rfl, rfl, rfl, rfl, rfl, rfl, rfl, rfl, rfl, rfl, rfl, rfl, rfl, rfl, rfl, rfl, rfl, rfl, rfl, rfl, rfl, rfl, rfl, rfl, rfl, rfl, rfl, rfl, rfl, rfl, rfl, rfl, rfl, rfl, rfl, rfl, rfl, rfl, rfl, rfl⟩ := hv
      obtain rfl : t = T14_2 v0 ⟨v3⟩ := by rw [← Array.toArray_toList (xs := t), ht]; rfl
      exact loop_fin (tbT_ok _) (T14_2 v0) (M14_2 v0) (nx14_2 v0) (ex14_2 v0) (lok14_2 hf hb) (sub14_2 hf hb) (fun s s2 h => by rw [rt14_2_eq]; exact in14_2 v0 s s2 h) (fun s r h => by rw [rt14_2_eq]; exact out14_2 v0 s r h) _ _ _ hr
    · cases hr
  · cases hr
theorem lok14z {fn : Func} {c : Code} (hf : Tryd.prog.funcs[14]? = some fn) (hb : fn.body = some c) : LOk Tryd.prog (tb Tryd.prog tab10) o14.hints 0 c (lt14_1) := by
  intro id ans h b hl t H r hr
  unfold lt14_1 at h
  split at h
  · rename_i he
    subst he
    simp only [Option.some.injEq] at h
    subst h
    obtain rfl : b = b14_2 := by unfold b14_2; rw [hf]; simp only [Option.bind_some, hb, hl, Option.getD_some]
    exact lk14_2 t H r hf hb hr
  cases h
def tree14 (x0 : ByteArray) : Tr Value :=
  .node 7 (Decidable.decide ((fin14_2 x0 (S14_2.mk (0 : Int))).v3 < ↑x0.size))
  (.node 12 (!Bool.true || Decidable.decide ((0 : Int) ≤ (fin14_2 x0 (S14_2.mk (0 : Int))).v3 ∧ (fin14_2 x0 (S14_2.mk (0 : Int))).v3 < ↑x0.size))
   (.node 18 (!!!ref09_part_0 (byteAt x0 (fin14_2 x0 (S14_2.mk (0 : Int))).v3) || Decidable.decide ((0 : Int) ≤ (fin14_2 x0 (S14_2.mk (0 : Int))).v3 ∧ (fin14_2 x0 (S14_2.mk (0 : Int))).v3 < ↑x0.size))
    (.node 23 (!(Decidable.decide (byteAt x0 (fin14_2 x0 (S14_2.mk (0 : Int))).v3 ≥ (65 : Int)) && !!ref09_part_0 (byteAt x0 (fin14_2 x0 (S14_2.mk (0 : Int))).v3)) || Decidable.decide ((0 : Int) ≤ (fin14_2 x0 (S14_2.mk (0 : Int))).v3 ∧ (fin14_2 x0 (S14_2.mk (0 : Int))).v3 < ↑x0.size))
     (.node 33 (!((fin14_2 x0 (S14_2.mk (0 : Int))).v3 == (0 : Int) && !bif !ref09_part_0 (byteAt x0 (fin14_2 x0 (S14_2.mk (0 : Int))).v3) then Bool.true else bif Decidable.decide (byteAt x0 (fin14_2 x0 (S14_2.mk (0 : Int))).v3 ≥ (65 : Int)) then Decidable.decide (byteAt x0 (fin14_2 x0 (S14_2.mk (0 : Int))).v3 ≤ (90 : Int)) else Bool.false) || Decidable.decide ((0 : Int) ≤ (fin14_2 x0 (S14_2.mk (0 : Int))).v3 ∧ (fin14_2 x0 (S14_2.mk (0 : Int))).v3 < ↑x0.size))
      (.node 37 (bif bif !ref09_part_0 (byteAt x0 (fin14_2 x0 (S14_2.mk (0 : Int))).v3) then Bool.true else bif Decidable.decide (byteAt x0 (fin14_2 x0 (S14_2.mk (0 : Int))).v3 ≥ (65 : Int)) then Decidable.decide (byteAt x0 (fin14_2 x0 (S14_2.mk (0 : Int))).v3 ≤ (90 : Int)) else Bool.false then Bool.true else bif (fin14_2 x0 (S14_2.mk (0 : Int))).v3 == (0 : Int) then !ref09_letter_0 (byteAt x0 (fin14_2 x0 (S14_2.mk (0 : Int))).v3) else Bool.false)
       (.leaf (some (.bool (Bool.false))))
       (.leaf none))
      (.leaf none))
     (.leaf none))
    (.leaf none))
   (.leaf none))
  (.leaf (some (.bool (bif Decidable.decide (↑x0.size ≥ (1 : Int)) then Decidable.decide (↑x0.size ≤ (24 : Int)) else Bool.false))))
theorem tree14_eq (x0 : ByteArray) : vals (evFnT Tryd.prog (tb Tryd.prog tab10) (tbT Tryd.prog tab10) o14 (lt14_1) 300 14 #[.string x0] []) = tree14 x0 := by kernel_rfl
theorem tree14_res (x0 : ByteArray) : (tree14 x0).res = if ref09_Name_ok x0 = true then some (.bool (ref09_Name_0 x0)) else none := by
  unfold tree14 ref09_Name_ok ref09_Name_0
  simp only [Tr.res]
  generalize (Decidable.decide ((fin14_2 x0 (S14_2.mk (0 : Int))).v3 < ↑x0.size)) = b0
  generalize (!Bool.true || Decidable.decide ((0 : Int) ≤ (fin14_2 x0 (S14_2.mk (0 : Int))).v3 ∧ (fin14_2 x0 (S14_2.mk (0 : Int))).v3 < ↑x0.size)) = b1
  generalize (!!!ref09_part_0 (byteAt x0 (fin14_2 x0 (S14_2.mk (0 : Int))).v3) || Decidable.decide ((0 : Int) ≤ (fin14_2 x0 (S14_2.mk (0 : Int))).v3 ∧ (fin14_2 x0 (S14_2.mk (0 : Int))).v3 < ↑x0.size)) = b2
  generalize (!(Decidable.decide (byteAt x0 (fin14_2 x0 (S14_2.mk (0 : Int))).v3 ≥ (65 : Int)) && !!ref09_part_0 (byteAt x0 (fin14_2 x0 (S14_2.mk (0 : Int))).v3)) || Decidable.decide ((0 : Int) ≤ (fin14_2 x0 (S14_2.mk (0 : Int))).v3 ∧ (fin14_2 x0 (S14_2.mk (0 : Int))).v3 < ↑x0.size)) = b3
  generalize (!((fin14_2 x0 (S14_2.mk (0 : Int))).v3 == (0 : Int) && !bif !ref09_part_0 (byteAt x0 (fin14_2 x0 (S14_2.mk (0 : Int))).v3) then Bool.true else bif Decidable.decide (byteAt x0 (fin14_2 x0 (S14_2.mk (0 : Int))).v3 ≥ (65 : Int)) then Decidable.decide (byteAt x0 (fin14_2 x0 (S14_2.mk (0 : Int))).v3 ≤ (90 : Int)) else Bool.false) || Decidable.decide ((0 : Int) ≤ (fin14_2 x0 (S14_2.mk (0 : Int))).v3 ∧ (fin14_2 x0 (S14_2.mk (0 : Int))).v3 < ↑x0.size)) = b4
  generalize (bif bif !ref09_part_0 (byteAt x0 (fin14_2 x0 (S14_2.mk (0 : Int))).v3) then Bool.true else bif Decidable.decide (byteAt x0 (fin14_2 x0 (S14_2.mk (0 : Int))).v3 ≥ (65 : Int)) then Decidable.decide (byteAt x0 (fin14_2 x0 (S14_2.mk (0 : Int))).v3 ≤ (90 : Int)) else Bool.false then Bool.true else bif (fin14_2 x0 (S14_2.mk (0 : Int))).v3 == (0 : Int) then !ref09_letter_0 (byteAt x0 (fin14_2 x0 (S14_2.mk (0 : Int))).v3) else Bool.false) = b5
  cases b0 with
  | true =>
   cases b1 with
   | true =>
    cases b2 with
    | true =>
     cases b3 with
     | true =>
      cases b4 with
      | true =>
       cases b5 with
       | true =>
        first | (simp only [if_true, Bool.false_eq_true, if_false]; done) | rfl
       | false =>
        first | (simp only [if_true, Bool.false_eq_true, if_false]; done) | rfl
      | false =>
       first | (simp only [if_true, Bool.false_eq_true, if_false]; done) | rfl
     | false =>
      first | (simp only [if_true, Bool.false_eq_true, if_false]; done) | rfl
    | false =>
     first | (simp only [if_true, Bool.false_eq_true, if_false]; done) | rfl
   | false =>
    first | (simp only [if_true, Bool.false_eq_true, if_false]; done) | rfl
  | false =>
   first | (simp only [if_true, Bool.false_eq_true, if_false]; done) | rfl
theorem var14 (args : Array Value) (b : Bool) (v : Value) (h : ans14 args = some (b, v)) (hb : b = true) : args.toList.all flat = true ∧ flat v = true ∧ ∃ o lt L, (∀ fn c, Tryd.prog.funcs[14]? = some fn → fn.body = some c → LOk Tryd.prog (tb Tryd.prog tab10) o.hints 0 c lt) ∧ (vals (evFnT Tryd.prog (tb Tryd.prog tab10) (tbT Tryd.prog tab10) o lt L 14 args [])).res = some v := by
  unfold ans14 at h
  split at h
  · rename_i x0 h0
    simp only [Option.some.injEq, Prod.mk.injEq] at h
    obtain ⟨rfl, rfl⟩ := h
    obtain rfl : args = #[.string x0] := by rw [← Array.toArray_toList (xs := args), h0]
    exact ⟨rfl, rfl, o14, lt14_1, 300, fun _ _ hf hb => lok14z hf hb, by rw [tree14_eq, tree14_res, if_pos hb]⟩
  · cases h
theorem tab11_ok : TabOk Tryd.prog tab11 := tab_condL mixed tab10_ok (by decide) fun args b v h hb => var14 args b v h hb
/- gangsaw/lexer.Label -/
def o15 : Opts := ⟨[(2000001, 0), (3000012, 0), (3000020, 0)], [], []⟩
def lexer_Label_ok (x0 : ByteArray) : Bool :=
  if (!bif Decidable.decide (↑x0.size ≤ (40 : Int)) then !x0.toList == (ByteArray.mk #[]).toList else Bool.false) || Decidable.decide ((0 : Int) ≤ (0 : Int) ∧ (0 : Int) < ↑x0.size) then (if (!bif bif Decidable.decide (↑x0.size ≤ (40 : Int)) then !x0.toList == (ByteArray.mk #[]).toList else Bool.false then byteAt x0 (0 : Int) != (32 : Int) else Bool.false) || Decidable.decide ((0 : Int) ≤ IntKind.i64.wrap (↑x0.size - (1 : Int)) ∧ IntKind.i64.wrap (↑x0.size - (1 : Int)) < ↑x0.size) then (if (!bif bif bif Decidable.decide (↑x0.size ≤ (40 : Int)) then !x0.toList == (ByteArray.mk #[]).toList else Bool.false then byteAt x0 (0 : Int) != (32 : Int) else Bool.false then byteAt x0 (IntKind.i64.wrap (↑x0.size - (1 : Int))) != (32 : Int) else Bool.false) || lexer_run_b_ok x0 then (Bool.true) else (Bool.false)) else (Bool.false)) else (Bool.false)
def lexer_Label_0 (x0 : ByteArray) : Bool :=
  (bif bif bif bif Decidable.decide (↑x0.size ≤ (40 : Int)) then !x0.toList == (ByteArray.mk #[]).toList else Bool.false then byteAt x0 (0 : Int) != (32 : Int) else Bool.false then byteAt x0 (IntKind.i64.wrap (↑x0.size - (1 : Int))) != (32 : Int) else Bool.false then lexer_run_b_0 x0 == ↑x0.size else Bool.false)
def ans15 : Array Value → Option (Bool × Value) := fun args => match args.toList with
  | [.string x0] => some (lexer_Label_ok x0, .bool (lexer_Label_0 x0))
  | _ => none
def tab12 : Tab := (15, .cond ans15) :: tab11
theorem lok15z {fn : Func} {c : Code} (hf : Tryd.prog.funcs[15]? = some fn) (hb : fn.body = some c) : LOk Tryd.prog (tb Tryd.prog tab11) o15.hints 0 c (noLoops) := by
  exact LOk.none
def tree15 (x0 : ByteArray) : Tr Value :=
  .node 12 ((!bif Decidable.decide (↑x0.size ≤ (40 : Int)) then !x0.toList == (ByteArray.mk #[]).toList else Bool.false) || Decidable.decide ((0 : Int) ≤ (0 : Int) ∧ (0 : Int) < ↑x0.size))
  (.node 20 ((!bif bif Decidable.decide (↑x0.size ≤ (40 : Int)) then !x0.toList == (ByteArray.mk #[]).toList else Bool.false then byteAt x0 (0 : Int) != (32 : Int) else Bool.false) || Decidable.decide ((0 : Int) ≤ IntKind.i64.wrap (↑x0.size - (1 : Int)) ∧ IntKind.i64.wrap (↑x0.size - (1 : Int)) < ↑x0.size))
   (.node 25 ((!bif bif bif Decidable.decide (↑x0.size ≤ (40 : Int)) then !x0.toList == (ByteArray.mk #[]).toList else Bool.false then byteAt x0 (0 : Int) != (32 : Int) else Bool.false then byteAt x0 (IntKind.i64.wrap (↑x0.size - (1 : Int))) != (32 : Int) else Bool.false) || lexer_run_b_ok x0)
    (.leaf (some (.bool (bif bif bif bif Decidable.decide (↑x0.size ≤ (40 : Int)) then !x0.toList == (ByteArray.mk #[]).toList else Bool.false then byteAt x0 (0 : Int) != (32 : Int) else Bool.false then byteAt x0 (IntKind.i64.wrap (↑x0.size - (1 : Int))) != (32 : Int) else Bool.false then lexer_run_b_0 x0 == ↑x0.size else Bool.false))))
    (.leaf none))
   (.leaf none))
  (.leaf none)
theorem tree15_eq (x0 : ByteArray) : vals (evFnT Tryd.prog (tb Tryd.prog tab11) (tbT Tryd.prog tab11) o15 (noLoops) 300 15 #[.string x0] []) = tree15 x0 := by kernel_rfl
theorem tree15_res (x0 : ByteArray) : (tree15 x0).res = if lexer_Label_ok x0 = true then some (.bool (lexer_Label_0 x0)) else none := by
  unfold tree15 lexer_Label_ok lexer_Label_0
  simp only [Tr.res]
  generalize ((!bif Decidable.decide (↑x0.size ≤ (40 : Int)) then !x0.toList == (ByteArray.mk #[]).toList else Bool.false) || Decidable.decide ((0 : Int) ≤ (0 : Int) ∧ (0 : Int) < ↑x0.size)) = b0
  generalize ((!bif bif Decidable.decide (↑x0.size ≤ (40 : Int)) then !x0.toList == (ByteArray.mk #[]).toList else Bool.false then byteAt x0 (0 : Int) != (32 : Int) else Bool.false) || Decidable.decide ((0 : Int) ≤ IntKind.i64.wrap (↑x0.size - (1 : Int)) ∧ IntKind.i64.wrap (↑x0.size - (1 : Int)) < ↑x0.size)) = b1
  generalize ((!bif bif bif Decidable.decide (↑x0.size ≤ (40 : Int)) then !x0.toList == (ByteArray.mk #[]).toList else Bool.false then byteAt x0 (0 : Int) != (32 : Int) else Bool.false then byteAt x0 (IntKind.i64.wrap (↑x0.size - (1 : Int))) != (32 : Int) else Bool.false) || lexer_run_b_ok x0) = b2
  cases b0 with
  | true =>
   cases b1 with
   | true =>
    cases b2 with
    | true =>
     first | (simp only [if_true, Bool.false_eq_true, if_false]; done) | rfl
    | false =>
     first | (simp only [if_true, Bool.false_eq_true, if_false]; done) | rfl
   | false =>
    first | (simp only [if_true, Bool.false_eq_true, if_false]; done) | rfl
  | false =>
   first | (simp only [if_true, Bool.false_eq_true, if_false]; done) | rfl
theorem var15 (args : Array Value) (b : Bool) (v : Value) (h : ans15 args = some (b, v)) (hb : b = true) : args.toList.all flat = true ∧ flat v = true ∧ ∃ o lt L, (∀ fn c, Tryd.prog.funcs[15]? = some fn → fn.body = some c → LOk Tryd.prog (tb Tryd.prog tab11) o.hints 0 c lt) ∧ (vals (evFnT Tryd.prog (tb Tryd.prog tab11) (tbT Tryd.prog tab11) o lt L 15 args [])).res = some v := by
  unfold ans15 at h
  split at h
  · rename_i x0 h0
    simp only [Option.some.injEq, Prod.mk.injEq] at h
    obtain ⟨rfl, rfl⟩ := h
    obtain rfl : args = #[.string x0] := by rw [← Array.toArray_toList (xs := args), h0]
    exact ⟨rfl, rfl, o15, noLoops, 300, fun _ _ hf hb => lok15z hf hb, by rw [tree15_eq, tree15_res, if_pos hb]⟩
  · cases h
theorem tab12_ok : TabOk Tryd.prog tab12 := tab_condL mixed tab11_ok (by decide) fun args b v h hb => var15 args b v h hb
/- gangsaw/gangsawref09.Label -/
def o16 : Opts := ⟨[(7, 0), (25, 0), (2000004, 0), (2000006, 0), (3000012, 0), (3000017, 0), (3000023, 0), (3000036, 0), (3000044, 0)], [(2, [1, 2, 4, 5, 6, 7, 8, 9, 10, 11, 12, 13, 14, 15, 16, 17, 18, 19, 20, 21, 22, 23, 24, 25, 26, 27, 28, 29, 30, 31, 32, 33, 34, 35, 36, 37, 38, 39, 40, 41, 42, 43, 44, 45, 46])], []⟩
noncomputable def b16_2 : Code := (((Tryd.prog.funcs[16]?).bind (·.body)).bind (loopAt · 2)).getD .skip
structure S16_2 where
  v3 : Int
def T16_2 (v0 : ByteArray) (s : S16_2) : Array Value := #[.string (v0), lost, lost, .int .i64 (s.v3), lost, lost, lost, lost, lost, lost, lost, lost, lost, lost, lost, lost, lost, lost, lost, lost, lost, lost, lost, lost, lost, lost, lost, lost, lost, lost, lost, lost, lost, lost, lost, lost, lost, lost, lost, lost, lost, lost, lost, lost, lost, lost, lost]
def M16_2 (v0 : ByteArray) (s : S16_2) : AH := []
def nx16_2 (v0 : ByteArray) (s : S16_2) : Option S16_2 :=
  if Decidable.decide (s.v3 < ↑v0.size) then (if !Bool.true || Decidable.decide ((0 : Int) ≤ s.v3 ∧ s.v3 < ↑v0.size) then (if !!Decidable.decide (byteAt v0 s.v3 < (32 : Int)) || Decidable.decide ((0 : Int) ≤ s.v3 ∧ s.v3 < ↑v0.size) then (if (!!bif Decidable.decide (byteAt v0 s.v3 < (32 : Int)) then Bool.true else Decidable.decide (byteAt v0 s.v3 > (126 : Int))) || Decidable.decide ((0 : Int) ≤ s.v3 ∧ s.v3 < ↑v0.size) then (if bif bif Decidable.decide (byteAt v0 s.v3 < (32 : Int)) then Bool.true else Decidable.decide (byteAt v0 s.v3 > (126 : Int)) then Bool.true else byteAt v0 s.v3 == (34 : Int) then none else some ⟨IntKind.i64.wrap (s.v3 + (1 : Int))⟩) else none) else none) else none) else none
def ex16_2 (v0 : ByteArray) (s : S16_2) : Tr (Exit × Array Value × AH) :=
  .node 7 (Decidable.decide (s.v3 < ↑v0.size))
  (.node 12 (!Bool.true || Decidable.decide ((0 : Int) ≤ s.v3 ∧ s.v3 < ↑v0.size))
   (.node 17 (!!Decidable.decide (byteAt v0 s.v3 < (32 : Int)) || Decidable.decide ((0 : Int) ≤ s.v3 ∧ s.v3 < ↑v0.size))
    (.node 23 ((!!bif Decidable.decide (byteAt v0 s.v3 < (32 : Int)) then Bool.true else Decidable.decide (byteAt v0 s.v3 > (126 : Int))) || Decidable.decide ((0 : Int) ≤ s.v3 ∧ s.v3 < ↑v0.size))
     (.node 25 (bif bif Decidable.decide (byteAt v0 s.v3 < (32 : Int)) then Bool.true else Decidable.decide (byteAt v0 s.v3 > (126 : Int)) then Bool.true else byteAt v0 s.v3 == (34 : Int))
      (.leaf (some (Exit.ret, #[.string (v0), .tuple #[(Go.Value.chan (Option.some 1) : Value)], .bool (Bool.false), .int .i64 (s.v3), .int .i64 (s.v3), .string (v0), .int .i64 (↑v0.size), .bool (Bool.true), .tuple #[(Go.Value.chan (Option.some 1) : Value)], .tuple #[(Go.Value.chan (Option.some 1) : Value)], .string (v0), .int .i64 (s.v3), .int .u8 (byteAt v0 s.v3), .bool (Decidable.decide (byteAt v0 s.v3 < (32 : Int))), .bool (Decidable.decide (byteAt v0 s.v3 < (32 : Int))), (bif !Decidable.decide (byteAt v0 s.v3 < (32 : Int)) then Go.Value.string v0 else Go.undef : Value), (bif !Decidable.decide (byteAt v0 s.v3 < (32 : Int)) then Go.Value.int IntKind.i64 s.v3 else Go.undef : Value), (bif !Decidable.decide (byteAt v0 s.v3 < (32 : Int)) then Go.Value.int IntKind.u8 (byteAt v0 s.v3) else Go.undef : Value), (bif !Decidable.decide (byteAt v0 s.v3 < (32 : Int)) then Go.Value.bool (Decidable.decide (byteAt v0 s.v3 > (126 : Int))) else Go.undef : Value), .bool (bif Decidable.decide (byteAt v0 s.v3 < (32 : Int)) then Bool.true else Decidable.decide (byteAt v0 s.v3 > (126 : Int))), .bool (bif Decidable.decide (byteAt v0 s.v3 < (32 : Int)) then Bool.true else Decidable.decide (byteAt v0 s.v3 > (126 : Int))), (bif !bif Decidable.decide (byteAt v0 s.v3 < (32 : Int)) then Bool.true else Decidable.decide (byteAt v0 s.v3 > (126 : Int)) then Go.Value.string v0 else Go.undef : Value), (bif !bif Decidable.decide (byteAt v0 s.v3 < (32 : Int)) then Bool.true else Decidable.decide (byteAt v0 s.v3 > (126 : Int)) then Go.Value.int IntKind.i64 s.v3 else Go.undef : Value), (bif !bif Decidable.decide (byteAt v0 s.v3 < (32 : Int)) then Bool.true else Decidable.decide (byteAt v0 s.v3 > (126 : Int)) then Go.Value.int IntKind.u8 (byteAt v0 s.v3) else Go.undef : Value), (bif !bif Decidable.decide (byteAt v0 s.v3 < (32 : Int)) then Bool.true else Decidable.decide (byteAt v0 s.v3 > (126 : Int)) then Go.Value.bool (byteAt v0 s.v3 == (34 : Int)) else Go.undef : Value), .bool (Bool.true), .tuple #[(Go.Value.chan (Option.some 1) : Value)], .tuple #[(Go.Value.chan (Option.some 1) : Value)], .tuple #[(Go.Value.chan (Option.some 1) : Value)], .tuple #[(Go.Value.chan (Option.some 1) : Value)], .tuple #[(Go.Value.chan (Option.some 1) : Value)], .tuple #[(Go.Value.chan (Option.some 1) : Value)], .tuple #[(Go.Value.chan (Option.some 1) : Value)], .tuple #[(Go.Value.chan (Option.some 1) : Value)], .tuple #[(Go.Value.chan (Option.some 1) : Value)], .tuple #[(Go.Value.chan (Option.some 1) : Value)], .tuple #[(Go.Value.chan (Option.some 1) : Value)], .tuple #[(Go.Value.chan (Option.some 1) : Value)], .tuple #[(Go.Value.chan (Option.some 1) : Value)], .tuple #[(Go.Value.chan (Option.some 1) : Value)], .tuple #[(Go.Value.chan (Option.some 1) : Value)], .tuple #[(Go.Value.chan (Option.some 1) : Value)], .tuple #[(Go.Value.chan (Option.some 1) : Value)], .tuple #[(Go.Value.chan (Option.some 1) : Value)], .tuple #[(Go.Value.chan (Option.some 1) : Value)], .tuple #[(Go.Value.chan (Option.some 1) : Value)], .tuple #[(Go.Value.chan (Option.some 1) : Value)]], [])))
      (.leaf none))
     (.leaf none))
    (.leaf none))
   (.leaf none))
  (.leaf (some (Exit.exit 0, #[.string (v0), .tuple #[(Go.Value.chan (Option.some 1) : Value)], .tuple #[(Go.Value.chan (Option.some 1) : Value)], .int .i64 (s.v3), .int .i64 (s.v3), .string (v0), .int .i64 (↑v0.size), .bool (Bool.false), .tuple #[(Go.Value.chan (Option.some 1) : Value)], .tuple #[(Go.Value.chan (Option.some 1) : Value)], .tuple #[(Go.Value.chan (Option.some 1) : Value)], .tuple #[(Go.Value.chan (Option.some 1) : Value)], .tuple #[(Go.Value.chan (Option.some 1) : Value)], .tuple #[(Go.Value.chan (Option.some 1) : Value)], .tuple #[(Go.Value.chan (Option.some 1) : Value)], .tuple #[(Go.Value.chan (Option.some 1) : Value)], .tuple #[(Go.Value.chan (Option.some 1) : Value)], .tuple #[(Go.Value.chan (Option.some 1) : Value)], .tuple #[(Go.Value.chan (Option.some 1) : Value)], .tuple #[(Go.Value.chan (Option.some 1) : Value)], .tuple #[(Go.Value.chan (Option.some 1) : Value)], .tuple #[(Go.Value.chan (Option.some 1) : Value)], .tuple #[(Go.Value.chan (Option.some 1) : Value)], .tuple #[(Go.Value.chan (Option.some 1) : Value)], .tuple #[(Go.Value.chan (Option.some 1) : Value)], .tuple #[(Go.Value.chan (Option.some 1) : Value)], .tuple #[(Go.Value.chan (Option.some 1) : Value)], .tuple #[(Go.Value.chan (Option.some 1) : Value)], .tuple #[(Go.Value.chan (Option.some 1) : Value)], .tuple #[(Go.Value.chan (Option.some 1) : Value)], .tuple #[(Go.Value.chan (Option.some 1) : Value)], .tuple #[(Go.Value.chan (Option.some 1) : Value)], .tuple #[(Go.Value.chan (Option.some 1) : Value)], .tuple #[(Go.Value.chan (Option.some 1) : Value)], .tuple #[(Go.Value.chan (Option.some 1) : Value)], .tuple #[(Go.Value.chan (Option.some 1) : Value)], .tuple #[(Go.Value.chan (Option.some 1) : Value)], .tuple #[(Go.Value.chan (Option.some 1) : Value)], .tuple #[(Go.Value.chan (Option.some 1) : Value)], .tuple #[(Go.Value.chan (Option.some 1) : Value)], .tuple #[(Go.Value.chan (Option.some 1) : Value)], .tuple #[(Go.Value.chan (Option.some 1) : Value)], .tuple #[(Go.Value.chan (Option.some 1) : Value)], .tuple #[(Go.Value.chan (Option.some 1) : Value)], .tuple #[(Go.Value.chan (Option.some 1) : Value)], .tuple #[(Go.Value.chan (Option.some 1) : Value)], .tuple #[(Go.Value.chan (Option.some 1) : Value)]], [])))
def fin16_2 (v0 : ByteArray) (s : S16_2) : S16_2 := lgo (nx16_2 v0) ((↑v0.size - s.v3).toNat) s
def kn16_2 (t : Array Value) (H : AH) : Tr (Exit × Array Value × AH) :=
  match t.toList, H with
  | .string v0 :: w1 :: w2 :: .int .i64 v3 :: w4 :: w5 :: w6 :: w7 :: w8 :: w9 :: w10 :: w11 :: w12 :: w13 :: w14 :: w15 :: w16 :: w17 :: w18 :: w19 :: w20 :: w21 :: w22 :: w23 :: w24 :: w25 :: w26 :: w27 :: w28 :: w29 :: w30 :: w31 :: w32 :: w33 :: w34 :: w35 :: w36 :: w37 :: w38 :: w39 :: w40 :: w41 :: w42 :: w43 :: w44 :: w45 :: w46 :: [], [] =>
    if veqL (veq 5) [w1, w2, w4, w5, w6, w7, w8, w9, w10, w11, w12, w13, w14, w15, w16, w17, w18, w19, w20, w21, w22, w23, w24, w25, w26, w27, w28, w29, w30, w31, w32, w33, w34, w35, w36, w37, w38, w39, w40, w41, w42, w43, w44, w45, w46] [lost, lost, lost, lost, lost, lost, lost, lost, lost, lost, lost, lost, lost, lost, lost, lost, lost, lost, lost, lost, lost, lost, lost, lost, lost, lost, lost, lost, lost, lost, lost, lost, lost, lost, lost, lost, lost, lost, lost, lost, lost, lost, lost, lost, lost] then ex16_2 v0 (fin16_2 v0 ⟨v3⟩) else .leaf none
  | _, _ => .leaf none
def lt16_1 : LoopT := fun id => if id = 2 then some kn16_2 else  none
def ref09_Label_ok (x0 : ByteArray) : Bool :=
  if Decidable.decide ((fin16_2 x0 (S16_2.mk (0 : Int))).v3 < ↑x0.size) then (if !Bool.true || Decidable.decide ((0 : Int) ≤ (fin16_2 x0 (S16_2.mk (0 : Int))).v3 ∧ (fin16_2 x0 (S16_2.mk (0 : Int))).v3 < ↑x0.size) then (if !!Decidable.decide (byteAt x0 (fin16_2 x0 (S16_2.mk (0 : Int))).v3 < (32 : Int)) || Decidable.decide ((0 : Int) ≤ (fin16_2 x0 (S16_2.mk (0 : Int))).v3 ∧ (fin16_2 x0 (S16_2.mk (0 : Int))).v3 < ↑x0.size) then (if (!!bif Decidable.decide (byteAt x0 (fin16_2 x0 (S16_2.mk (0 : Int))).v3 < (32 : Int)) then Bool.true else Decidable.decide (byteAt x0 (fin16_2 x0 (S16_2.mk (0 : Int))).v3 > (126 : Int))) || Decidable.decide ((0 : Int) ≤ (fin16_2 x0 (S16_2.mk (0 : Int))).v3 ∧ (fin16_2 x0 (S16_2.mk (0 : Int))).v3 < ↑x0.size) then (if bif bif Decidable.decide (byteAt x0 (fin16_2 x0 (S16_2.mk (0 : Int))).v3 < (32 : Int)) then Bool.true else Decidable.decide (byteAt x0 (fin16_2 x0 (S16_2.mk (0 : Int))).v3 > (126 : Int)) then Bool.true else byteAt x0 (fin16_2 x0 (S16_2.mk (0 : Int))).v3 == (34 : Int) then (Bool.true) else (Bool.false)) else (Bool.false)) else (Bool.false)) else (Bool.false)) else if (!bif Decidable.decide (↑x0.size ≥ (1 : Int)) then Decidable.decide (↑x0.size ≤ (40 : Int)) else Bool.false) || Decidable.decide ((0 : Int) ≤ (0 : Int) ∧ (0 : Int) < ↑x0.size) then (if (!bif bif Decidable.decide (↑x0.size ≥ (1 : Int)) then Decidable.decide (↑x0.size ≤ (40 : Int)) else Bool.false then byteAt x0 (0 : Int) != (32 : Int) else Bool.false) || Decidable.decide ((0 : Int) ≤ IntKind.i64.wrap (↑x0.size - (1 : Int)) ∧ IntKind.i64.wrap (↑x0.size - (1 : Int)) < ↑x0.size) then (Bool.true) else (Bool.false)) else (Bool.false)
def ref09_Label_0 (x0 : ByteArray) : Bool :=
  if Decidable.decide ((fin16_2 x0 (S16_2.mk (0 : Int))).v3 < ↑x0.size) then (Bool.false) else (bif bif bif Decidable.decide (↑x0.size ≥ (1 : Int)) then Decidable.decide (↑x0.size ≤ (40 : Int)) else Bool.false then byteAt x0 (0 : Int) != (32 : Int) else Bool.false then byteAt x0 (IntKind.i64.wrap (↑x0.size - (1 : Int))) != (32 : Int) else Bool.false)
def ans16 : Array Value → Option (Bool × Value) := fun args => match args.toList with
  | [.string x0] => some (ref09_Label_ok x0, .bool (ref09_Label_0 x0))
  | _ => none
def tab13 : Tab := (16, .cond ans16) :: tab12
def rt16_2 (v0 : ByteArray) (s : S16_2) : Tr (Exit × Array Value × AH) :=
  .node 7 (Decidable.decide (s.v3 < ↑v0.size))
  (.node 12 (!Bool.true || Decidable.decide ((0 : Int) ≤ s.v3 ∧ s.v3 < ↑v0.size))
   (.node 17 (!!Decidable.decide (byteAt v0 s.v3 < (32 : Int)) || Decidable.decide ((0 : Int) ≤ s.v3 ∧ s.v3 < ↑v0.size))
    (.node 23 ((!!bif Decidable.decide (byteAt v0 s.v3 < (32 : Int)) then Bool.true else Decidable.decide (byteAt v0 s.v3 > (126 : Int))) || Decidable.decide ((0 : Int) ≤ s.v3 ∧ s.v3 < ↑v0.size))
     (.node 25 (bif bif Decidable.decide (byteAt v0 s.v3 < (32 : Int)) then Bool.true else Decidable.decide (byteAt v0 s.v3 > (126 : Int)) then Bool.true else byteAt v0 s.v3 == (34 : Int))
      (.leaf (some (Exit.ret, #[.string (v0), .tuple #[(Go.Value.chan (Option.some 1) : Value)], .bool (Bool.false), .int .i64 (s.v3), .int .i64 (s.v3), .string (v0), .int .i64 (↑v0.size), .bool (Bool.true), .tuple #[(Go.Value.chan (Option.some 1) : Value)], .tuple #[(Go.Value.chan (Option.some 1) : Value)], .string (v0), .int .i64 (s.v3), .int .u8 (byteAt v0 s.v3), .bool (Decidable.decide (byteAt v0 s.v3 < (32 : Int))), .bool (Decidable.decide (byteAt v0 s.v3 < (32 : Int))), (bif !Decidable.decide (byteAt v0 s.v3 < (32 : Int)) then Go.Value.string v0 else Go.undef : Value), (bif !Decidable.decide (byteAt v0 s.v3 < (32 : Int)) then Go.Value.int IntKind.i64 s.v3 else Go.undef : Value), (bif !Decidable.decide (byteAt v0 s.v3 < (32 : Int)) then Go.Value.int IntKind.u8 (byteAt v0 s.v3) else Go.undef : Value), (bif !Decidable.decide (byteAt v0 s.v3 < (32 : Int)) then Go.Value.bool (Decidable.decide (byteAt v0 s.v3 > (126 : Int))) else Go.undef : Value), .bool (bif Decidable.decide (byteAt v0 s.v3 < (32 : Int)) then Bool.true else Decidable.decide (byteAt v0 s.v3 > (126 : Int))), .bool (bif Decidable.decide (byteAt v0 s.v3 < (32 : Int)) then Bool.true else Decidable.decide (byteAt v0 s.v3 > (126 : Int))), (bif !bif Decidable.decide (byteAt v0 s.v3 < (32 : Int)) then Bool.true else Decidable.decide (byteAt v0 s.v3 > (126 : Int)) then Go.Value.string v0 else Go.undef : Value), (bif !bif Decidable.decide (byteAt v0 s.v3 < (32 : Int)) then Bool.true else Decidable.decide (byteAt v0 s.v3 > (126 : Int)) then Go.Value.int IntKind.i64 s.v3 else Go.undef : Value), (bif !bif Decidable.decide (byteAt v0 s.v3 < (32 : Int)) then Bool.true else Decidable.decide (byteAt v0 s.v3 > (126 : Int)) then Go.Value.int IntKind.u8 (byteAt v0 s.v3) else Go.undef : Value), (bif !bif Decidable.decide (byteAt v0 s.v3 < (32 : Int)) then Bool.true else Decidable.decide (byteAt v0 s.v3 > (126 : Int)) then Go.Value.bool (byteAt v0 s.v3 == (34 : Int)) else Go.undef : Value), .bool (Bool.true), .tuple #[(Go.Value.chan (Option.some 1) : Value)], .tuple #[(Go.Value.chan (Option.some 1) : Value)], .tuple #[(Go.Value.chan (Option.some 1) : Value)], .tuple #[(Go.Value.chan (Option.some 1) : Value)], .tuple #[(Go.Value.chan (Option.some 1) : Value)], .tuple #[(Go.Value.chan (Option.some 1) : Value)], .tuple #[(Go.Value.chan (Option.some 1) : Value)], .tuple #[(Go.Value.chan (Option.some 1) : Value)], .tuple #[(Go.Value.chan (Option.some 1) : Value)], .tuple #[(Go.Value.chan (Option.some 1) : Value)], .tuple #[(Go.Value.chan (Option.some 1) : Value)], .tuple #[(Go.Value.chan (Option.some 1) : Value)], .tuple #[(Go.Value.chan (Option.some 1) : Value)], .tuple #[(Go.Value.chan (Option.some 1) : Value)], .tuple #[(Go.Value.chan (Option.some 1) : Value)], .tuple #[(Go.Value.chan (Option.some 1) : Value)], .tuple #[(Go.Value.chan (Option.some 1) : Value)], .tuple #[(Go.Value.chan (Option.some 1) : Value)], .tuple #[(Go.Value.chan (Option.some 1) : Value)], .tuple #[(Go.Value.chan (Option.some 1) : Value)], .tuple #[(Go.Value.chan (Option.some 1) : Value)]], [])))
      (.leaf (some (.normal, T16_2 v0 ⟨IntKind.i64.wrap (s.v3 + (1 : Int))⟩, M16_2 v0 ⟨IntKind.i64.wrap (s.v3 + (1 : Int))⟩))))
     (.leaf none))
    (.leaf none))
   (.leaf none))
  (.leaf (some (Exit.exit 0, #[.string (v0), .tuple #[(Go.Value.chan (Option.some 1) : Value)], .tuple #[(Go.Value.chan (Option.some 1) : Value)], .int .i64 (s.v3), .int .i64 (s.v3), .string (v0), .int .i64 (↑v0.size), .bool (Bool.false), .tuple #[(Go.Value.chan (Option.some 1) : Value)], .tuple #[(Go.Value.chan (Option.some 1) : Value)], .tuple #[(Go.Value.chan (Option.some 1) : Value)], .tuple #[(Go.Value.chan (Option.some 1) : Value)], .tuple #[(Go.Value.chan (Option.some 1) : Value)], .tuple #[(Go.Value.chan (Option.some 1) : Value)], .tuple #[(Go.Value.chan (Option.some 1) : Value)], .tuple #[(Go.Value.chan (Option.some 1) : Value)], .tuple #[(Go.Value.chan (Option.some 1) : Value)], .tuple #[(Go.Value.chan (Option.some 1) : Value)], .tuple #[(Go.Value.chan (Option.some 1) : Value)], .tuple #[(Go.Value.chan (Option.some 1) : Value)], .tuple #[(Go.Value.chan (Option.some 1) : Value)], .tuple #[(Go.Value.chan (Option.some 1) : Value)], .tuple #[(Go.Value.chan (Option.some 1) : Value)], .tuple #[(Go.Value.chan (Option.some 1) : Value)], .tuple #[(Go.Value.chan (Option.some 1) : Value)], .tuple #[(Go.Value.chan (Option.some 1) : Value)], .tuple #[(Go.Value.chan (Option.some 1) : Value)], .tuple #[(Go.Value.chan (Option.some 1) : Value)], .tuple #[(Go.Value.chan (Option.some 1) : Value)], .tuple #[(Go.Value.chan (Option.some 1) : Value)], .tuple #[(Go.Value.chan (Option.some 1) : Value)], .tuple #[(Go.Value.chan (Option.some 1) : Value)], .tuple #[(Go.Value.chan (Option.some 1) : Value)], .tuple #[(Go.Value.chan (Option.some 1) : Value)], .tuple #[(Go.Value.chan (Option.some 1) : Value)], .tuple #[(Go.Value.chan (Option.some 1) : Value)], .tuple #[(Go.Value.chan (Option.some 1) : Value)], .tuple #[(Go.Value.chan (Option.some 1) : Value)], .tuple #[(Go.Value.chan (Option.some 1) : Value)], .tuple #[(Go.Value.chan (Option.some 1) : Value)], .tuple #[(Go.Value.chan (Option.some 1) : Value)], .tuple #[(Go.Value.chan (Option.some 1) : Value)], .tuple #[(Go.Value.chan (Option.some 1) : Value)], .tuple #[(Go.Value.chan (Option.some 1) : Value)], .tuple #[(Go.Value.chan (Option.some 1) : Value)], .tuple #[(Go.Value.chan (Option.some 1) : Value)], .tuple #[(Go.Value.chan (Option.some 1) : Value)]], [])))
theorem rt16_2_eq  (v0 : ByteArray) (s : S16_2) : roundT Tryd.prog (tb Tryd.prog tab12) (tbT Tryd.prog tab12) (o16) (noLoops) 0 300 b16_2 (T16_2 v0 s) (M16_2 v0 s) = rt16_2 v0 s := by kernel_rfl
theorem in16_2 (v0 : ByteArray) (s s2 : S16_2) (h : nx16_2 v0 s = some s2) : (rt16_2 v0 s).res = some (.normal, T16_2 v0 s2, M16_2 v0 s2) := by
  unfold nx16_2 at h
  unfold rt16_2
  simp only [Tr.res] at h ⊢
  generalize (Decidable.decide (s.v3 < ↑v0.size)) = b0 at *
  generalize (!Bool.true || Decidable.decide ((0 : Int) ≤ s.v3 ∧ s.v3 < ↑v0.size)) = b1 at *
  generalize (!!Decidable.decide (byteAt v0 s.v3 < (32 : Int)) || Decidable.decide ((0 : Int) ≤ s.v3 ∧ s.v3 < ↑v0.size)) = b2 at *
  generalize ((!!bif Decidable.decide (byteAt v0 s.v3 < (32 : Int)) then Bool.true else Decidable.decide (byteAt v0 s.v3 > (126 : Int))) || Decidable.decide ((0 : Int) ≤ s.v3 ∧ s.v3 < ↑v0.size)) = b3 at *
  generalize (bif bif Decidable.decide (byteAt v0 s.v3 < (32 : Int)) then Bool.true else Decidable.decide (byteAt v0 s.v3 > (126 : Int)) then Bool.true else byteAt v0 s.v3 == (34 : Int)) = b4 at *
  cases b0 with
  | true =>
   cases b1 with
   | true =>
    cases b2 with
    | true =>
     cases b3 with
     | true =>
      cases b4 with
      | true =>
       first | cases h | (simp at h)
      | false =>
       first | (cases h; rfl) | (simp only [if_true, Bool.false_eq_true, if_false, Option.some.injEq] at h ⊢; subst h; rfl)
     | false =>
      first | cases h | (simp at h)
    | false =>
     first | cases h | (simp at h)
   | false =>
    first | cases h | (simp at h)
  | false =>
   first | cases h | (simp at h)
theorem out16_2 (v0 : ByteArray) (s : S16_2) (r : Exit × Array Value × AH) (h : (ex16_2 v0 s).res = some r) : r.1 ≠ .normal ∧ (rt16_2 v0 s).res = some r := by
  unfold ex16_2 at h
  unfold rt16_2
  simp only [Tr.res] at h ⊢
  generalize (Decidable.decide (s.v3 < ↑v0.size)) = b0 at *
  generalize (!Bool.true || Decidable.decide ((0 : Int) ≤ s.v3 ∧ s.v3 < ↑v0.size)) = b1 at *
  generalize (!!Decidable.decide (byteAt v0 s.v3 < (32 : Int)) || Decidable.decide ((0 : Int) ≤ s.v3 ∧ s.v3 < ↑v0.size)) = b2 at *
  generalize ((!!bif Decidable.decide (byteAt v0 s.v3 < (32 : Int)) then Bool.true else Decidable.decide (byteAt v0 s.v3 > (126 : Int))) || Decidable.decide ((0 : Int) ≤ s.v3 ∧ s.v3 < ↑v0.size)) = b3 at *
  generalize (bif bif Decidable.decide (byteAt v0 s.v3 < (32 : Int)) then Bool.true else Decidable.decide (byteAt v0 s.v3 > (126 : Int)) then Bool.true else byteAt v0 s.v3 == (34 : Int)) = b4 at *
  cases b0 with
  | true =>
   cases b1 with
   | true =>
    cases b2 with
    | true =>
     cases b3 with
     | true =>
      cases b4 with
      | true =>
       first | (cases h; exact ⟨(by intro hh; cases hh), rfl⟩) | (simp only [if_true, Bool.false_eq_true, if_false, Option.some.injEq] at h ⊢; subst h; exact ⟨(by intro hh; cases hh), rfl⟩)
      | false =>
       first | cases h | (simp at h)
     | false =>
      first | cases h | (simp at h)
    | false =>
     first | cases h | (simp at h)
   | false =>
    first | cases h | (simp at h)
  | false =>
   first | (cases h; exact ⟨(by intro hh; cases hh), rfl⟩) | (simp only [if_true, Bool.false_eq_true, if_false, Option.some.injEq] at h ⊢; subst h; exact ⟨(by intro hh; cases hh), rfl⟩)
theorem lok16_2 {fn : Func} {c : Code} (hf : Tryd.prog.funcs[16]? = some fn) (hb : fn.body = some c) : LOk Tryd.prog (tb Tryd.prog tab12) o16.hints 0 c (noLoops) := by
  exact LOk.none
theorem sub16_2 {fn : Func} {c : Code} (hf : Tryd.prog.funcs[16]? = some fn) (hb : fn.body = some c) : ∀ b2 ∈ loopsOf b16_2, loopAt c (headId b2) = some b2 := by
  have h1 : ((Tryd.prog.funcs[16]?).bind (·.body)) = some c := by rw [hf]; exact hb
  intro b2 h2
  rw [show loopsOf b16_2 = [] by kernel_rfl] at h2
  cases h2
theorem lk16_2 (t : Array Value) (H : AH) (r : Exit × Array Value × AH) {fn : Func} {c : Code} (hf : Tryd.prog.funcs[16]? = some fn) (hb : fn.body = some c) (hr : (kn16_2 t H).res = some r) : ∃ n, evRound Tryd.prog (tb Tryd.prog tab12) o16.hints 0 n b16_2 t H = some r := by
  unfold kn16_2 at hr
  split at hr
  · rename_i v0 w1 w2 v3 w4 w5 w6 w7 w8 w9 w10 w11 w12 w13 w14 w15 w16 w17 w18 w19 w20 w21 w22 w23 w24 w25 w26 w27 w28 w29 w30 w31 w32 w33 w34 w35 w36 w37 w38 w39 w40 w41 w42 w43 w44 w45 w46 ht
    split at hr
    · rename_i hv
      have hv := veqL_eq (veq_eq 5) _ _ hv
      simp only [List.cons.injEq, and_true] at hv
      obtain ⟨rfl, rfl, rfl, rfl, rfl, rfl, rfl, rfl, rfl, rfl, rfl, rfl, rfl, rfl, rfl, rfl, rfl, rfl, rfl, rfl, rfl, rfl, rfl, rfl, rfl, rfl, rfl, rfl, rfl, rfl, rfl, rfl, rfl, rfl, rfl, rfl, rfl, rfl, rfl, rfl, rfl, rfl, rfl, rfl, rfl⟩ := hv
      obtain rfl : t = T16_2 v0 ⟨v3⟩ := by rw [← Array.toArray_toList (xs := t), ht]; rfl
      exact loop_fin (tbT_ok _) (T16_2 v0) (M16_2 v0) (nx16_2 v0) (ex16_2 v0) (lok16_2 hf hb) (sub16_2 hf hb) (fun s s2 h => by rw [rt16_2_eq]; exact in16_2 v0 s s2 h) (fun s r h => by rw [rt16_2_eq]; exact out16_2 v0 s r h) _ _ _ hr
    · cases hr
  · cases hr
theorem lok16z {fn : Func} {c : Code} (hf : Tryd.prog.funcs[16]? = some fn) (hb : fn.body = some c) : LOk Tryd.prog (tb Tryd.prog tab12) o16.hints 0 c (lt16_1) := by
  intro id ans h b hl t H r hr
  unfold lt16_1 at h
  split at h
  · rename_i he
    subst he
    simp only [Option.some.injEq] at h
    subst h
    obtain rfl : b = b16_2 := by unfold b16_2; rw [hf]; simp only [Option.bind_some, hb, hl, Option.getD_some]
    exact lk16_2 t H r hf hb hr
  cases h
def tree16 (x0 : ByteArray) : Tr Value :=
  .node 7 (Decidable.decide ((fin16_2 x0 (S16_2.mk (0 : Int))).v3 < ↑x0.size))
  (.node 12 (!Bool.true || Decidable.decide ((0 : Int) ≤ (fin16_2 x0 (S16_2.mk (0 : Int))).v3 ∧ (fin16_2 x0 (S16_2.mk (0 : Int))).v3 < ↑x0.size))
   (.node 17 (!!Decidable.decide (byteAt x0 (fin16_2 x0 (S16_2.mk (0 : Int))).v3 < (32 : Int)) || Decidable.decide ((0 : Int) ≤ (fin16_2 x0 (S16_2.mk (0 : Int))).v3 ∧ (fin16_2 x0 (S16_2.mk (0 : Int))).v3 < ↑x0.size))
    (.node 23 ((!!bif Decidable.decide (byteAt x0 (fin16_2 x0 (S16_2.mk (0 : Int))).v3 < (32 : Int)) then Bool.true else Decidable.decide (byteAt x0 (fin16_2 x0 (S16_2.mk (0 : Int))).v3 > (126 : Int))) || Decidable.decide ((0 : Int) ≤ (fin16_2 x0 (S16_2.mk (0 : Int))).v3 ∧ (fin16_2 x0 (S16_2.mk (0 : Int))).v3 < ↑x0.size))
     (.node 25 (bif bif Decidable.decide (byteAt x0 (fin16_2 x0 (S16_2.mk (0 : Int))).v3 < (32 : Int)) then Bool.true else Decidable.decide (byteAt x0 (fin16_2 x0 (S16_2.mk (0 : Int))).v3 > (126 : Int)) then Bool.true else byteAt x0 (fin16_2 x0 (S16_2.mk (0 : Int))).v3 == (34 : Int))
      (.leaf (some (.bool (Bool.false))))
      (.leaf none))
     (.leaf none))
    (.leaf none))
   (.leaf none))
  (.node 36 ((!bif Decidable.decide (↑x0.size ≥ (1 : Int)) then Decidable.decide (↑x0.size ≤ (40 : Int)) else Bool.false) || Decidable.decide ((0 : Int) ≤ (0 : Int) ∧ (0 : Int) < ↑x0.size))
   (.node 44 ((!bif bif Decidable.decide (↑x0.size ≥ (1 : Int)) then Decidable.decide (↑x0.size ≤ (40 : Int)) else Bool.false then byteAt x0 (0 : Int) != (32 : Int) else Bool.false) || Decidable.decide ((0 : Int) ≤ IntKind.i64.wrap (↑x0.size - (1 : Int)) ∧ IntKind.i64.wrap (↑x0.size - (1 : Int)) < ↑x0.size))
    (.leaf (some (.bool (bif bif bif Decidable.decide (↑x0.size ≥ (1 : Int)) then Decidable.decide (↑x0.size ≤ (40 : Int)) else Bool.false then byteAt x0 (0 : Int) != (32 : Int) else Bool.false then byteAt x0 (IntKind.i64.wrap (↑x0.size - (1 : Int))) != (32 : Int) else Bool.false))))
    (.leaf none))
   (.leaf none))
theorem tree16_eq (x0 : ByteArray) : vals (evFnT Tryd.prog (tb Tryd.prog tab12) (tbT Tryd.prog tab12) o16 (lt16_1) 300 16 #[.string x0] []) = tree16 x0 := by kernel_rfl
theorem tree16_res (x0 : ByteArray) : (tree16 x0).res = if ref09_Label_ok x0 = true then some (.bool (ref09_Label_0 x0)) else none := by
  unfold tree16 ref09_Label_ok ref09_Label_0
  simp only [Tr.res]
  generalize (Decidable.decide ((fin16_2 x0 (S16_2.mk (0 : Int))).v3 < ↑x0.size)) = b0
  generalize (!Bool.true || Decidable.decide ((0 : Int) ≤ (fin16_2 x0 (S16_2.mk (0 : Int))).v3 ∧ (fin16_2 x0 (S16_2.mk (0 : Int))).v3 < ↑x0.size)) = b1
  generalize (!!Decidable.decide (byteAt x0 (fin16_2 x0 (S16_2.mk (0 : Int))).v3 < (32 : Int)) || Decidable.decide ((0 : Int) ≤ (fin16_2 x0 (S16_2.mk (0 : Int))).v3 ∧ (fin16_2 x0 (S16_2.mk (0 : Int))).v3 < ↑x0.size)) = b2
  generalize ((!!bif Decidable.decide (byteAt x0 (fin16_2 x0 (S16_2.mk (0 : Int))).v3 < (32 : Int)) then Bool.true else Decidable.decide (byteAt x0 (fin16_2 x0 (S16_2.mk (0 : Int))).v3 > (126 : Int))) || Decidable.decide ((0 : Int) ≤ (fin16_2 x0 (S16_2.mk (0 : Int))).v3 ∧ (fin16_2 x0 (S16_2.mk (0 : Int))).v3 < ↑x0.size)) = b3
  generalize (bif bif Decidable.decide (byteAt x0 (fin16_2 x0 (S16_2.mk (0 : Int))).v3 < (32 : Int)) then Bool.true else Decidable.decide (byteAt x0 (fin16_2 x0 (S16_2.mk (0 : Int))).v3 > (126 : Int)) then Bool.true else byteAt x0 (fin16_2 x0 (S16_2.mk (0 : Int))).v3 == (34 : Int)) = b4
  generalize ((!bif Decidable.decide (↑x0.size ≥ (1 : Int)) then Decidable.decide (↑x0.size ≤ (40 : Int)) else Bool.false) || Decidable.decide ((0 : Int) ≤ (0 : Int) ∧ (0 : Int) < ↑x0.size)) = b5
  generalize ((!bif bif Decidable.decide (↑x0.size ≥ (1 : Int)) then Decidable.decide (↑x0.size ≤ (40 : Int)) else Bool.false then byteAt x0 (0 : Int) != (32 : Int) else Bool.false) || Decidable.decide ((0 : Int) ≤ IntKind.i64.wrap (↑x0.size - (1 : Int)) ∧ IntKind.i64.wrap (↑x0.size - (1 : Int)) < ↑x0.size)) = b6
  cases b0 with
  | true =>
   cases b1 with
   | true =>
    cases b2 with
    | true =>
     cases b3 with
     | true =>
      cases b4 with
      | true =>
       first | (simp only [if_true, Bool.false_eq_true, if_false]; done) | rfl
      | false =>
       first | (simp only [if_true, Bool.false_eq_true, if_false]; done) | rfl
     | false =>
      first | (simp only [if_true, Bool.false_eq_true, if_false]; done) | rfl
    | false =>
     first | (simp only [if_true, Bool.false_eq_true, if_false]; done) | rfl
   | false =>
    first | (simp only [if_true, Bool.false_eq_true, if_false]; done) | rfl
  | false =>
   cases b5 with
   | true =>
    cases b6 with
    | true =>
     first | (simp only [if_true, Bool.false_eq_true, if_false]; done) | rfl
    | false =>
     first | (simp only [if_true, Bool.false_eq_true, if_false]; done) | rfl
   | false =>
    first | (simp only [if_true, Bool.false_eq_true, if_false]; done) | rfl
theorem var16 (args : Array Value) (b : Bool) (v : Value) (h : ans16 args = some (b, v)) (hb : b = true) : args.toList.all flat = true ∧ flat v = true ∧ ∃ o lt L, (∀ fn c, Tryd.prog.funcs[16]? = some fn → fn.body = some c → LOk Tryd.prog (tb Tryd.prog tab12) o.hints 0 c lt) ∧ (vals (evFnT Tryd.prog (tb Tryd.prog tab12) (tbT Tryd.prog tab12) o lt L 16 args [])).res = some v := by
  unfold ans16 at h
  split at h
  · rename_i x0 h0
    simp only [Option.some.injEq, Prod.mk.injEq] at h
    obtain ⟨rfl, rfl⟩ := h
    obtain rfl : args = #[.string x0] := by rw [← Array.toArray_toList (xs := args), h0]
    exact ⟨rfl, rfl, o16, lt16_1, 300, fun _ _ hf hb => lok16z hf hb, by rw [tree16_eq, tree16_res, if_pos hb]⟩
  · cases h
theorem tab13_ok : TabOk Tryd.prog tab13 := tab_condL mixed tab12_ok (by decide) fun args b v h hb => var16 args b v h hb
/- gangsaw/gangsawlaw09.LexerNames -/
def o4 : Opts := ⟨[(2000003, 0)], [], []⟩
def law09_LexerNames_ok (x0 : ByteArray) : Bool :=
  if !!Decidable.decide (↑x0.size > (100 : Int)) || lexer_Name_ok x0 then (if !!Decidable.decide (↑x0.size > (100 : Int)) || ref09_Name_ok x0 then (if !(lexer_Name_0 x0 == ref09_Name_0 x0 && !Decidable.decide (↑x0.size > (100 : Int))) || lexer_Label_ok x0 then (if !(lexer_Name_0 x0 == ref09_Name_0 x0 && !Decidable.decide (↑x0.size > (100 : Int))) || ref09_Label_ok x0 then (Bool.true) else (Bool.false)) else (Bool.false)) else (Bool.false)) else (Bool.false)
def law09_LexerNames_0 (x0 : ByteArray) : Bool :=
  (bif Decidable.decide (↑x0.size > (100 : Int)) then Bool.true else bif lexer_Name_0 x0 == ref09_Name_0 x0 then lexer_Label_0 x0 == ref09_Label_0 x0 else Bool.false)
def ans4 : Array Value → Option (Bool × Value) := fun args => match args.toList with
  | [.string x0] => some (law09_LexerNames_ok x0, .bool (law09_LexerNames_0 x0))
  | _ => none
def tab14 : Tab := (4, .cond ans4) :: tab13
theorem lok4z {fn : Func} {c : Code} (hf : Tryd.prog.funcs[4]? = some fn) (hb : fn.body = some c) : LOk Tryd.prog (tb Tryd.prog tab13) o4.hints 0 c (noLoops) := by
  exact LOk.none
def tree4 (x0 : ByteArray) : Tr Value :=
  .node 10 (!!Decidable.decide (↑x0.size > (100 : Int)) || lexer_Name_ok x0)
  (.node 12 (!!Decidable.decide (↑x0.size > (100 : Int)) || ref09_Name_ok x0)
   (.node 16 (!(lexer_Name_0 x0 == ref09_Name_0 x0 && !Decidable.decide (↑x0.size > (100 : Int))) || lexer_Label_ok x0)
    (.node 18 (!(lexer_Name_0 x0 == ref09_Name_0 x0 && !Decidable.decide (↑x0.size > (100 : Int))) || ref09_Label_ok x0)
     (.leaf (some (.bool (bif Decidable.decide (↑x0.size > (100 : Int)) then Bool.true else bif lexer_Name_0 x0 == ref09_Name_0 x0 then lexer_Label_0 x0 == ref09_Label_0 x0 else Bool.false))))
     (.leaf none))
    (.leaf none))
   (.leaf none))
  (.leaf none)
theorem tree4_eq (x0 : ByteArray) : vals (evFnT Tryd.prog (tb Tryd.prog tab13) (tbT Tryd.prog tab13) o4 (noLoops) 300 4 #[.string x0] []) = tree4 x0 := by kernel_rfl
theorem tree4_res (x0 : ByteArray) : (tree4 x0).res = if law09_LexerNames_ok x0 = true then some (.bool (law09_LexerNames_0 x0)) else none := by
  unfold tree4 law09_LexerNames_ok law09_LexerNames_0
  simp only [Tr.res]
  generalize (!!Decidable.decide (↑x0.size > (100 : Int)) || lexer_Name_ok x0) = b0
  generalize (!!Decidable.decide (↑x0.size > (100 : Int)) || ref09_Name_ok x0) = b1
  generalize (!(lexer_Name_0 x0 == ref09_Name_0 x0 && !Decidable.decide (↑x0.size > (100 : Int))) || lexer_Label_ok x0) = b2
  generalize (!(lexer_Name_0 x0 == ref09_Name_0 x0 && !Decidable.decide (↑x0.size > (100 : Int))) || ref09_Label_ok x0) = b3
  cases b0 with
  | true =>
   cases b1 with
   | true =>
    cases b2 with
    | true =>
     cases b3 with
     | true =>
      first | (simp only [if_true, Bool.false_eq_true, if_false]; done) | rfl
     | false =>
      first | (simp only [if_true, Bool.false_eq_true, if_false]; done) | rfl
    | false =>
     first | (simp only [if_true, Bool.false_eq_true, if_false]; done) | rfl
   | false =>
    first | (simp only [if_true, Bool.false_eq_true, if_false]; done) | rfl
  | false =>
   first | (simp only [if_true, Bool.false_eq_true, if_false]; done) | rfl
theorem var4 (args : Array Value) (b : Bool) (v : Value) (h : ans4 args = some (b, v)) (hb : b = true) : args.toList.all flat = true ∧ flat v = true ∧ ∃ o lt L, (∀ fn c, Tryd.prog.funcs[4]? = some fn → fn.body = some c → LOk Tryd.prog (tb Tryd.prog tab13) o.hints 0 c lt) ∧ (vals (evFnT Tryd.prog (tb Tryd.prog tab13) (tbT Tryd.prog tab13) o lt L 4 args [])).res = some v := by
  unfold ans4 at h
  split at h
  · rename_i x0 h0
    simp only [Option.some.injEq, Prod.mk.injEq] at h
    obtain ⟨rfl, rfl⟩ := h
    obtain rfl : args = #[.string x0] := by rw [← Array.toArray_toList (xs := args), h0]
    exact ⟨rfl, rfl, o4, noLoops, 300, fun _ _ hf hb => lok4z hf hb, by rw [tree4_eq, tree4_res, if_pos hb]⟩
  · cases h
theorem tab14_ok : TabOk Tryd.prog tab14 := tab_condL mixed tab13_ok (by decide) fun args b v h hb => var4 args b v h hb
end Go.Proofs.YtgcmejgiodhldaaDoor.Vx
