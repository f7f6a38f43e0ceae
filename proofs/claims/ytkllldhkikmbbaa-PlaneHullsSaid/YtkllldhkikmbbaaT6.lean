/- The answers of the functions of the package and of its reference, read off their texts. -/
import Derived.Test.YtkllldhkikmbbaaTH
namespace Go.Proofs.Ytkllldhkikmbbaa.Vx
open Go Go.RowKit Go.Proofs
set_option maxRecDepth 100000
set_option linter.unusedVariables false
set_option linter.unusedSimpArgs false

/- gangsaw/gangsawlaw07.PlaneHulls -/
def law07_PlaneHulls_ok (x0 x1 x2 x3 x4 x5 x6 x7 x8 x9 : Int) : Bool :=
  if plane_Hull_ok x0 x1 x2 x3 x4 x5 x6 x7 x8 x9 then (if ref07_Valid_0 x0 x1 x2 x3 x4 x5 x6 x7 x8 x9 != 0 then (Bool.true) else if ref07_Hull_ok x0 x1 x2 x3 x4 x5 x6 x7 x8 x9 then (Bool.true) else (Bool.false)) else (Bool.false)
def law07_PlaneHulls_0 (x0 x1 x2 x3 x4 x5 x6 x7 x8 x9 : Int) : Bool :=
  if ref07_Valid_0 x0 x1 x2 x3 x4 x5 x6 x7 x8 x9 != 0 then (if plane_Hull_6 x0 x1 x2 x3 x4 x5 x6 x7 x8 x9 == ref07_Valid_0 x0 x1 x2 x3 x4 x5 x6 x7 x8 x9 then (plane_Hull_0 x0 x1 x2 x3 x4 x5 x6 x7 x8 x9 == 0 && (plane_Hull_1 x0 x1 x2 x3 x4 x5 x6 x7 x8 x9 == 0 && (plane_Hull_2 x0 x1 x2 x3 x4 x5 x6 x7 x8 x9 == 0 && Bool.true)) && (plane_Hull_3 x0 x1 x2 x3 x4 x5 x6 x7 x8 x9 == 0 && (plane_Hull_4 x0 x1 x2 x3 x4 x5 x6 x7 x8 x9 == 0 && (plane_Hull_5 x0 x1 x2 x3 x4 x5 x6 x7 x8 x9 == 0 && Bool.true)) && Bool.true)) else (Bool.false)) else if !ref07_Hull_6 x0 x1 x2 x3 x4 x5 x6 x7 x8 x9 then (if plane_Hull_6 x0 x1 x2 x3 x4 x5 x6 x7 x8 x9 == 9 then (plane_Hull_0 x0 x1 x2 x3 x4 x5 x6 x7 x8 x9 == 0 && (plane_Hull_1 x0 x1 x2 x3 x4 x5 x6 x7 x8 x9 == 0 && (plane_Hull_2 x0 x1 x2 x3 x4 x5 x6 x7 x8 x9 == 0 && Bool.true)) && (plane_Hull_3 x0 x1 x2 x3 x4 x5 x6 x7 x8 x9 == 0 && (plane_Hull_4 x0 x1 x2 x3 x4 x5 x6 x7 x8 x9 == 0 && (plane_Hull_5 x0 x1 x2 x3 x4 x5 x6 x7 x8 x9 == 0 && Bool.true)) && Bool.true)) else (Bool.false)) else if plane_Hull_6 x0 x1 x2 x3 x4 x5 x6 x7 x8 x9 == 0 then (plane_Hull_0 x0 x1 x2 x3 x4 x5 x6 x7 x8 x9 == ref07_Hull_0 x0 x1 x2 x3 x4 x5 x6 x7 x8 x9 && (plane_Hull_1 x0 x1 x2 x3 x4 x5 x6 x7 x8 x9 == ref07_Hull_1 x0 x1 x2 x3 x4 x5 x6 x7 x8 x9 && (plane_Hull_2 x0 x1 x2 x3 x4 x5 x6 x7 x8 x9 == ref07_Hull_2 x0 x1 x2 x3 x4 x5 x6 x7 x8 x9 && Bool.true)) && (plane_Hull_3 x0 x1 x2 x3 x4 x5 x6 x7 x8 x9 == ref07_Hull_3 x0 x1 x2 x3 x4 x5 x6 x7 x8 x9 && (plane_Hull_4 x0 x1 x2 x3 x4 x5 x6 x7 x8 x9 == ref07_Hull_4 x0 x1 x2 x3 x4 x5 x6 x7 x8 x9 && (plane_Hull_5 x0 x1 x2 x3 x4 x5 x6 x7 x8 x9 == ref07_Hull_5 x0 x1 x2 x3 x4 x5 x6 x7 x8 x9 && Bool.true)) && Bool.true)) else (Bool.false)
def ans6 : Array Value → Option (Bool × Value) := fun args => match args.toList with
  | [.agg c0, .agg c1] => match c0.toList, c1.toList with
    | [.int .i64 x0, .int .i64 x1, .int .i64 x2, .int .i64 x3], [.int .i64 x4, .int .i64 x5, .int .i64 x6, .int .i64 x7, .int .i64 x8, .int .i64 x9] => some (law07_PlaneHulls_ok x0 x1 x2 x3 x4 x5 x6 x7 x8 x9, .bool (law07_PlaneHulls_0 x0 x1 x2 x3 x4 x5 x6 x7 x8 x9))
    | _, _ => none
  | _ => none
def tab32 : Tab := (6, .cond ans6) :: tab31
def tree6 (x0 x1 x2 x3 x4 x5 x6 x7 x8 x9 : Int) : Tr Value :=
  .node 0 (plane_Hull_ok x0 x1 x2 x3 x4 x5 x6 x7 x8 x9)
  (.node 22 (ref07_Valid_0 x0 x1 x2 x3 x4 x5 x6 x7 x8 x9 != 0)
   (.node 25 (plane_Hull_6 x0 x1 x2 x3 x4 x5 x6 x7 x8 x9 == ref07_Valid_0 x0 x1 x2 x3 x4 x5 x6 x7 x8 x9)
    (.leaf (some (.bool (plane_Hull_0 x0 x1 x2 x3 x4 x5 x6 x7 x8 x9 == 0 && (plane_Hull_1 x0 x1 x2 x3 x4 x5 x6 x7 x8 x9 == 0 && (plane_Hull_2 x0 x1 x2 x3 x4 x5 x6 x7 x8 x9 == 0 && Bool.true)) && (plane_Hull_3 x0 x1 x2 x3 x4 x5 x6 x7 x8 x9 == 0 && (plane_Hull_4 x0 x1 x2 x3 x4 x5 x6 x7 x8 x9 == 0 && (plane_Hull_5 x0 x1 x2 x3 x4 x5 x6 x7 x8 x9 == 0 && Bool.true)) && Bool.true)))))
    (.leaf (some (.bool (Bool.false)))))
   (.node 0 (ref07_Hull_ok x0 x1 x2 x3 x4 x5 x6 x7 x8 x9)
    (.node 38 (!ref07_Hull_6 x0 x1 x2 x3 x4 x5 x6 x7 x8 x9)
     (.node 40 (plane_Hull_6 x0 x1 x2 x3 x4 x5 x6 x7 x8 x9 == 9)
      (.leaf (some (.bool (plane_Hull_0 x0 x1 x2 x3 x4 x5 x6 x7 x8 x9 == 0 && (plane_Hull_1 x0 x1 x2 x3 x4 x5 x6 x7 x8 x9 == 0 && (plane_Hull_2 x0 x1 x2 x3 x4 x5 x6 x7 x8 x9 == 0 && Bool.true)) && (plane_Hull_3 x0 x1 x2 x3 x4 x5 x6 x7 x8 x9 == 0 && (plane_Hull_4 x0 x1 x2 x3 x4 x5 x6 x7 x8 x9 == 0 && (plane_Hull_5 x0 x1 x2 x3 x4 x5 x6 x7 x8 x9 == 0 && Bool.true)) && Bool.true)))))
      (.leaf (some (.bool (Bool.false)))))
     (.node 47 (plane_Hull_6 x0 x1 x2 x3 x4 x5 x6 x7 x8 x9 == 0)
      (.leaf (some (.bool (plane_Hull_0 x0 x1 x2 x3 x4 x5 x6 x7 x8 x9 == ref07_Hull_0 x0 x1 x2 x3 x4 x5 x6 x7 x8 x9 && (plane_Hull_1 x0 x1 x2 x3 x4 x5 x6 x7 x8 x9 == ref07_Hull_1 x0 x1 x2 x3 x4 x5 x6 x7 x8 x9 && (plane_Hull_2 x0 x1 x2 x3 x4 x5 x6 x7 x8 x9 == ref07_Hull_2 x0 x1 x2 x3 x4 x5 x6 x7 x8 x9 && Bool.true)) && (plane_Hull_3 x0 x1 x2 x3 x4 x5 x6 x7 x8 x9 == ref07_Hull_3 x0 x1 x2 x3 x4 x5 x6 x7 x8 x9 && (plane_Hull_4 x0 x1 x2 x3 x4 x5 x6 x7 x8 x9 == ref07_Hull_4 x0 x1 x2 x3 x4 x5 x6 x7 x8 x9 && (plane_Hull_5 x0 x1 x2 x3 x4 x5 x6 x7 x8 x9 == ref07_Hull_5 x0 x1 x2 x3 x4 x5 x6 x7 x8 x9 && Bool.true)) && Bool.true)))))
      (.leaf (some (.bool (Bool.false))))))
    (.leaf none)))
  (.leaf none)
theorem tree6_eq (x0 x1 x2 x3 x4 x5 x6 x7 x8 x9 : Int) : vals (evFnT Try.prog (tb Try.prog tab31) (tbT Try.prog tab31) ⟨[(22, 0), (25, 0), (38, 0), (40, 0), (47, 0)], [], []⟩ noLoops 300 6 #[.agg #[.int .i64 x0, .int .i64 x1, .int .i64 x2, .int .i64 x3], .agg #[.int .i64 x4, .int .i64 x5, .int .i64 x6, .int .i64 x7, .int .i64 x8, .int .i64 x9]] []) = tree6 x0 x1 x2 x3 x4 x5 x6 x7 x8 x9 := by kernel_rfl
theorem tree6_res (x0 x1 x2 x3 x4 x5 x6 x7 x8 x9 : Int) : (tree6 x0 x1 x2 x3 x4 x5 x6 x7 x8 x9).res = if law07_PlaneHulls_ok x0 x1 x2 x3 x4 x5 x6 x7 x8 x9 = true then some (.bool (law07_PlaneHulls_0 x0 x1 x2 x3 x4 x5 x6 x7 x8 x9)) else none := by
  unfold tree6 law07_PlaneHulls_ok law07_PlaneHulls_0
  simp only [Tr.res]
  generalize (plane_Hull_ok x0 x1 x2 x3 x4 x5 x6 x7 x8 x9) = b0
  generalize (ref07_Valid_0 x0 x1 x2 x3 x4 x5 x6 x7 x8 x9 != 0) = b1
  generalize (plane_Hull_6 x0 x1 x2 x3 x4 x5 x6 x7 x8 x9 == ref07_Valid_0 x0 x1 x2 x3 x4 x5 x6 x7 x8 x9) = b2
  generalize (ref07_Hull_ok x0 x1 x2 x3 x4 x5 x6 x7 x8 x9) = b3
  generalize (!ref07_Hull_6 x0 x1 x2 x3 x4 x5 x6 x7 x8 x9) = b4
  generalize (plane_Hull_6 x0 x1 x2 x3 x4 x5 x6 x7 x8 x9 == 9) = b5
  generalize (plane_Hull_6 x0 x1 x2 x3 x4 x5 x6 x7 x8 x9 == 0) = b6
  cases b0 with
  | true =>
   cases b1 with
   | true =>
    cases b2 with
    | true =>
     first | (simp only [if_true, Bool.false_eq_true, if_false]; done) | rfl
    | false =>
     first | (simp only [if_true, Bool.false_eq_true, if_false]; done) | rfl
   | false =>
    cases b3 with
    | true =>
     cases b4 with
     | true =>
      cases b5 with
      | true =>
       first | (simp only [if_true, Bool.false_eq_true, if_false]; done) | rfl
      | false =>
       first | (simp only [if_true, Bool.false_eq_true, if_false]; done) | rfl
     | false =>
      cases b6 with
      | true =>
       first | (simp only [if_true, Bool.false_eq_true, if_false]; done) | rfl
      | false =>
       first | (simp only [if_true, Bool.false_eq_true, if_false]; done) | rfl
    | false =>
     first | (simp only [if_true, Bool.false_eq_true, if_false]; done) | rfl
  | false =>
   first | (simp only [if_true, Bool.false_eq_true, if_false]; done) | rfl
theorem tab32_ok : TabOk Try.prog tab32 := tab_cond mixed tab31_ok (by decide) fun args b v h hb => by
  unfold ans6 at h
  split at h
  · rename_i c0 c1 h0
    split at h
    · rename_i x0 x1 x2 x3 x4 x5 x6 x7 x8 x9 k1 k2
      injection h with h; injection h with h1 h2; subst h1 h2
      obtain rfl : c0 = #[.int .i64 x0, .int .i64 x1, .int .i64 x2, .int .i64 x3] := by rw [← Array.toArray_toList (xs := c0), k1]
      obtain rfl : c1 = #[.int .i64 x4, .int .i64 x5, .int .i64 x6, .int .i64 x7, .int .i64 x8, .int .i64 x9] := by rw [← Array.toArray_toList (xs := c1), k2]
      obtain rfl : args = #[.agg #[.int .i64 x0, .int .i64 x1, .int .i64 x2, .int .i64 x3], .agg #[.int .i64 x4, .int .i64 x5, .int .i64 x6, .int .i64 x7, .int .i64 x8, .int .i64 x9]] := by rw [← Array.toArray_toList (xs := args), h0]
      exact ⟨rfl, rfl, ⟨[(22, 0), (25, 0), (38, 0), (40, 0), (47, 0)], [], []⟩, 300, by rw [tree6_eq, tree6_res, if_pos hb]⟩
    · cases h
  · cases h
end Go.Proofs.Ytkllldhkikmbbaa.Vx
