/- The leaf functions of package span and of its reference: what each call returns, in whatever memory it is called. -/
import Derived.Test.YtiebchfdbejfbaaChecked
import Derived.WalkKit
import Derived.WalkLawsBesides
import Derived.WalkSpells
import Derived.Outline
import Derived.Lib.Hide
import Derived.Laws.StructEq
namespace Go.Proofs.Ytiebchfdbejfbaa
open Go.RowKit

theorem ret_bool {a b : Bool} (h : a = b) : Ending.returned (.bool a) = .returned (.bool b) := by rw [h]
theorem ret_int {k : IntKind} {a b : Int} (h : a = b) : Ending.returned (.int k a) = .returned (.int k b) := by rw [h]

/-- What a call has left of the memory that it found: every old cell and every old mark reads as before. -/
theorem old_cells {W w1 : World} (hb : Below W.heap.size W w1) : (∀ b o, b < W.heap.size → w1.cell? ⟨b, o, none⟩ = W.cell? ⟨b, o, none⟩) ∧ (∀ b o, b < W.heap.size → w1.frozen? ⟨b, o, none⟩ = W.frozen? ⟨b, o, none⟩) :=
  ⟨fun b o h => hb.cell (p := ⟨b, o, none⟩) h, fun b o h => hb.frozen (p := ⟨b, o, none⟩) h⟩

/-- An end of an interval is out of range. -/
def outB (lo hi : Int) : Bool := decide (lo < -1000000000000 ∨ 1000000000000 < lo ∨ hi < -1000000000000 ∨ 1000000000000 < hi)
/-- The error of an interval. -/
def errOf (lo hi : Int) : Int := if outB lo hi = true then 6 else if hi < lo then 1 else 0
theorem errOf_out {lo hi : Int} (h : outB lo hi = true) : errOf lo hi = 6 := by simp [errOf, h]
theorem errOf_inv {lo hi : Int} (h : outB lo hi = false) (h2 : hi < lo) : errOf lo hi = 1 := by simp [errOf, h, h2]
theorem errOf_ok {lo hi : Int} (h : outB lo hi = false) (h2 : lo ≤ hi) : errOf lo hi = 0 := by
  unfold errOf; rw [if_neg (by simp [h]), if_neg (by omega)]
theorem errOf_cases (lo hi : Int) : (outB lo hi = true ∧ errOf lo hi = 6) ∨ (outB lo hi = false ∧ hi < lo ∧ errOf lo hi = 1) ∨ (outB lo hi = false ∧ lo ≤ hi ∧ errOf lo hi = 0) := by
  cases h : outB lo hi
  · by_cases h2 : hi < lo
    · exact .inr (.inl ⟨rfl, h2, errOf_inv h h2⟩)
    · exact .inr (.inr ⟨rfl, by omega, errOf_ok h (by omega)⟩)
  · exact .inl ⟨rfl, errOf_out h⟩
theorem outB_false {lo hi : Int} (h : outB lo hi = false) : -1000000000000 ≤ lo ∧ lo ≤ 1000000000000 ∧ -1000000000000 ≤ hi ∧ hi ≤ 1000000000000 := by
  simp [outB] at h; omega
/-- How many numbers an interval has. -/
def lenOf (lo hi : Int) : Int := if errOf lo hi = 0 then hi - lo + 1 else 0

theorem inRange_any (lo hi : Int) (w : World) :
    Calls Try.prog 40 #[.agg #[.int .i64 lo, .int .i64 hi]] w fun e w' => e = .returned (.bool (!outB lo hi)) ∧ Below w.heap.size w w' := by
  go_enter Try.func40, Try.ntmps40
  go_wp2
  all_goals (go_ret; refine ⟨ret_bool ?_, (Below.refl _ _).alloc (Nat.le_refl _) _⟩; first | (simp [outB]; done) | (rw [Bool.eq_iff_iff]; simp [outB]; omega))

theorem outside_any (lo hi : Int) (w : World) :
    Calls Try.prog 52 #[.agg #[.int .i64 lo, .int .i64 hi]] w fun e w' => e = .returned (.bool (outB lo hi)) ∧ Below w.heap.size w w' := by
  go_enter Try.func52, Try.ntmps52
  go_wp2
  all_goals (go_ret; refine ⟨ret_bool ?_, (Below.refl _ _).alloc (Nat.le_refl _) _⟩; first | (simp [outB]; done) | (rw [Bool.eq_iff_iff]; simp [outB]; omega))

theorem check_any (lo hi : Int) (w : World) :
    Calls Try.prog 11 #[.agg #[.int .i64 lo, .int .i64 hi]] w fun e w' => e = .returned (.int .i64 (errOf lo hi)) ∧ Below w.heap.size w w' := by
  go_enter Try.func11, Try.ntmps11
  go_wp2_with (go_at_call 40; refine (inRange_any _ _ _).mono ?_; rintro e w' ⟨rfl, hb⟩; obtain ⟨hc, hf⟩ := old_cells hb)
  all_goals (go_ret; refine ⟨ret_int ?_, ((Below.refl _ _).alloc (Nat.le_refl _) _).trans (hb.mono (by simp))⟩; simp [errOf, *])

theorem contains_any (lo hi n : Int) (w : World) :
    Calls Try.prog 13 #[.agg #[.int .i64 lo, .int .i64 hi], .int .i64 n] w fun e w' => e = .returned (.bool (decide (lo ≤ n ∧ n ≤ hi))) ∧ Below w.heap.size w w' := by
  go_enter Try.func13, Try.ntmps13
  go_wp2
  all_goals (go_ret; refine ⟨ret_bool ?_, (Below.refl _ _).alloc (Nat.le_refl _) _⟩; first | (simp; done) | (rw [Bool.eq_iff_iff]; simp; omega))

theorem ref_contains_any (lo hi n : Int) (w : World) :
    Calls Try.prog 14 #[.agg #[.int .i64 lo, .int .i64 hi], .int .i64 n] w fun e w' => e = .returned (.bool (decide (lo ≤ n ∧ n ≤ hi))) ∧ Below w.heap.size w w' := by
  go_enter Try.func14, Try.ntmps14
  go_wp2
  all_goals (go_ret; refine ⟨ret_bool ?_, (Below.refl _ _).alloc (Nat.le_refl _) _⟩; first | (simp; done) | (rw [Bool.eq_iff_iff]; simp; omega))

theorem within_any (lo hi lo' hi' : Int) (w : World) :
    Calls Try.prog 15 #[.agg #[.int .i64 lo, .int .i64 hi], .agg #[.int .i64 lo', .int .i64 hi']] w fun e w' => e = .returned (.bool (decide (hi < lo ∨ lo' ≤ lo ∧ hi ≤ hi'))) ∧ Below w.heap.size w w' := by
  go_enter Try.func15, Try.ntmps15
  go_wp2
  all_goals (go_ret; refine ⟨ret_bool ?_, ((Below.refl _ _).alloc (Nat.le_refl _) _).alloc (by simp) _⟩; first | (simp; done) | (rw [Bool.eq_iff_iff]; simp; omega))

theorem ref_within_any (lo hi lo' hi' : Int) (w : World) :
    Calls Try.prog 16 #[.agg #[.int .i64 lo, .int .i64 hi], .agg #[.int .i64 lo', .int .i64 hi']] w fun e w' => e = .returned (.bool (decide (hi < lo ∨ lo' ≤ lo ∧ hi ≤ hi'))) ∧ Below w.heap.size w w' := by
  go_enter Try.func16, Try.ntmps16
  go_wp2
  all_goals (go_ret; refine ⟨ret_bool ?_, ((Below.refl _ _).alloc (Nat.le_refl _) _).alloc (by simp) _⟩; first | (simp; done) | (rw [Bool.eq_iff_iff]; simp; omega))

theorem overlap_any (lo hi lo' hi' : Int) (w : World) :
    Calls Try.prog 44 #[.agg #[.int .i64 lo, .int .i64 hi], .agg #[.int .i64 lo', .int .i64 hi']] w fun e w' => e = .returned (.agg #[.int .i64 (max lo lo'), .int .i64 (min hi hi')]) ∧ Below w.heap.size w w' := by
  go_enter Try.func44, Try.ntmps44
  go_wp2
  all_goals (refine bodyPost_ret (v := .agg #[.int .i64 (max lo lo'), .int .i64 (min hi hi')]) ?_ rfl ⟨rfl, (((Below.refl _ _).alloc (Nat.le_refl _) _).alloc (by simp) _).alloc (by simp; omega) _⟩)
  all_goals (simp [results, Try.results44, go_sem]; omega)

theorem hull_any (lo hi lo' hi' : Int) (w : World) :
    Calls Try.prog 45 #[.agg #[.int .i64 lo, .int .i64 hi], .agg #[.int .i64 lo', .int .i64 hi']] w fun e w' => e = .returned (.agg #[.int .i64 (min lo lo'), .int .i64 (max hi hi')]) ∧ Below w.heap.size w w' := by
  go_enter Try.func45, Try.ntmps45
  go_wp2
  all_goals (refine bodyPost_ret (v := .agg #[.int .i64 (min lo lo'), .int .i64 (max hi hi')]) ?_ rfl ⟨rfl, (((Below.refl _ _).alloc (Nat.le_refl _) _).alloc (by simp) _).alloc (by simp; omega) _⟩)
  all_goals (simp [results, Try.results45, go_sem]; omega)

theorem length_any (lo hi : Int) (w : World) :
    Calls Try.prog 17 #[.agg #[.int .i64 lo, .int .i64 hi]] w fun e w' => e = .returned (.int .i64 (lenOf lo hi)) ∧ Below w.heap.size w w' := by
  by_cases h : errOf lo hi = 0
  · have hd : (errOf lo hi != 0) = false := by simp [h]
    have ho := outB_false (by rcases errOf_cases lo hi with ⟨_, h1⟩ | ⟨_, _, h1⟩ | ⟨h1, _, _⟩ <;> first | omega | exact h1)
    obtain ⟨b1, b2, b3, b4⟩ := ho
    have H := Lib.hid h
    clear h
    go_enter Try.func17, Try.ntmps17
    go_wp2_with (go_at_call 11; refine (check_any _ _ _).mono ?_; rintro e w' ⟨rfl, hb⟩; obtain ⟨hc, hf⟩ := old_cells hb)
    go_ret
    exact ⟨ret_int (by simp [lenOf, H.out]), ((Below.refl _ _).alloc (Nat.le_refl _) _).trans (hb.mono (by simp))⟩
  · have hd : (errOf lo hi != 0) = true := by simp [h]
    have H := Lib.hid h
    clear h
    go_enter Try.func17, Try.ntmps17
    go_wp2_with (go_at_call 11; refine (check_any _ _ _).mono ?_; rintro e w' ⟨rfl, hb⟩; obtain ⟨hc, hf⟩ := old_cells hb)
    go_ret
    exact ⟨ret_int (by simp [lenOf, H.out]), ((Below.refl _ _).alloc (Nat.le_refl _) _).trans (hb.mono (by simp))⟩

/-- An interval, or nothing with the error of a range. -/
def resV (lo hi : Int) : Value := if outB lo hi = true then .tuple #[.agg #[.int .i64 0, .int .i64 0], .int .i64 6] else .tuple #[.agg #[.int .i64 lo, .int .i64 hi], .int .i64 0]

theorem result_any (lo hi : Int) (w : World) :
    Calls Try.prog 46 #[.agg #[.int .i64 lo, .int .i64 hi]] w fun e w' => e = .returned (resV lo hi) ∧ Below w.heap.size w w' := by
  by_cases h : outB lo hi = true
  · have e0 : resV lo hi = .tuple #[.agg #[.int .i64 0, .int .i64 0], .int .i64 6] := by simp [resV, h]
    rw [e0]; clear e0
    go_enter Try.func46, Try.ntmps46
    go_wp2_with (go_at_call 52; refine (outside_any _ _ _).mono ?_; rintro e w' ⟨rfl, hb⟩; obtain ⟨hc, hf⟩ := old_cells hb; have hz := hb.size; simp at hz)
    exact bodyPost_ret (v := .tuple #[.agg #[.int .i64 0, .int .i64 0], .int .i64 6]) (by simp [results, Try.results46, go_sem, hc]) rfl ⟨rfl, (((((Below.refl _ _).alloc (Nat.le_refl _) _).alloc (by simp) _).trans (hb.mono (by simp; omega))).setCell (by simp) _).setCell (by simp) _⟩
  · have e0 : resV lo hi = .tuple #[.agg #[.int .i64 lo, .int .i64 hi], .int .i64 0] := by simp [resV, h]
    rw [e0]; clear e0
    have h : outB lo hi = false := by simpa using h
    go_enter Try.func46, Try.ntmps46
    go_wp2_with (go_at_call 52; refine (outside_any _ _ _).mono ?_; rintro e w' ⟨rfl, hb⟩; obtain ⟨hc, hf⟩ := old_cells hb; have hz := hb.size; simp at hz)
    exact bodyPost_ret (v := .tuple #[.agg #[.int .i64 lo, .int .i64 hi], .int .i64 0]) (by simp [results, Try.results46, go_sem, hc]) rfl ⟨rfl, (((((Below.refl _ _).alloc (Nat.le_refl _) _).alloc (by simp) _).trans (hb.mono (by simp; omega))).setCell (by simp) _).setCell (by simp) _⟩

/-- The order of numbers. -/
def cmpI (a b : Int) : Int := if a < b then -1 else if b < a then 1 else 0

theorem cmp_any (a b : Int) (w : World) : Calls Try.prog 60 #[.int .i64 a, .int .i64 b] w fun e w' => e = .returned (.int .i64 (cmpI a b)) ∧ w = w' := by
  go_enter Try.func60, Try.ntmps60
  go_wp2
  all_goals (go_ret; refine ⟨ret_int ?_, rfl⟩; unfold cmpI; first | (rw [if_pos (by omega)]) | (rw [if_neg (by omega), if_pos (by omega)]) | (rw [if_neg (by omega), if_neg (by omega)]))

/-- The order of intervals: by the lower ends, then by the upper ones. -/
def ordI (x y : Int × Int) : Int := if x.1 = y.1 then cmpI x.2 y.2 else cmpI x.1 y.1

theorem order_any (lo hi lo' hi' : Int) (w : World) :
    Calls Try.prog 55 #[.agg #[.int .i64 lo, .int .i64 hi], .agg #[.int .i64 lo', .int .i64 hi']] w fun e w' => e = .returned (.int .i64 (ordI (lo, hi) (lo', hi'))) ∧ w' = (w.alloc (.cells #[.int .i64 lo, .int .i64 hi] 23)).alloc (.cells #[.int .i64 lo', .int .i64 hi'] 23) := by
  by_cases h1 : lo = lo'
  · subst h1
    by_cases h2 : hi = hi'
    · subst h2
      go_enter Try.func55, Try.ntmps55
      go_wp2
      go_ret
      exact ⟨ret_int (by simp [ordI, cmpI]), rfl⟩
    · go_enter Try.func55, Try.ntmps55
      go_wp2_with (go_at_call 60; refine (cmp_any _ _ _).mono ?_; rintro e w' ⟨rfl, rfl⟩)
      go_ret
      exact ⟨ret_int (by simp [ordI]), rfl⟩
  · have hd : (lo != lo') = true := by simp [h1]
    go_enter Try.func55, Try.ntmps55
    go_wp2_with (go_at_call 60; refine (cmp_any _ _ _).mono ?_; rintro e w' ⟨rfl, rfl⟩)
    all_goals go_ret
    all_goals exact ⟨ret_int (by simp [ordI, h1]), rfl⟩
end Go.Proofs.Ytiebchfdbejfbaa
