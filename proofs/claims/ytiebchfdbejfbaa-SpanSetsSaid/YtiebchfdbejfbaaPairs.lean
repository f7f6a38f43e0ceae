/- Add, Sub, Sum, Intersect and Hull of package span. -/
import Derived.Test.YtiebchfdbejfbaaTotal
namespace Go.Proofs.Ytiebchfdbejfbaa
open Go.RowKit

/-- A pair of an interval and an error. -/
abbrev pairV (a b e : Int) : Value := .tuple #[.agg #[.int .i64 a, .int .i64 b], .int .i64 e]
theorem resV_form (lo hi : Int) : ∃ a b e : Int, resV lo hi = pairV a b e := by
  unfold resV
  split
  · exact ⟨_, _, _, rfl⟩
  · exact ⟨_, _, _, rfl⟩
theorem totV_form (xs : List (Int × Int)) : ∃ a b e : Int, totV xs = pairV a b e := by
  unfold totV
  split
  · exact resV_form _ _
  · exact ⟨_, _, _, rfl⟩

theorem add_any (lo hi lo' hi' : Int) (w : World) :
    Calls Try.prog 19 #[.agg #[.int .i64 lo, .int .i64 hi], .agg #[.int .i64 lo', .int .i64 hi']] w fun e w' => e = .returned (totV [(lo, hi), (lo', hi')]) ∧ Below w.heap.size w w' := by
  obtain ⟨a, b, e0, he⟩ := totV_form [(lo, hi), (lo', hi')]
  rw [he]
  have He := Lib.hid he
  clear he
  go_enter Try.func19, Try.ntmps19
  go_wp2_with fail
  refine (total_any _ _ _ [(lo, hi), (lo', hi')] _ (two_new _ _ _ _ _ _ (by simp) (by simp)) (by omega)).mono ?_
  rw [He.out]
  rintro e w1 ⟨rfl, hb⟩
  obtain ⟨hc, hf⟩ := old_cells hb
  go_wp2
  exact bodyPost_ret (v := pairV a b e0) (by simp [results, Try.results19, go_sem, hc]) rfl ⟨rfl, by (repeat (first | exact Below.refl _ _ | (refine Below.setCell ?_ (by first | omega | (simp; done) | (simp; omega)) _) | (refine Below.alloc ?_ (by first | omega | (simp; done) | (simp; omega)) _) | (refine Below.trans ?_ (Below.mono hb (by first | omega | (simp; done) | (simp; omega))))))⟩

/-- What Sub returns. -/
def subV (lo hi lo' hi' : Int) : Value := if errAll [(lo, hi), (lo', hi')] = 0 then resV (lo - hi') (hi - lo') else pairV 0 0 (errAll [(lo, hi), (lo', hi')])
theorem subV_form (lo hi lo' hi' : Int) : ∃ a b e : Int, subV lo hi lo' hi' = pairV a b e := by
  unfold subV
  split
  · exact resV_form _ _
  · exact ⟨_, _, _, rfl⟩

theorem sub_any (lo hi lo' hi' : Int) (w : World) :
    Calls Try.prog 20 #[.agg #[.int .i64 lo, .int .i64 hi], .agg #[.int .i64 lo', .int .i64 hi']] w fun e w' => e = .returned (subV lo hi lo' hi') ∧ Below w.heap.size w w' := by
  by_cases hz : errAll [(lo, hi), (lo', hi')] = 0
  · have h1 := outB_false (errAll_zero hz (lo, hi) (by simp)).1
    have h2 := outB_false (errAll_zero hz (lo', hi') (by simp)).1
    have h3 := (errAll_zero hz (lo, hi) (by simp)).2
    have h4 := (errAll_zero hz (lo', hi') (by simp)).2
    dsimp only at h1 h2 h3 h4
    obtain ⟨a1, a2, a3, a4⟩ := h1
    obtain ⟨b1, b2, b3, b4⟩ := h2
    have o1 : outB lo hi = false := (errAll_zero hz (lo, hi) (by simp)).1
    have o2 : outB (-hi') (-lo') = false := by simp [outB]; omega
    have z2 : errAll [(lo, hi), (-hi', -lo')] = 0 := by simp [errAll, o1, o2]; omega
    have et : totV [(lo, hi), (-hi', -lo')] = subV lo hi lo' hi' := by
      simp only [totV, subV, z2, hz, if_true]
      congr 1 <;> simp [sumLo, sumHi] <;> omega
    obtain ⟨a, b, e0, he⟩ := subV_form lo hi lo' hi'
    rw [he] at et ⊢
    have Hz := Lib.hid hz
    have Et := Lib.hid et
    clear hz et he o1 o2 z2
    go_enter Try.func20, Try.ntmps20
    go_wp2_with fail
    refine (checkAll_any _ _ _ [(lo, hi), (lo', hi')] _ (two_new _ _ _ _ _ _ (by simp) (by simp)) (by omega)).mono ?_
    rw [Hz.out]
    rintro e w1 ⟨rfl, hb⟩
    have hr := ((IvBox.new' _ 0 0 (g := w.heap.size + 1 + 1) (by simp)).alloc _).kept hb
    have ha := ((((IvBox.new' w lo hi rfl).alloc _).alloc _).alloc _).kept hb
    have hb' := ((((IvBox.new' _ lo' hi' (g := w.heap.size + 1) (by simp)).alloc _).alloc _)).kept hb
    obtain ⟨r0, r1, rf0, rf1⟩ := hr.facts
    obtain ⟨s0, s1, _, _⟩ := ha.facts
    obtain ⟨t0, t1, _, _⟩ := hb'.facts
    have hz := hb.size
    simp at hz
    go_wp2_with fail
    refine (total_any _ _ _ [(lo, hi), (-hi', -lo')] _ (two_new _ _ _ _ _ _ (by simp) (by simp)) (by omega)).mono ?_
    rw [Et.out]
    rintro e w2 ⟨rfl, hb2⟩
    obtain ⟨q0, q1, qf0, qf1⟩ := ((hr.alloc _).kept hb2).facts
    go_wp2
    exact bodyPost_ret (v := pairV a b e0) (by simp [results, Try.results20, go_sem, q0, q1]) rfl ⟨rfl, by (repeat (first | exact Below.refl _ _ | (refine Below.setCell ?_ (by first | omega | (simp; done) | (simp; omega)) _) | (refine Below.alloc ?_ (by first | omega | (simp; done) | (simp; omega)) _) | (refine Below.trans ?_ (Below.mono hb (by first | omega | (simp; done) | (simp; omega)))) | (refine Below.trans ?_ (Below.mono hb2 (by first | omega | (simp; done) | (simp; omega))))))⟩
  · have e0 : subV lo hi lo' hi' = pairV 0 0 (errAll [(lo, hi), (lo', hi')]) := by simp [subV, hz]
    rw [e0]; clear e0
    have hne : (errAll [(lo, hi), (lo', hi')] != 0) = true := by simp [hz]
    clear hz
    obtain ⟨ee, he⟩ : ∃ ee, ee = errAll [(lo, hi), (lo', hi')] := ⟨_, rfl⟩
    rw [← he] at hne ⊢
    have He := Lib.hid he
    clear he
    go_enter Try.func20, Try.ntmps20
    go_wp2_with fail
    refine (checkAll_any _ _ _ [(lo, hi), (lo', hi')] _ (two_new _ _ _ _ _ _ (by simp) (by simp)) (by omega)).mono ?_
    rw [← He.out]
    rintro e w1 ⟨rfl, hb⟩
    have hr := ((IvBox.new' _ 0 0 (g := w.heap.size + 1 + 1) (by simp)).alloc _).kept hb
    obtain ⟨r0, r1, rf0, rf1⟩ := hr.facts
    go_wp2
    exact bodyPost_ret (v := pairV 0 0 ee) (by simp [results, Try.results20, go_sem, r0, r1]) rfl ⟨rfl, by (repeat (first | exact Below.refl _ _ | (refine Below.setCell ?_ (by first | omega | (simp; done) | (simp; omega)) _) | (refine Below.alloc ?_ (by first | omega | (simp; done) | (simp; omega)) _) | (refine Below.trans ?_ (Below.mono hb (by first | omega | (simp; done) | (simp; omega))))))⟩

end Go.Proofs.Ytiebchfdbejfbaa
