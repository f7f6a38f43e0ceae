/- The reference of layer 1: Sub, Intersect and Hull. -/
import Derived.Test.YtiebchfdbejfbaaLists
namespace Go.Proofs.Ytiebchfdbejfbaa
open Go.RowKit

theorem ref_sub_any (lo hi lo' hi' : Int) (w : World) :
    Calls Try.prog 24 #[.agg #[.int .i64 lo, .int .i64 hi], .agg #[.int .i64 lo', .int .i64 hi']] w fun e w' => e = .returned (subV lo hi lo' hi') ∧ Below w.heap.size w w' := by
  by_cases hz : errAll [(lo, hi), (lo', hi')] = 0
  · have h1 := outB_false (errAll_zero hz (lo, hi) (by simp)).1
    have h2 := outB_false (errAll_zero hz (lo', hi') (by simp)).1
    dsimp only at h1 h2
    obtain ⟨a1, a2, a3, a4⟩ := h1
    obtain ⟨b1, b2, b3, b4⟩ := h2
    obtain ⟨a, b, e0, he⟩ := resV_form (lo - hi') (hi - lo')
    have et : subV lo hi lo' hi' = pairV a b e0 := by unfold subV; rw [if_pos hz, he]
    rw [et]
    have Hz := Lib.hid hz
    have He := Lib.hid he
    clear hz et he
    go_enter Try.func24, Try.ntmps24
    go_wp2_with fail
    refine (all_any _ _ _ [(lo, hi), (lo', hi')] _ (two_new _ _ _ _ _ _ (by simp) (by simp)) (by omega)).mono ?_
    rw [Hz.out]
    rintro e w1 ⟨rfl, hb⟩
    have hr := ((IvBox.new' _ 0 0 (g := w.heap.size + 1 + 1) (by simp)).alloc _).kept hb
    have ha := ((((IvBox.new' w lo hi rfl).alloc _).alloc _).alloc _).kept hb
    have hb' := ((((IvBox.new' _ lo' hi' (g := w.heap.size + 1) (by simp)).alloc _).alloc _)).kept hb
    obtain ⟨r0, r1, rf0, rf1⟩ := hr.facts
    obtain ⟨s0, s1, _, _⟩ := ha.facts
    obtain ⟨t0, t1, _, _⟩ := hb'.facts
    have hz := hb.size
    simp at hz
    go_wp2_with fail
    refine (result_any _ _ _).mono ?_
    rw [He.out]
    rintro e w2 ⟨rfl, hb2⟩
    obtain ⟨q0, q1, qf0, qf1⟩ := (hr.kept hb2).facts
    go_wp2
    exact bodyPost_ret (v := pairV a b e0) (by simp [results, Try.results24, go_sem, q0, q1]) rfl ⟨rfl, by (repeat (first | exact Below.refl _ _ | (refine Below.setCell ?_ (by first | omega | (simp; done) | (simp; omega)) _) | (refine Below.alloc ?_ (by first | omega | (simp; done) | (simp; omega)) _) | (refine Below.trans ?_ (Below.mono hb (by first | omega | (simp; done) | (simp; omega)))) | (refine Below.trans ?_ (Below.mono hb2 (by first | omega | (simp; done) | (simp; omega))))))⟩
  · have e0 : subV lo hi lo' hi' = pairV 0 0 (errAll [(lo, hi), (lo', hi')]) := by simp [subV, hz]
    rw [e0]; clear e0
    have hne : (errAll [(lo, hi), (lo', hi')] != 0) = true := by simp [hz]
    clear hz
    obtain ⟨ee, he⟩ : ∃ ee, ee = errAll [(lo, hi), (lo', hi')] := ⟨_, rfl⟩
    rw [← he] at hne ⊢
    have He := Lib.hid he
    clear he
    go_enter Try.func24, Try.ntmps24
    go_wp2_with fail
    refine (all_any _ _ _ [(lo, hi), (lo', hi')] _ (two_new _ _ _ _ _ _ (by simp) (by simp)) (by omega)).mono ?_
    rw [← He.out]
    rintro e w1 ⟨rfl, hb⟩
    have hr := ((IvBox.new' _ 0 0 (g := w.heap.size + 1 + 1) (by simp)).alloc _).kept hb
    obtain ⟨r0, r1, rf0, rf1⟩ := hr.facts
    go_wp2
    exact bodyPost_ret (v := pairV 0 0 ee) (by simp [results, Try.results24, go_sem, r0, r1]) rfl ⟨rfl, by (repeat (first | exact Below.refl _ _ | (refine Below.setCell ?_ (by first | omega | (simp; done) | (simp; omega)) _) | (refine Below.alloc ?_ (by first | omega | (simp; done) | (simp; omega)) _) | (refine Below.trans ?_ (Below.mono hb (by first | omega | (simp; done) | (simp; omega))))))⟩

set_option maxHeartbeats 800000 in
theorem ref_meet_no (lo hi lo' hi' p q : Int) (w : World) (hp : p = lo ∧ lo' ≤ lo ∨ p = lo' ∧ lo < lo') (hq : q = hi' ∧ hi' < hi ∨ q = hi ∧ hi ≤ hi') (hl : q < p) (He : Hid (errAll [(lo, hi), (lo', hi')] = 0)) :
    Calls Try.prog 25 #[.agg #[.int .i64 lo, .int .i64 hi], .agg #[.int .i64 lo', .int .i64 hi']] w fun e w' => e = .returned (pairV 0 0 9) ∧ Below w.heap.size w w' := by
  rcases hp with ⟨rfl, hp1⟩ | ⟨rfl, hp1⟩ <;> rcases hq with ⟨rfl, hq1⟩ | ⟨rfl, hq1⟩
  all_goals
    go_enter Try.func25, Try.ntmps25
    go_wp2_with fail
    refine (all_any _ _ _ [(_, _), (_, _)] _ (two_new _ _ _ _ _ _ (by simp) (by simp)) (by omega)).mono ?_
    rw [He.out]
    rintro e w1 ⟨rfl, hb⟩
    have hr := ((IvBox.new' _ 0 0 (g := w.heap.size + 1 + 1) (by simp)).alloc _).kept hb
    have ha := ((((IvBox.new' w _ _ rfl).alloc _).alloc _).alloc _).kept hb
    have hb' := ((((IvBox.new' _ _ _ (g := w.heap.size + 1) (by simp)).alloc _).alloc _)).kept hb
    obtain ⟨r0, r1, rf0, rf1⟩ := hr.facts
    obtain ⟨s0, s1, _, _⟩ := ha.facts
    obtain ⟨t0, t1, _, _⟩ := hb'.facts
    have hz := hb.size
    simp at hz
    have hz3 : w.heap.size + 1 + 1 < w1.heap.size := by omega
    obtain ⟨y0, y1, y2, y3⟩ := (hr.alloc (.cells #[.int .i64 p, .int .i64 q] 23)).facts
    go_wp2
    obtain ⟨z0, z1, _, _⟩ := ((hr.set 0 0).alloc (.cells #[.int .i64 p, .int .i64 q] 23)).facts
    exact bodyPost_ret (v := pairV 0 0 9) (by simp [results, Try.results25, go_sem, z0, z1]) rfl ⟨rfl, by (repeat (first | exact Below.refl _ _ | (refine Below.setCell ?_ (by first | omega | (simp; done) | (simp; omega)) _) | (refine Below.alloc ?_ (by first | omega | (simp; done) | (simp; omega)) _) | (refine Below.trans ?_ (Below.mono hb (by first | omega | (simp; done) | (simp; omega))))))⟩

set_option maxHeartbeats 800000 in
theorem ref_meet_yes (lo hi lo' hi' p q : Int) (w : World) (hp : p = lo ∧ lo' ≤ lo ∨ p = lo' ∧ lo < lo') (hq : q = hi' ∧ hi' < hi ∨ q = hi ∧ hi ≤ hi') (hl : p ≤ q) (He : Hid (errAll [(lo, hi), (lo', hi')] = 0)) :
    Calls Try.prog 25 #[.agg #[.int .i64 lo, .int .i64 hi], .agg #[.int .i64 lo', .int .i64 hi']] w fun e w' => e = .returned (pairV p q 0) ∧ Below w.heap.size w w' := by
  rcases hp with ⟨rfl, hp1⟩ | ⟨rfl, hp1⟩ <;> rcases hq with ⟨rfl, hq1⟩ | ⟨rfl, hq1⟩
  all_goals
    go_enter Try.func25, Try.ntmps25
    go_wp2_with fail
    refine (all_any _ _ _ [(_, _), (_, _)] _ (two_new _ _ _ _ _ _ (by simp) (by simp)) (by omega)).mono ?_
    rw [He.out]
    rintro e w1 ⟨rfl, hb⟩
    have hr := ((IvBox.new' _ 0 0 (g := w.heap.size + 1 + 1) (by simp)).alloc _).kept hb
    have ha := ((((IvBox.new' w _ _ rfl).alloc _).alloc _).alloc _).kept hb
    have hb' := ((((IvBox.new' _ _ _ (g := w.heap.size + 1) (by simp)).alloc _).alloc _)).kept hb
    obtain ⟨r0, r1, rf0, rf1⟩ := hr.facts
    obtain ⟨s0, s1, _, _⟩ := ha.facts
    obtain ⟨t0, t1, _, _⟩ := hb'.facts
    have hz := hb.size
    simp at hz
    have hz3 : w.heap.size + 1 + 1 < w1.heap.size := by omega
    obtain ⟨y0, y1, y2, y3⟩ := (hr.alloc (.cells #[.int .i64 p, .int .i64 q] 23)).facts
    go_wp2
    obtain ⟨z0, z1, _, _⟩ := ((hr.set p q).alloc (.cells #[.int .i64 p, .int .i64 q] 23)).facts
    exact bodyPost_ret (v := pairV p q 0) (by simp [results, Try.results25, go_sem, z0, z1]) rfl ⟨rfl, by (repeat (first | exact Below.refl _ _ | (refine Below.setCell ?_ (by first | omega | (simp; done) | (simp; omega)) _) | (refine Below.alloc ?_ (by first | omega | (simp; done) | (simp; omega)) _) | (refine Below.trans ?_ (Below.mono hb (by first | omega | (simp; done) | (simp; omega))))))⟩

theorem ref_meet_any (lo hi lo' hi' : Int) (w : World) :
    Calls Try.prog 25 #[.agg #[.int .i64 lo, .int .i64 hi], .agg #[.int .i64 lo', .int .i64 hi']] w fun e w' => e = .returned (meetV lo hi lo' hi') ∧ Below w.heap.size w w' := by
  have key : ∀ ee, errAll [(lo, hi), (lo', hi')] = ee → ∀ V, V = meetV lo hi lo' hi' → (ee ≠ 0 ∧ V = pairV 0 0 ee ∨
      ∃ p q, (p = lo ∧ lo' ≤ lo ∨ p = lo' ∧ lo < lo') ∧ (q = hi' ∧ hi' < hi ∨ q = hi ∧ hi ≤ hi') ∧ (ee = 0 ∧ q < p ∧ V = pairV 0 0 9 ∨ ee = 0 ∧ p ≤ q ∧ V = pairV p q 0)) := by
    rintro ee rfl V rfl
    by_cases hz : errAll [(lo, hi), (lo', hi')] = 0
    · refine .inr ⟨max lo lo', min hi hi', by omega, by omega, ?_⟩
      by_cases hl : min hi hi' < max lo lo'
      · exact .inl ⟨hz, hl, by unfold meetV; rw [if_pos hz, if_pos hl]⟩
      · exact .inr ⟨hz, by omega, by unfold meetV; rw [if_pos hz, if_neg hl]⟩
    · exact .inl ⟨hz, by simp [meetV, hz]⟩
  obtain ⟨ee, he⟩ : ∃ ee, errAll [(lo, hi), (lo', hi')] = ee := ⟨_, rfl⟩
  have hcases := key ee he _ rfl
  have He := Lib.hid he
  clear he key
  rcases hcases with ⟨hz, hV⟩ | ⟨p, q, hp, hq, hcs⟩
  · rw [hV]
    have hne : (ee != 0) = true := by simp [hz]
    clear hz hV
    go_enter Try.func25, Try.ntmps25
    go_wp2_with fail
    refine (all_any _ _ _ [(lo, hi), (lo', hi')] _ (two_new _ _ _ _ _ _ (by simp) (by simp)) (by omega)).mono ?_
    rw [He.out]
    rintro e w1 ⟨rfl, hb⟩
    have hr := ((IvBox.new' _ 0 0 (g := w.heap.size + 1 + 1) (by simp)).alloc _).kept hb
    obtain ⟨r0, r1, rf0, rf1⟩ := hr.facts
    go_wp2
    exact bodyPost_ret (v := pairV 0 0 ee) (by simp [results, Try.results25, go_sem, r0, r1]) rfl ⟨rfl, by (repeat (first | exact Below.refl _ _ | (refine Below.setCell ?_ (by first | omega | (simp; done) | (simp; omega)) _) | (refine Below.alloc ?_ (by first | omega | (simp; done) | (simp; omega)) _) | (refine Below.trans ?_ (Below.mono hb (by first | omega | (simp; done) | (simp; omega))))))⟩
  · rcases hcs with ⟨rfl, hl, hV⟩ | ⟨rfl, hl, hV⟩
    · rw [hV]; exact ref_meet_no _ _ _ _ _ _ _ hp hq hl He
    · rw [hV]; exact ref_meet_yes _ _ _ _ _ _ _ hp hq hl He

theorem ref_join_at (lo hi lo' hi' p q : Int) (w : World) (hp : p = lo' ∧ lo' < lo ∨ p = lo ∧ lo ≤ lo') (hq : q = hi' ∧ hi < hi' ∨ q = hi ∧ hi' ≤ hi) (He : Hid (errAll [(lo, hi), (lo', hi')] = 0)) :
    Calls Try.prog 26 #[.agg #[.int .i64 lo, .int .i64 hi], .agg #[.int .i64 lo', .int .i64 hi']] w fun e w' => e = .returned (pairV p q 0) ∧ Below w.heap.size w w' := by
  rcases hp with ⟨rfl, hp1⟩ | ⟨rfl, hp1⟩ <;> rcases hq with ⟨rfl, hq1⟩ | ⟨rfl, hq1⟩
  all_goals
    go_enter Try.func26, Try.ntmps26
    go_wp2_with fail
    refine (all_any _ _ _ [(_, _), (_, _)] _ (two_new _ _ _ _ _ _ (by simp) (by simp)) (by omega)).mono ?_
    rw [He.out]
    rintro e w1 ⟨rfl, hb⟩
    have hr := ((IvBox.new' _ 0 0 (g := w.heap.size + 1 + 1) (by simp)).alloc _).kept hb
    have ha := ((((IvBox.new' w _ _ rfl).alloc _).alloc _).alloc _).kept hb
    have hb' := ((((IvBox.new' _ _ _ (g := w.heap.size + 1) (by simp)).alloc _).alloc _)).kept hb
    obtain ⟨r0, r1, rf0, rf1⟩ := hr.facts
    obtain ⟨s0, s1, _, _⟩ := ha.facts
    obtain ⟨t0, t1, _, _⟩ := hb'.facts
    have hz := hb.size
    simp at hz
    go_wp2
    exact bodyPost_ret (v := pairV p q 0) (by simp [results, Try.results26, go_sem, r0, r1]) rfl ⟨rfl, by (repeat (first | exact Below.refl _ _ | (refine Below.setCell ?_ (by first | omega | (simp; done) | (simp; omega)) _) | (refine Below.alloc ?_ (by first | omega | (simp; done) | (simp; omega)) _) | (refine Below.trans ?_ (Below.mono hb (by first | omega | (simp; done) | (simp; omega))))))⟩

theorem ref_join_any (lo hi lo' hi' : Int) (w : World) :
    Calls Try.prog 26 #[.agg #[.int .i64 lo, .int .i64 hi], .agg #[.int .i64 lo', .int .i64 hi']] w fun e w' => e = .returned (joinV lo hi lo' hi') ∧ Below w.heap.size w w' := by
  obtain ⟨ee, he⟩ : ∃ ee, errAll [(lo, hi), (lo', hi')] = ee := ⟨_, rfl⟩
  by_cases hz : ee = 0
  · subst hz
    have e1 : joinV lo hi lo' hi' = pairV (min lo lo') (max hi hi') 0 := by unfold joinV; rw [if_pos he]
    rw [e1]
    exact ref_join_at _ _ _ _ _ _ _ (by omega) (by omega) he
  · have hV : joinV lo hi lo' hi' = pairV 0 0 ee := by unfold joinV; rw [if_neg (by omega), he]
    rw [hV]
    have He := Lib.hid he
    have hne : (ee != 0) = true := by simp [hz]
    clear hz hV he
    go_enter Try.func26, Try.ntmps26
    go_wp2_with fail
    refine (all_any _ _ _ [(lo, hi), (lo', hi')] _ (two_new _ _ _ _ _ _ (by simp) (by simp)) (by omega)).mono ?_
    rw [He.out]
    rintro e w1 ⟨rfl, hb⟩
    have hr := ((IvBox.new' _ 0 0 (g := w.heap.size + 1 + 1) (by simp)).alloc _).kept hb
    obtain ⟨r0, r1, rf0, rf1⟩ := hr.facts
    go_wp2
    exact bodyPost_ret (v := pairV 0 0 ee) (by simp [results, Try.results26, go_sem, r0, r1]) rfl ⟨rfl, by (repeat (first | exact Below.refl _ _ | (refine Below.setCell ?_ (by first | omega | (simp; done) | (simp; omega)) _) | (refine Below.alloc ?_ (by first | omega | (simp; done) | (simp; omega)) _) | (refine Below.trans ?_ (Below.mono hb (by first | omega | (simp; done) | (simp; omega))))))⟩
end Go.Proofs.Ytiebchfdbejfbaa
