/- Intersect, Hull and Sum of package span. -/
import Derived.Test.YtiebchfdbejfbaaPairs
namespace Go.Proofs.Ytiebchfdbejfbaa
open Go.RowKit

/-- What Intersect returns. -/
def meetV (lo hi lo' hi' : Int) : Value := if errAll [(lo, hi), (lo', hi')] = 0 then (if min hi hi' < max lo lo' then pairV 0 0 9 else pairV (max lo lo') (min hi hi') 0) else pairV 0 0 (errAll [(lo, hi), (lo', hi')])
/-- What Hull returns. -/
def joinV (lo hi lo' hi' : Int) : Value := if errAll [(lo, hi), (lo', hi')] = 0 then pairV (min lo lo') (max hi hi') 0 else pairV 0 0 (errAll [(lo, hi), (lo', hi')])
theorem meetV_form (lo hi lo' hi' : Int) : ∃ a b e : Int, meetV lo hi lo' hi' = pairV a b e := by
  unfold meetV
  split
  · split
    · exact ⟨_, _, _, rfl⟩
    · exact ⟨_, _, _, rfl⟩
  · exact ⟨_, _, _, rfl⟩
theorem joinV_form (lo hi lo' hi' : Int) : ∃ a b e : Int, joinV lo hi lo' hi' = pairV a b e := by
  unfold joinV
  split
  · exact ⟨_, _, _, rfl⟩
  · exact ⟨_, _, _, rfl⟩

theorem meet_any (lo hi lo' hi' : Int) (w : World) :
    Calls Try.prog 21 #[.agg #[.int .i64 lo, .int .i64 hi], .agg #[.int .i64 lo', .int .i64 hi']] w fun e w' => e = .returned (meetV lo hi lo' hi') ∧ Below w.heap.size w w' := by
  obtain ⟨p, hp⟩ : ∃ p, p = max lo lo' := ⟨_, rfl⟩
  obtain ⟨q, hq⟩ : ∃ q, q = min hi hi' := ⟨_, rfl⟩
  have hov : ∀ W, Calls Try.prog 44 #[.agg #[.int .i64 lo, .int .i64 hi], .agg #[.int .i64 lo', .int .i64 hi']] W fun e w' => e = .returned (.agg #[.int .i64 p, .int .i64 q]) ∧ Below W.heap.size W w' := fun W => by rw [hp, hq]; exact overlap_any _ _ _ _ W
  have Hov := Lib.hid hov
  clear hov
  have key : ∀ ee, errAll [(lo, hi), (lo', hi')] = ee → ∀ V, V = meetV lo hi lo' hi' → (ee ≠ 0 ∧ V = pairV 0 0 ee ∨ ee = 0 ∧ q < p ∧ V = pairV 0 0 9 ∨ ee = 0 ∧ p ≤ q ∧ V = pairV p q 0) := by
    rintro ee rfl V rfl
    by_cases hz : errAll [(lo, hi), (lo', hi')] = 0
    · by_cases hl : q < p
      · exact .inr (.inl ⟨hz, hl, by unfold meetV; rw [if_pos hz, if_pos (by omega)]⟩)
      · exact .inr (.inr ⟨hz, by omega, by unfold meetV; rw [if_pos hz, if_neg (by omega), hp, hq]⟩)
    · exact .inl ⟨hz, by simp [meetV, hz]⟩
  obtain ⟨ee, he⟩ : ∃ ee, errAll [(lo, hi), (lo', hi')] = ee := ⟨_, rfl⟩
  have hcases := key ee he _ rfl
  have He := Lib.hid he
  clear he key hp hq
  rcases hcases with ⟨hz, hV⟩ | ⟨rfl, hl, hV⟩ | ⟨rfl, hl, hV⟩
  · rw [hV]
    have hne : (ee != 0) = true := by simp [hz]
    clear hz hV
    go_enter Try.func21, Try.ntmps21
    go_wp2_with fail
    refine (checkAll_any _ _ _ [(lo, hi), (lo', hi')] _ (two_new _ _ _ _ _ _ (by simp) (by simp)) (by omega)).mono ?_
    rw [He.out]
    rintro e w1 ⟨rfl, hb⟩
    have hr := ((IvBox.new' _ 0 0 (g := w.heap.size + 1 + 1) (by simp)).alloc _).kept hb
    obtain ⟨r0, r1, rf0, rf1⟩ := hr.facts
    go_wp2
    exact bodyPost_ret (v := pairV 0 0 ee) (by simp [results, Try.results21, go_sem, r0, r1]) rfl ⟨rfl, by (repeat (first | exact Below.refl _ _ | (refine Below.setCell ?_ (by first | omega | (simp; done) | (simp; omega)) _) | (refine Below.alloc ?_ (by first | omega | (simp; done) | (simp; omega)) _) | (refine Below.trans ?_ (Below.mono hb (by first | omega | (simp; done) | (simp; omega))))))⟩
  all_goals
    rw [hV]
    clear hV
    go_enter Try.func21, Try.ntmps21
    go_wp2_with fail
    refine (checkAll_any _ _ _ [(lo, hi), (lo', hi')] _ (two_new _ _ _ _ _ _ (by simp) (by simp)) (by omega)).mono ?_
    rw [He.out]
    rintro e w1 ⟨rfl, hb⟩
    have hr := ((IvBox.new' _ 0 0 (g := w.heap.size + 1 + 1) (by simp)).alloc _).kept hb
    have ha := ((((IvBox.new' w lo hi rfl).alloc _).alloc _).alloc _).kept hb
    have hb' := ((((IvBox.new' _ lo' hi' (g := w.heap.size + 1) (by simp)).alloc _).alloc _)).kept hb
    obtain ⟨r0, r1, rf0, rf1⟩ := hr.facts
    obtain ⟨s0, s1, _, _⟩ := ha.facts
    obtain ⟨t0, t1, _, _⟩ := hb'.facts
    have hz := hb.size
    simp at hz
    go_wp2_with fail
    refine (Hov.out _).mono ?_
    rintro e w2 ⟨rfl, hb2⟩
    obtain ⟨q0, q1, qf0, qf1⟩ := (hr.kept hb2).facts
    have hz2 := hb2.size
    have hz3 : w.heap.size + 1 + 1 < w2.heap.size := by omega
    have hfz : ∀ o, (w2.alloc o).frozen? ⟨w.heap.size + 1 + 1, 0, none⟩ = false ∧ (w2.alloc o).frozen? ⟨w.heap.size + 1 + 1, 1, none⟩ = false := fun o => ⟨((hr.kept hb2).alloc o).facts.2.2.1, ((hr.kept hb2).alloc o).facts.2.2.2⟩
    obtain ⟨qa0, qa1, qaf0, qaf1⟩ := ((hr.kept hb2).alloc (.cells #[.int .i64 p, .int .i64 q] 23)).facts
    clear hfz
    go_wp2
  · obtain ⟨z0, z1, _, _⟩ := (((hr.kept hb2).set 0 0).alloc (.cells #[.int .i64 p, .int .i64 q] 23)).facts
    exact bodyPost_ret (v := pairV 0 0 9) (by simp [results, Try.results21, go_sem, z0, z1]) rfl ⟨rfl, by (repeat (first | exact Below.refl _ _ | (refine Below.setCell ?_ (by first | omega | (simp; done) | (simp; omega)) _) | (refine Below.alloc ?_ (by first | omega | (simp; done) | (simp; omega)) _) | (refine Below.trans ?_ (Below.mono hb (by first | omega | (simp; done) | (simp; omega)))) | (refine Below.trans ?_ (Below.mono hb2 (by first | omega | (simp; done) | (simp; omega))))))⟩
  · obtain ⟨z0, z1, _, _⟩ := (((hr.kept hb2).set p q).alloc (.cells #[.int .i64 p, .int .i64 q] 23)).facts
    exact bodyPost_ret (v := pairV p q 0) (by simp [results, Try.results21, go_sem, z0, z1]) rfl ⟨rfl, by (repeat (first | exact Below.refl _ _ | (refine Below.setCell ?_ (by first | omega | (simp; done) | (simp; omega)) _) | (refine Below.alloc ?_ (by first | omega | (simp; done) | (simp; omega)) _) | (refine Below.trans ?_ (Below.mono hb (by first | omega | (simp; done) | (simp; omega)))) | (refine Below.trans ?_ (Below.mono hb2 (by first | omega | (simp; done) | (simp; omega))))))⟩

theorem join_any (lo hi lo' hi' : Int) (w : World) :
    Calls Try.prog 22 #[.agg #[.int .i64 lo, .int .i64 hi], .agg #[.int .i64 lo', .int .i64 hi']] w fun e w' => e = .returned (joinV lo hi lo' hi') ∧ Below w.heap.size w w' := by
  obtain ⟨p, hp⟩ : ∃ p, p = min lo lo' := ⟨_, rfl⟩
  obtain ⟨q, hq⟩ : ∃ q, q = max hi hi' := ⟨_, rfl⟩
  have hov : ∀ W, Calls Try.prog 45 #[.agg #[.int .i64 lo, .int .i64 hi], .agg #[.int .i64 lo', .int .i64 hi']] W fun e w' => e = .returned (.agg #[.int .i64 p, .int .i64 q]) ∧ Below W.heap.size W w' := fun W => by rw [hp, hq]; exact hull_any _ _ _ _ W
  have Hov := Lib.hid hov
  clear hov
  have key : ∀ ee, errAll [(lo, hi), (lo', hi')] = ee → ∀ V, V = joinV lo hi lo' hi' → (ee ≠ 0 ∧ V = pairV 0 0 ee ∨ ee = 0 ∧ V = pairV p q 0) := by
    rintro ee rfl V rfl
    by_cases hz : errAll [(lo, hi), (lo', hi')] = 0
    · exact .inr ⟨hz, by unfold joinV; rw [if_pos hz, hp, hq]⟩
    · exact .inl ⟨hz, by simp [joinV, hz]⟩
  obtain ⟨ee, he⟩ : ∃ ee, errAll [(lo, hi), (lo', hi')] = ee := ⟨_, rfl⟩
  have hcases := key ee he _ rfl
  have He := Lib.hid he
  clear he key hp hq
  rcases hcases with ⟨hz, hV⟩ | ⟨rfl, hV⟩
  · rw [hV]
    have hne : (ee != 0) = true := by simp [hz]
    clear hz hV
    go_enter Try.func22, Try.ntmps22
    go_wp2_with fail
    refine (checkAll_any _ _ _ [(lo, hi), (lo', hi')] _ (two_new _ _ _ _ _ _ (by simp) (by simp)) (by omega)).mono ?_
    rw [He.out]
    rintro e w1 ⟨rfl, hb⟩
    have hr := ((IvBox.new' _ 0 0 (g := w.heap.size + 1 + 1) (by simp)).alloc _).kept hb
    obtain ⟨r0, r1, rf0, rf1⟩ := hr.facts
    go_wp2
    exact bodyPost_ret (v := pairV 0 0 ee) (by simp [results, Try.results22, go_sem, r0, r1]) rfl ⟨rfl, by (repeat (first | exact Below.refl _ _ | (refine Below.setCell ?_ (by first | omega | (simp; done) | (simp; omega)) _) | (refine Below.alloc ?_ (by first | omega | (simp; done) | (simp; omega)) _) | (refine Below.trans ?_ (Below.mono hb (by first | omega | (simp; done) | (simp; omega))))))⟩
  · rw [hV]
    clear hV
    go_enter Try.func22, Try.ntmps22
    go_wp2_with fail
    refine (checkAll_any _ _ _ [(lo, hi), (lo', hi')] _ (two_new _ _ _ _ _ _ (by simp) (by simp)) (by omega)).mono ?_
    rw [He.out]
    rintro e w1 ⟨rfl, hb⟩
    have hr := ((IvBox.new' _ 0 0 (g := w.heap.size + 1 + 1) (by simp)).alloc _).kept hb
    have ha := ((((IvBox.new' w lo hi rfl).alloc _).alloc _).alloc _).kept hb
    have hb' := ((((IvBox.new' _ lo' hi' (g := w.heap.size + 1) (by simp)).alloc _).alloc _)).kept hb
    obtain ⟨r0, r1, rf0, rf1⟩ := hr.facts
    obtain ⟨s0, s1, _, _⟩ := ha.facts
    obtain ⟨t0, t1, _, _⟩ := hb'.facts
    have hz := hb.size
    simp at hz
    go_wp2_with fail
    refine (Hov.out _).mono ?_
    rintro e w2 ⟨rfl, hb2⟩
    obtain ⟨q0, q1, qf0, qf1⟩ := (hr.kept hb2).facts
    have hz2 := hb2.size
    go_wp2
    exact bodyPost_ret (v := pairV p q 0) (by simp [results, Try.results22, go_sem, q0, q1]) rfl ⟨rfl, by (repeat (first | exact Below.refl _ _ | (refine Below.setCell ?_ (by first | omega | (simp; done) | (simp; omega)) _) | (refine Below.alloc ?_ (by first | omega | (simp; done) | (simp; omega)) _) | (refine Below.trans ?_ (Below.mono hb (by first | omega | (simp; done) | (simp; omega)))) | (refine Below.trans ?_ (Below.mono hb2 (by first | omega | (simp; done) | (simp; omega))))))⟩

theorem sum_any (A : Option Addr) (n c : Nat) (xs : List (Int × Int)) (w : World) (h : Ivs w w.heap.size A n xs) (hn : n ≤ 10000) :
    Calls Try.prog 27 #[.slice A n c] w fun e w' => e = .returned (totV xs) ∧ Below w.heap.size w w' := by
  obtain ⟨a, b, e0, he⟩ := totV_form xs
  rw [he]
  have He := Lib.hid he
  clear he
  go_enter Try.func27, Try.ntmps27
  go_wp2_with fail
  refine (total_any _ _ _ xs _ (h.in_ (below_new (Nat.le_refl _) _) (by simp)) hn).mono ?_
  rw [He.out]
  rintro e w1 ⟨rfl, hb⟩
  obtain ⟨r0, r1, rf0, rf1⟩ := ((IvBox.new' w 0 0 rfl).kept hb).facts
  go_wp2
  exact bodyPost_ret (v := pairV a b e0) (by simp [results, Try.results27, go_sem, r0, r1]) rfl ⟨rfl, by (repeat (first | exact Below.refl _ _ | (refine Below.setCell ?_ (by first | omega | (simp; done) | (simp; omega)) _) | (refine Below.alloc ?_ (by first | omega | (simp; done) | (simp; omega)) _) | (refine Below.trans ?_ (Below.mono hb (by first | omega | (simp; done) | (simp; omega))))))⟩
end Go.Proofs.Ytiebchfdbejfbaa
