/- The walks of the statements SpanPairs and SpanSums, given that the sort sorts. -/
import Derived.Test.YtiebchfdbejfbaaAwake
import Derived.Test.YtiebchfdbejfbaaRefPairs
namespace Go.Proofs.Ytiebchfdbejfbaa
open Go.RowKit

theorem spanSums_any (hsort : SortSaid) (A : Option Addr) (n c : Nat) (xs : List (Int × Int)) (w : World) (h : Ivs w w.heap.size A n xs) :
    Calls Try.prog 5 #[.slice A n c] w fun e w' => e = .returned (.bool true) ∧ Below w.heap.size w w' := by
  obtain ⟨a, b, e0, he⟩ := totV_form xs
  have He := Lib.hid he
  clear he
  by_cases hlt : (30 : Int) < (n : Int)
  · go_enter Try.func5, Try.ntmps5
    go_wp2_with fail
    refine (awake_any hsort _).mono ?_
    rintro e w1 ⟨rfl, hb⟩
    go_wp2
    go_ret
    exact ⟨rfl, hb⟩
  · have hle : n ≤ 30 := by omega
    go_enter Try.func5, Try.ntmps5
    go_wp2_with fail
    refine (awake_any hsort _).mono ?_
    rintro e w1 ⟨rfl, hb⟩
    have h1 : Ivs w1 w1.heap.size A n xs := h.in_ hb hb.size
    go_wp2_with fail
    refine (sum_any A n c xs _ h1 (by omega)).mono ?_
    rw [He.out]
    rintro e w2 ⟨rfl, hb2⟩
    have h2 : Ivs w2 w2.heap.size A n xs := h1.in_ hb2 hb2.size
    go_wp2_with fail
    refine (ref_sum_any A n c xs _ (h2.in_ (below_new (Nat.le_refl _) _) (by simp)) (by omega)).mono ?_
    rw [He.out]
    rintro e w3 ⟨rfl, hb3⟩
    obtain ⟨x0, x1, _, _⟩ := ((IvBox.new w2 a b).kept hb3).facts
    have hz := hb3.size
    simp at hz
    obtain ⟨y0, y1, _, _⟩ := (((IvBox.new w2 a b).kept hb3).alloc (.cells #[.int .i64 a, .int .i64 b] 23)).facts
    have z1 := hb.size
    have z2 := hb2.size
    go_wp2
    go_ret
    exact ⟨rfl, by (repeat (first | exact Below.refl _ _ | (refine Below.setCell ?_ (by first | omega | (simp; done) | (simp; omega)) _) | (refine Below.alloc ?_ (by first | omega | (simp; done) | (simp; omega)) _) | (refine Below.trans ?_ (Below.mono hb (by first | omega | (simp; done) | (simp; omega)))) | (refine Below.trans ?_ (Below.mono hb2 (by first | omega | (simp; done) | (simp; omega)))) | (refine Below.trans ?_ (Below.mono hb3 (by first | omega | (simp; done) | (simp; omega))))))⟩
theorem spanPairs_any (hsort : SortSaid) (lo hi lo' hi' : Int) (w : World) :
    Calls Try.prog 4 #[.agg #[.int .i64 lo, .int .i64 hi], .agg #[.int .i64 lo', .int .i64 hi']] w fun e w' => e = .returned (.bool true) ∧ Below w.heap.size w w' := by
  obtain ⟨a1, b1, e1, h1⟩ := totV_form [(lo, hi), (lo', hi')]
  obtain ⟨a2, b2, e2, h2⟩ := subV_form lo hi lo' hi'
  obtain ⟨a3, b3, e3, h3⟩ := meetV_form lo hi lo' hi'
  obtain ⟨a4, b4, e4, h4⟩ := joinV_form lo hi lo' hi'
  have H1 := Lib.hid h1
  have H2 := Lib.hid h2
  have H3 := Lib.hid h3
  have H4 := Lib.hid h4
  clear h1 h2 h3 h4
  go_enter Try.func4, Try.ntmps4
  go_wp2_with fail
  refine (awake_any hsort _).mono ?_
  rintro e w1 ⟨rfl, hb1⟩
  have ka := (((IvBox.new' w lo hi rfl).alloc _)).kept hb1
  have kb := ((IvBox.new' _ lo' hi' (g := w.heap.size + 1) (by simp))).kept hb1
  have z1 := hb1.size
  simp at z1
  have acc1 : Below w.heap.size w w1 := by (repeat (first | exact Below.refl _ _ | (refine Below.setCell ?_ (by first | omega | (simp; done) | (simp; omega)) _) | (refine Below.alloc ?_ (by first | omega | (simp; done) | (simp; omega)) _) | (refine Below.trans ?_ (Below.mono hb1 (by first | omega | (simp; done) | (simp; omega))))))
  clear hb1
  have k1 := ka
  have k2 := kb
  obtain ⟨s0, s1, _, _⟩ := ka.facts
  obtain ⟨t0, t1, _, _⟩ := kb.facts
  clear ka kb
  go_wp2_with fail
  refine (add_any _ _ _ _ _).mono ?_
  rw [H1.out]
  rintro e w2 ⟨rfl, hb⟩
  clear s0 s1 t0 t1
  replace k1 := (k1.kept hb).alloc (.cells #[.int .i64 a1, .int .i64 b1] 23)
  replace k2 := (k2.kept hb).alloc (.cells #[.int .i64 a1, .int .i64 b1] 23)
  have m1 := IvBox.new w2 a1 b1
  have acc2 : Below w.heap.size w (w2.alloc (.cells #[.int .i64 a1, .int .i64 b1] 23)) := (acc1.trans (hb.mono acc1.size)).alloc (acc1.trans (hb.mono acc1.size)).size _
  clear acc1 hb
  obtain ⟨s0, s1, _, _⟩ := k1.facts
  obtain ⟨t0, t1, _, _⟩ := k2.facts
  go_wp2_with fail
  refine (sub_any _ _ _ _ _).mono ?_
  rw [H2.out]
  rintro e w3 ⟨rfl, hb⟩
  clear s0 s1 t0 t1
  replace k1 := (k1.kept hb).alloc (.cells #[.int .i64 a2, .int .i64 b2] 23)
  replace k2 := (k2.kept hb).alloc (.cells #[.int .i64 a2, .int .i64 b2] 23)
  replace m1 := (m1.kept hb).alloc (.cells #[.int .i64 a2, .int .i64 b2] 23)
  have m2 := IvBox.new w3 a2 b2
  have acc3 : Below w.heap.size w (w3.alloc (.cells #[.int .i64 a2, .int .i64 b2] 23)) := (acc2.trans (hb.mono acc2.size)).alloc (acc2.trans (hb.mono acc2.size)).size _
  clear acc2 hb
  obtain ⟨s0, s1, _, _⟩ := k1.facts
  obtain ⟨t0, t1, _, _⟩ := k2.facts
  go_wp2_with fail
  refine (meet_any _ _ _ _ _).mono ?_
  rw [H3.out]
  rintro e w4 ⟨rfl, hb⟩
  clear s0 s1 t0 t1
  replace k1 := (k1.kept hb).alloc (.cells #[.int .i64 a3, .int .i64 b3] 23)
  replace k2 := (k2.kept hb).alloc (.cells #[.int .i64 a3, .int .i64 b3] 23)
  replace m1 := (m1.kept hb).alloc (.cells #[.int .i64 a3, .int .i64 b3] 23)
  replace m2 := (m2.kept hb).alloc (.cells #[.int .i64 a3, .int .i64 b3] 23)
  have m3 := IvBox.new w4 a3 b3
  have acc4 : Below w.heap.size w (w4.alloc (.cells #[.int .i64 a3, .int .i64 b3] 23)) := (acc3.trans (hb.mono acc3.size)).alloc (acc3.trans (hb.mono acc3.size)).size _
  clear acc3 hb
  obtain ⟨s0, s1, _, _⟩ := k1.facts
  obtain ⟨t0, t1, _, _⟩ := k2.facts
  go_wp2_with fail
  refine (join_any _ _ _ _ _).mono ?_
  rw [H4.out]
  rintro e w5 ⟨rfl, hb⟩
  clear s0 s1 t0 t1
  replace k1 := (k1.kept hb).alloc (.cells #[.int .i64 a4, .int .i64 b4] 23)
  replace k2 := (k2.kept hb).alloc (.cells #[.int .i64 a4, .int .i64 b4] 23)
  replace m1 := (m1.kept hb).alloc (.cells #[.int .i64 a4, .int .i64 b4] 23)
  replace m2 := (m2.kept hb).alloc (.cells #[.int .i64 a4, .int .i64 b4] 23)
  replace m3 := (m3.kept hb).alloc (.cells #[.int .i64 a4, .int .i64 b4] 23)
  have m4 := IvBox.new w5 a4 b4
  have acc5 : Below w.heap.size w (w5.alloc (.cells #[.int .i64 a4, .int .i64 b4] 23)) := (acc4.trans (hb.mono acc4.size)).alloc (acc4.trans (hb.mono acc4.size)).size _
  clear acc4 hb
  obtain ⟨s0, s1, _, _⟩ := k1.facts
  obtain ⟨t0, t1, _, _⟩ := k2.facts
  go_wp2_with fail
  refine (ref_add_any _ _ _ _ _).mono ?_
  rw [H1.out]
  rintro e w6 ⟨rfl, hb⟩
  clear s0 s1 t0 t1
  replace k1 := (k1.kept hb).alloc (.cells #[.int .i64 a1, .int .i64 b1] 23)
  replace k2 := (k2.kept hb).alloc (.cells #[.int .i64 a1, .int .i64 b1] 23)
  replace m1 := (m1.kept hb).alloc (.cells #[.int .i64 a1, .int .i64 b1] 23)
  replace m2 := (m2.kept hb).alloc (.cells #[.int .i64 a1, .int .i64 b1] 23)
  replace m3 := (m3.kept hb).alloc (.cells #[.int .i64 a1, .int .i64 b1] 23)
  replace m4 := (m4.kept hb).alloc (.cells #[.int .i64 a1, .int .i64 b1] 23)
  have m5 := IvBox.new w6 a1 b1
  have acc6 : Below w.heap.size w (w6.alloc (.cells #[.int .i64 a1, .int .i64 b1] 23)) := (acc5.trans (hb.mono acc5.size)).alloc (acc5.trans (hb.mono acc5.size)).size _
  clear acc5 hb
  obtain ⟨s0, s1, _, _⟩ := k1.facts
  obtain ⟨t0, t1, _, _⟩ := k2.facts
  go_wp2_with fail
  refine (ref_sub_any _ _ _ _ _).mono ?_
  rw [H2.out]
  rintro e w7 ⟨rfl, hb⟩
  clear s0 s1 t0 t1
  replace k1 := (k1.kept hb).alloc (.cells #[.int .i64 a2, .int .i64 b2] 23)
  replace k2 := (k2.kept hb).alloc (.cells #[.int .i64 a2, .int .i64 b2] 23)
  replace m1 := (m1.kept hb).alloc (.cells #[.int .i64 a2, .int .i64 b2] 23)
  replace m2 := (m2.kept hb).alloc (.cells #[.int .i64 a2, .int .i64 b2] 23)
  replace m3 := (m3.kept hb).alloc (.cells #[.int .i64 a2, .int .i64 b2] 23)
  replace m4 := (m4.kept hb).alloc (.cells #[.int .i64 a2, .int .i64 b2] 23)
  replace m5 := (m5.kept hb).alloc (.cells #[.int .i64 a2, .int .i64 b2] 23)
  have m6 := IvBox.new w7 a2 b2
  have acc7 : Below w.heap.size w (w7.alloc (.cells #[.int .i64 a2, .int .i64 b2] 23)) := (acc6.trans (hb.mono acc6.size)).alloc (acc6.trans (hb.mono acc6.size)).size _
  clear acc6 hb
  obtain ⟨s0, s1, _, _⟩ := k1.facts
  obtain ⟨t0, t1, _, _⟩ := k2.facts
  go_wp2_with fail
  refine (ref_meet_any _ _ _ _ _).mono ?_
  rw [H3.out]
  rintro e w8 ⟨rfl, hb⟩
  clear s0 s1 t0 t1
  replace k1 := (k1.kept hb).alloc (.cells #[.int .i64 a3, .int .i64 b3] 23)
  replace k2 := (k2.kept hb).alloc (.cells #[.int .i64 a3, .int .i64 b3] 23)
  replace m1 := (m1.kept hb).alloc (.cells #[.int .i64 a3, .int .i64 b3] 23)
  replace m2 := (m2.kept hb).alloc (.cells #[.int .i64 a3, .int .i64 b3] 23)
  replace m3 := (m3.kept hb).alloc (.cells #[.int .i64 a3, .int .i64 b3] 23)
  replace m4 := (m4.kept hb).alloc (.cells #[.int .i64 a3, .int .i64 b3] 23)
  replace m5 := (m5.kept hb).alloc (.cells #[.int .i64 a3, .int .i64 b3] 23)
  replace m6 := (m6.kept hb).alloc (.cells #[.int .i64 a3, .int .i64 b3] 23)
  have m7 := IvBox.new w8 a3 b3
  have acc8 : Below w.heap.size w (w8.alloc (.cells #[.int .i64 a3, .int .i64 b3] 23)) := (acc7.trans (hb.mono acc7.size)).alloc (acc7.trans (hb.mono acc7.size)).size _
  clear acc7 hb
  obtain ⟨s0, s1, _, _⟩ := k1.facts
  obtain ⟨t0, t1, _, _⟩ := k2.facts
  go_wp2_with fail
  refine (ref_join_any _ _ _ _ _).mono ?_
  rw [H4.out]
  rintro e w9 ⟨rfl, hb⟩
  clear s0 s1 t0 t1
  replace k1 := (k1.kept hb).alloc (.cells #[.int .i64 a4, .int .i64 b4] 23)
  replace k2 := (k2.kept hb).alloc (.cells #[.int .i64 a4, .int .i64 b4] 23)
  replace m1 := (m1.kept hb).alloc (.cells #[.int .i64 a4, .int .i64 b4] 23)
  replace m2 := (m2.kept hb).alloc (.cells #[.int .i64 a4, .int .i64 b4] 23)
  replace m3 := (m3.kept hb).alloc (.cells #[.int .i64 a4, .int .i64 b4] 23)
  replace m4 := (m4.kept hb).alloc (.cells #[.int .i64 a4, .int .i64 b4] 23)
  replace m5 := (m5.kept hb).alloc (.cells #[.int .i64 a4, .int .i64 b4] 23)
  replace m6 := (m6.kept hb).alloc (.cells #[.int .i64 a4, .int .i64 b4] 23)
  replace m7 := (m7.kept hb).alloc (.cells #[.int .i64 a4, .int .i64 b4] 23)
  have m8 := IvBox.new w9 a4 b4
  have acc9 : Below w.heap.size w (w9.alloc (.cells #[.int .i64 a4, .int .i64 b4] 23)) := (acc8.trans (hb.mono acc8.size)).alloc (acc8.trans (hb.mono acc8.size)).size _
  clear acc8 hb
  obtain ⟨x1, y1, _, _⟩ := m1.facts
  obtain ⟨x2, y2, _, _⟩ := m2.facts
  obtain ⟨x3, y3, _, _⟩ := m3.facts
  obtain ⟨x4, y4, _, _⟩ := m4.facts
  obtain ⟨x5, y5, _, _⟩ := m5.facts
  obtain ⟨x6, y6, _, _⟩ := m6.facts
  obtain ⟨x7, y7, _, _⟩ := m7.facts
  obtain ⟨x8, y8, _, _⟩ := m8.facts
  go_wp2
  go_ret
  exact ⟨rfl, acc9⟩
end Go.Proofs.Ytiebchfdbejfbaa
