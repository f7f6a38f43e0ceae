/- The walk of the statement SpanMembers, given that the sort sorts. -/
import Derived.Test.YtiebchfdbejfbaaRefIn
import Derived.Test.YtiebchfdbejfbaaAwake
namespace Go.Proofs.Ytiebchfdbejfbaa
open Go.RowKit

theorem val_of_ok {xs : List (Int × Int)} (h : errAll xs = 0) : Val xs := fun x hx => (errAll_zero h x hx).2
theorem normL_nf {xs : List (Int × Int)} (h : Val xs) : NF (normL xs) := (normL_spec xs h).1
theorem normL_mem {xs : List (Int × Int)} (h : Val xs) (n : Int) : Mem n (normL xs) ↔ Mem n xs := (normL_spec xs h).2 n
theorem minusL_inR {xs ys : List (Int × Int)} (hx : NF xs) (hy : NF ys) (h : InR xs) : InR (minusL xs ys) := fun p hp => by
  obtain ⟨a, b, _⟩ := minusL_spec xs ys hx hy
  obtain ⟨x, hx, h1, h2⟩ := b p hp
  have := a.1 p hp
  have := h x hx
  omega
theorem commonL_inR {xs ys : List (Int × Int)} (hx : NF xs) (hy : NF ys) (h : InR xs) : InR (commonL xs ys) := fun p hp => by
  obtain ⟨a, b, _⟩ := commonL_spec xs ys hx hy
  obtain ⟨⟨x, hx, h1, h2⟩, _⟩ := b p hp
  have := a.1 p hp
  have := h x hx
  omega
theorem bool_ext {a b : Bool} (h : a = true ↔ b = true) : a = b := by cases a <;> cases b <;> simp_all
theorem memB_union {xs ys : List (Int × Int)} (h : Val (xs ++ ys)) (n : Int) : memB n (normL (xs ++ ys)) = (memB n xs || memB n ys) :=
  bool_ext (by rw [memB_iff, normL_mem h, mem_append, Bool.or_eq_true, memB_iff, memB_iff])
theorem memB_minus {xs ys : List (Int × Int)} (h : Val xs) (h' : Val ys) (n : Int) : memB n (minusL (normL xs) (normL ys)) = (memB n xs && !memB n ys) :=
  bool_ext (by
    rw [memB_iff, (minusL_spec _ _ (normL_nf h) (normL_nf h')).2.2 n, normL_mem h, normL_mem h', Bool.and_eq_true, memB_iff, Bool.not_eq_true', ← Bool.not_eq_true, memB_iff])
theorem memB_common {xs ys : List (Int × Int)} (h : Val xs) (h' : Val ys) (n : Int) : memB n (commonL (normL xs) (normL ys)) = (memB n xs && memB n ys) :=
  bool_ext (by rw [memB_iff, (commonL_spec _ _ (normL_nf h) (normL_nf h')).2.2 n, normL_mem h, normL_mem h', Bool.and_eq_true, memB_iff, memB_iff])
theorem okSet_zero (zs : List (Int × Int)) : okSet 0 zs = zs := if_pos rfl

set_option maxHeartbeats 1600000 in
theorem spanMembers_any (hsort : SortSaid) (A : Option Addr) (n c : Nat) (xs : List (Int × Int)) (A' : Option Addr) (n' c' : Nat) (ys : List (Int × Int)) (m : Int) (w : World) (h : Ivs w w.heap.size A n xs) (h' : Ivs w w.heap.size A' n' ys) :
    Calls Try.prog 8 #[.slice A n c, .slice A' n' c', .int .i64 m] w fun e w' => e = .returned (.bool true) ∧ Below w.heap.size w w' := by
  by_cases hlt : (30 : Int) < (n : Int) ∨ (30 : Int) < (n' : Int)
  · rcases (show (30 : Int) < (n : Int) ∨ ((n : Int) ≤ 30 ∧ (30 : Int) < (n' : Int)) from by omega) with h1 | ⟨h1, h2⟩
    all_goals
      go_enter Try.func8, Try.ntmps8
      go_wp2_with fail
      refine (awake_any hsort _).mono ?_
      rintro e w1 ⟨rfl, hb⟩
      go_wp2
      go_ret
      exact ⟨rfl, hb⟩
  · have hle2 : (n : Int) ≤ 30 := by omega
    have hle3 : (n' : Int) ≤ 30 := by omega
    clear hlt
    obtain ⟨ee, he⟩ : ∃ ee, errAll (xs ++ ys) = ee := ⟨_, rfl⟩
    by_cases hz : ee = 0
    · subst hz
      have hv := val_of_ok he
      have hin := inR_of_ok he
      have hvx : Val xs := fun x hx => hv x (List.mem_append_left _ hx)
      have hvy : Val ys := fun x hx => hv x (List.mem_append_right _ hx)
      have hix : InR xs := fun x hx => hin x (List.mem_append_left _ hx)
      have m1 := memB_union hv m
      have m2 := memB_minus hvx hvy m
      have m3 := memB_common hvx hvy m
      have f1 := normL_nf hv
      have f2 := (minusL_spec _ _ (normL_nf hvx) (normL_nf hvy)).1
      have f3 := (commonL_spec _ _ (normL_nf hvx) (normL_nf hvy)).1
      have r1 := normL_inR hin
      have r2 := minusL_inR (normL_nf hvx) (normL_nf hvy) (normL_inR hix)
      have r3 := commonL_inR (normL_nf hvx) (normL_nf hvy) (normL_inR hix)
      have He := Lib.hid he
      clear he hv hin hvx hvy hix
      obtain ⟨us, hus⟩ : ∃ us, normL (xs ++ ys) = us := ⟨_, rfl⟩
      obtain ⟨ms, hms⟩ : ∃ ms, minusL (normL xs) (normL ys) = ms := ⟨_, rfl⟩
      obtain ⟨cs, hcs⟩ : ∃ cs, commonL (normL xs) (normL ys) = cs := ⟨_, rfl⟩
      rw [hus] at m1 f1 r1
      rw [hms] at m2 f2 r2
      rw [hcs] at m3 f3 r3
      have Hus := Lib.hid hus
      have Hms := Lib.hid hms
      have Hcs := Lib.hid hcs
      clear hus hms hcs
      obtain ⟨bx, hbx⟩ : ∃ b, memB m xs = b := ⟨_, rfl⟩
      obtain ⟨by', hby⟩ : ∃ b, memB m ys = b := ⟨_, rfl⟩
      rw [hbx, hby] at m1 m2 m3
      have Hbx := Lib.hid hbx
      have Hby := Lib.hid hby
      have M1 := Lib.hid m1
      have M2 := Lib.hid m2
      have M3 := Lib.hid m3
      have F1 := Lib.hid f1
      have F2 := Lib.hid f2
      have F3 := Lib.hid f3
      have R1 := Lib.hid r1
      have R2 := Lib.hid r2
      have R3 := Lib.hid r3
      clear hbx hby m1 m2 m3 f1 f2 f3 r1 r2 r3
      go_enter Try.func8, Try.ntmps8
      go_wp2_with fail
      refine (awake_any hsort _).mono ?_
      rintro e w1 ⟨rfl, hb1⟩
      have i1 : Ivs w1 w1.heap.size A n xs := h.in_ hb1 hb1.size
      have j1 : Ivs w1 w1.heap.size A' n' ys := h'.in_ hb1 hb1.size
      go_wp2_with fail
      refine (union_any hsort A A' n c n' c' xs ys w1 i1 j1 (by omega) (by omega)).mono ?_
      rw [He.out, Hus.out, okSet_zero]
      rintro e w2 ⟨v1, rfl, hown1, hb2⟩
      obtain ⟨A1, c1, rfl, k1, kc1, km1⟩ := hown1.form_c rfl
      have i2 : Ivs w2 w2.heap.size A n xs := i1.in_ hb2 hb2.size
      have j2 : Ivs w2 w2.heap.size A' n' ys := j1.in_ hb2 hb2.size
      go_wp2_with fail
      refine (minus_set hsort A A' n c n' c' xs ys w2 i2 j2 (by omega) (by omega)).mono ?_
      rw [He.out, Hms.out, okSet_zero]
      rintro e w3 ⟨v2, rfl, hown2, hb3⟩
      obtain ⟨A2, c2, rfl, k2, kc2, km2⟩ := hown2.form_c rfl
      have i3 : Ivs w3 w3.heap.size A n xs := i2.in_ hb3 hb3.size
      have j3 : Ivs w3 w3.heap.size A' n' ys := j2.in_ hb3 hb3.size
      go_wp2_with fail
      refine (common_set hsort A A' n c n' c' xs ys w3 i3 j3 (by omega) (by omega)).mono ?_
      rw [He.out, Hcs.out, okSet_zero]
      rintro e w4 ⟨v3, rfl, hown3, hb4⟩
      obtain ⟨A3, c3, rfl, k3, kc3, km3⟩ := hown3.form_c rfl
      have i4 : Ivs w4 w4.heap.size A n xs := i3.in_ hb4 hb4.size
      have j4 : Ivs w4 w4.heap.size A' n' ys := j3.in_ hb4 hb4.size
      have k14 : Ivs w4 w4.heap.size A1 us.length us := (k1.in_ hb3 hb3.size).in_ hb4 hb4.size
      have k24 : Ivs w4 w4.heap.size A2 ms.length ms := k2.in_ hb4 hb4.size
      have z1 := hb1.size
      have z2 := hb2.size
      have z3 := hb3.size
      have z4 := hb4.size
      have acc4 : Below w.heap.size w w4 := by (repeat (first | exact Below.refl _ _ | (refine Below.setCell ?_ (by first | omega | (simp; done) | (simp; omega)) _) | (refine Below.alloc ?_ (by first | omega | (simp; done) | (simp; omega)) _) | (refine Below.trans ?_ (Below.mono hb1 (by first | omega | (simp; done) | (simp; omega)))) | (refine Below.trans ?_ (Below.mono hb2 (by first | omega | (simp; done) | (simp; omega)))) | (refine Below.trans ?_ (Below.mono hb3 (by first | omega | (simp; done) | (simp; omega)))) | (refine Below.trans ?_ (Below.mono hb4 (by first | omega | (simp; done) | (simp; omega))))))
      clear hb1 hb2 hb3 hb4 i1 i2 i3 j1 j2 j3 k1 k2 h h' hown1 hown2 hown3
      go_wp2_with fail
      refine (in_any A n c xs m w4 i4 (by omega)).mono ?_
      rw [Hbx.out]
      rintro e w5 ⟨rfl, hb5⟩
      have j5 := j4.in_ hb5 hb5.size
      have k15 := k14.in_ hb5 hb5.size
      have k25 := k24.in_ hb5 hb5.size
      have k35 := k3.in_ hb5 hb5.size
      go_wp2_with fail
      refine (in_any A' n' c' ys m w5 j5 (by omega)).mono ?_
      rw [Hby.out]
      rintro e w6 ⟨rfl, hb6⟩
      have k16 := k15.in_ hb6 hb6.size
      have k26 := k25.in_ hb6 hb6.size
      have k36 := k35.in_ hb6 hb6.size
      have acc6 : Below w.heap.size w w6 := (acc4.trans (hb5.mono acc4.size)).trans (hb6.mono (by have := hb5.size; have := acc4.size; omega))
      clear k14 k24 k3 k15 k25 k35 j4 j5 i4 hb5 hb6 acc4
      go_wp2_with fail
      refine (in_any A1 _ c1 us m w6 k16 (by omega)).mono ?_
      rw [M1.out]
      rintro e w7 ⟨rfl, hb7⟩
      have k17 := k16.in_ hb7 hb7.size
      have k27 := k26.in_ hb7 hb7.size
      have k37 := k36.in_ hb7 hb7.size
      have acc7 : Below w.heap.size w w7 := acc6.trans (hb7.mono acc6.size)
      clear k16 k26 k36 hb7 acc6
      cases bx <;> cases by'
      all_goals
        go_wp2_with fail
        refine (in_any A2 _ c2 ms m w7 k27 (by omega)).mono ?_
        rw [M2.out]
        rintro e w8 ⟨rfl, hb8⟩
        have k18 := k17.in_ hb8 hb8.size
        have k28 := k27.in_ hb8 hb8.size
        have k38 := k37.in_ hb8 hb8.size
        have acc8 : Below w.heap.size w w8 := acc7.trans (hb8.mono acc7.size)
        clear k17 k27 k37 hb8 acc7
        go_wp2_with fail
        refine (in_any A3 _ c3 cs m w8 k38 (by omega)).mono ?_
        rw [M3.out]
        rintro e w9 ⟨rfl, hb9⟩
        have k19 := k18.in_ hb9 hb9.size
        have k29 := k28.in_ hb9 hb9.size
        have k39 := k38.in_ hb9 hb9.size
        have acc9 : Below w.heap.size w w9 := acc8.trans (hb9.mono acc8.size)
        clear k18 k28 k38 hb9 acc8
        go_wp2_with fail
        refine (normal_law_any A1 _ c1 us w9 k19 (by omega) F1.out R1.out).mono ?_
        rintro e w10 ⟨rfl, hb10⟩
        have k2a := k29.in_ hb10 hb10.size
        have k3a := k39.in_ hb10 hb10.size
        have acc10 : Below w.heap.size w w10 := acc9.trans (hb10.mono acc9.size)
        clear k29 k39 hb10 acc9
        go_wp2_with fail
        refine (normal_law_any A2 _ c2 ms w10 k2a (by omega) F2.out R2.out).mono ?_
        rintro e w11 ⟨rfl, hb11⟩
        have k3b := k3a.in_ hb11 hb11.size
        have acc11 : Below w.heap.size w w11 := acc10.trans (hb11.mono acc10.size)
        clear k2a k3a hb11 acc10
        go_wp2_with fail
        refine (normal_law_any A3 _ c3 cs w11 k3b (by omega) F3.out R3.out).mono ?_
        rintro e w12 ⟨rfl, hb12⟩
        go_wp2
        go_ret
        exact ⟨rfl, acc11.trans (hb12.mono acc11.size)⟩
    · have hne : (ee != 0) = true := by simp [hz]
      have He := Lib.hid he
      clear he hz
      go_enter Try.func8, Try.ntmps8
      go_wp2_with fail
      refine (awake_any hsort _).mono ?_
      rintro e w1 ⟨rfl, hb1⟩
      have i1 : Ivs w1 w1.heap.size A n xs := h.in_ hb1 hb1.size
      have j1 : Ivs w1 w1.heap.size A' n' ys := h'.in_ hb1 hb1.size
      go_wp2_with fail
      refine (union_any hsort A A' n c n' c' xs ys w1 i1 j1 (by omega) (by omega)).mono ?_
      rw [He.out]
      rintro e w2 ⟨v1, rfl, hown1, hb2⟩
      have i2 : Ivs w2 w2.heap.size A n xs := i1.in_ hb2 hb2.size
      have j2 : Ivs w2 w2.heap.size A' n' ys := j1.in_ hb2 hb2.size
      go_wp2_with fail
      refine (minus_set hsort A A' n c n' c' xs ys w2 i2 j2 (by omega) (by omega)).mono ?_
      rw [He.out]
      rintro e w3 ⟨v2, rfl, hown2, hb3⟩
      have i3 : Ivs w3 w3.heap.size A n xs := i2.in_ hb3 hb3.size
      have j3 : Ivs w3 w3.heap.size A' n' ys := j2.in_ hb3 hb3.size
      go_wp2_with fail
      refine (common_set hsort A A' n c n' c' xs ys w3 i3 j3 (by omega) (by omega)).mono ?_
      rw [He.out]
      rintro e w4 ⟨v3, rfl, hown3, hb4⟩
      have z1 := hb1.size
      have z2 := hb2.size
      have z3 := hb3.size
      have z4 := hb4.size
      have acc4 : Below w.heap.size w w4 := by (repeat (first | exact Below.refl _ _ | (refine Below.setCell ?_ (by first | omega | (simp; done) | (simp; omega)) _) | (refine Below.alloc ?_ (by first | omega | (simp; done) | (simp; omega)) _) | (refine Below.trans ?_ (Below.mono hb1 (by first | omega | (simp; done) | (simp; omega)))) | (refine Below.trans ?_ (Below.mono hb2 (by first | omega | (simp; done) | (simp; omega)))) | (refine Below.trans ?_ (Below.mono hb3 (by first | omega | (simp; done) | (simp; omega)))) | (refine Below.trans ?_ (Below.mono hb4 (by first | omega | (simp; done) | (simp; omega))))))
      go_wp2
      go_ret
      exact ⟨rfl, acc4⟩
end Go.Proofs.Ytiebchfdbejfbaa
