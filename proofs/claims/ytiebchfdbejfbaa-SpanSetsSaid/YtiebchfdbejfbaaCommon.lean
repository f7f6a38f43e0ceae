/- common of package span. -/
import Derived.Test.YtiebchfdbejfbaaSetMath2
import Derived.Test.YtiebchfdbejfbaaSets
import Derived.Deep.RegionHeld3
import Derived.Deep.DrawnRows
import Derived.Deep.DeepCutAuto
import Derived.BigRegion
namespace Go.Proofs.Ytiebchfdbejfbaa
open Go.RowKit
attribute [local go_sem ↓] Go.wp_at_zero Go.wp_at_succ

theorem cell_keptC {W w1 : World} (hb : Below W.heap.size W w1) {g o : Nat} {v : Value} (h : W.cell? ⟨g, o, none⟩ = some v) : w1.cell? ⟨g, o, none⟩ = some v :=
  (hb.cell (p := ⟨g, o, none⟩) (World.block_lt_of_cell? _ _ h)).trans h
theorem acc_nextC {B : Nat} {w W w1 : World} (h : Below B w W) (hb : Below W.heap.size W w1) (hB : B ≤ W.heap.size) : Below B w w1 := h.trans (hb.mono hB)

theorem Ivs.cut1 {w : World} {B b off n c : Nat} {xs : List (Int × Int)} (h : Ivs w B (some ⟨b, off, none⟩) n xs) (h1 : 0 < n) (hc : n ≤ c) :
    Ivs w B (if c = 1 then some ⟨b, off, none⟩ else some ⟨b, off + 2, none⟩) (n - 1) (xs.drop 1) := by
  refine ⟨by rw [List.length_drop, h.1], fun hn => ?_⟩
  obtain ⟨b', off', e, hB, hcell⟩ := h.2 h1
  injection e with e
  injection e with e1 e2
  subst e1 e2
  rw [if_neg (by omega)]
  refine ⟨_, _, rfl, hB, fun k x hx => ?_⟩
  rw [List.getElem?_drop] at hx
  have := hcell (1 + k) x hx
  rw [show off + 2 + k * 2 = off + (1 + k) * 2 from by omega]
  exact this

/-- The length of a slice value. -/
def sliceLen : Value → Nat
  | .slice _ n _ => n
  | _ => 0

theorem common_any (A : Option Addr) (n c : Nat) (xs : List (Int × Int)) (A' : Option Addr) (n' c' : Nat) (ys : List (Int × Int)) (w : World) (h : Ivs w w.heap.size A n xs) (h' : Ivs w w.heap.size A' n' ys)
    (hc : n ≤ c) (hc' : n' ≤ c') (hm : c ≤ 9223372036854775807) (hm' : c' ≤ 9223372036854775807) (hsz : n + n' ≤ 1000000000) :
    Calls Try.prog 50 #[.slice A n c, .slice A' n' c'] w (OwnRet (commonL xs ys) w) := by
  go_enter Try.func50, Try.ntmps50
  go_wp2
  go_loopw [0, 1, 5] (fun a b v wr => ∃ (A1 A2 : Option Addr) (m1 m2 c1 c2 : Nat) (us vs zs : List (Int × Int)), a = .slice A1 m1 c1 ∧ b = .slice A2 m2 c2 ∧ m1 ≤ c1 ∧ m2 ≤ c2 ∧ c1 ≤ 9223372036854775807 ∧ c2 ≤ 9223372036854775807 ∧ Ivs wr w.heap.size A1 m1 us ∧ Ivs wr w.heap.size A2 m2 vs ∧
      Own wr w.heap.size v zs ∧ zs.length + m1 + m2 ≤ n + n' ∧ zs ++ commonL us vs = commonL xs ys ∧ Below w.heap.size w wr) (fun a b _ _ => sliceLen a + sliceLen b)
  case atStart => exact ⟨A, A', n, n', c, c', xs, ys, [], rfl, rfl, hc, hc', hm, hm', h, h', Own.nil _ _, by simp, rfl, Below.refl _ _⟩
  case round =>
    obtain ⟨A1, A2, m1, m2, c1, c2, us, vs, zs, rfl, rfl, k1, k2, k3, k4, hu, hv, hown, hlen, heq, hbel⟩ := hrel
    have Heq := Lib.hid heq
    clear heq
    by_cases p1 : (0 : Int) < (m1 : Int)
    · by_cases p2 : (0 : Int) < (m2 : Int)
      · obtain ⟨b1, o1, lo, hi, rfl, hB1, hx1, hc11, hc12⟩ := hu.at_ (k := 0) (by omega)
        obtain ⟨b2, o2, lo', hi', rfl, hB2, hx2, hc21, hc22⟩ := hv.at_ (k := 0) (by omega)
        simp only [Nat.zero_mul, Nat.add_zero] at hc11 hc12 hc21 hc22
        have q1 : (1 : Int) ≤ (m1 : Int) := by omega
        have q2 : (1 : Int) ≤ (m2 : Int) := by omega
        have q3 : (m1 : Int) ≤ (c1 : Int) := by omega
        have q4 : (m2 : Int) ≤ (c2 : Int) := by omega
        have hszr := hbel.size
        have hbd : Below wr.heap.size wr wr.drew := (Below.refl _ _).drew
        have hbd2 : ∀ o, Below wr.heap.size wr (wr.drew.alloc o) := fun o => hbd.alloc (Nat.le_refl _) o
        have hbd3 : ∀ o, Below wr.heap.size wr (wr.alloc o).drew := fun o => (below_new (Nat.le_refl _) o).drew
        have x1 : b1 < wr.heap.size := Nat.lt_of_lt_of_le hB1 hszr
        have x2 : b2 < wr.heap.size := Nat.lt_of_lt_of_le hB2 hszr
        have n1 : b1 ≠ wr.heap.size := Nat.ne_of_lt x1
        have n2 : b2 ≠ wr.heap.size := Nat.ne_of_lt x2
        have n3 : wr.heap.size ≠ b1 := (Nat.ne_of_lt x1).symm
        have n4 : wr.heap.size ≠ b2 := (Nat.ne_of_lt x2).symm
        go_upto_region 3 with fail
        go_cut [6] (fun s6 wx => ∃ g : Nat, s6 = .pointer (some ⟨g, 0, none⟩) ∧ wr.heap.size ≤ g ∧ IvBox wx g (max lo lo') (min hi hi') ∧ Below wr.heap.size wr wx)
        case first =>
          go_region_held3 (fun w' => w'.cell? ⟨b1, o1, none⟩ = some (.int .i64 lo) ∧ w'.cell? ⟨b1, o1 + 1, none⟩ = some (.int .i64 hi) ∧ w'.cell? ⟨b2, o2, none⟩ = some (.int .i64 lo') ∧ w'.cell? ⟨b2, o2 + 1, none⟩ = some (.int .i64 hi'))
            (first | go_keep | exact ⟨by assumption, by assumption, by assumption, by assumption⟩)
            (first
              | (go_at_call 44; refine (overlap_any lo hi lo' hi' _).mono ?_; rintro e w4 ⟨rfl, hb4⟩; obtain ⟨hc4, hf4⟩ := old_cells hb4; have acc4 : Below wr.heap.size wr w4 := acc_nextC (by first | assumption | exact hbd2 _ | exact hbd3 _) hb4 (by first | exact Nat.le_refl _ | simp); have z4 := acc4.size; have y1 : b1 < w4.heap.size := Nat.lt_of_lt_of_le (Nat.lt_of_lt_of_le hB1 hszr) z4; have y2 : b2 < w4.heap.size := Nat.lt_of_lt_of_le (Nat.lt_of_lt_of_le hB2 hszr) z4; have r0 : w4.cell? ⟨b1, o1, none⟩ = some (.int .i64 lo) := cell_keptC hb4 (by first | assumption | (simp [*]; done)); have r1 : w4.cell? ⟨b1, o1 + 1, none⟩ = some (.int .i64 hi) := cell_keptC hb4 (by first | assumption | (simp [*]; done)); have r2 : w4.cell? ⟨b2, o2, none⟩ = some (.int .i64 lo') := cell_keptC hb4 (by first | assumption | (simp [*]; done)); have r3 : w4.cell? ⟨b2, o2 + 1, none⟩ = some (.int .i64 hi') := cell_keptC hb4 (by first | assumption | (simp [*]; done))))
          all_goals go_wp2_with fail
          all_goals go_meet
          · exact ⟨w4.heap.size, rfl, z4, IvBox.new _ _ _, acc4.alloc z4 _⟩
          · exact ⟨wr.heap.size, rfl, Nat.le_refl _, (IvBox.kept (w := (wr.alloc _).drew) (IvBox.new wr 0 0) hb4).set _ _, (acc4.setCell (Nat.le_refl _) _).setCell (Nat.le_refl _) _⟩
        case rest =>
          obtain ⟨g, rfl, hg, hbox, hb5⟩ := hcut
          have hu5 := hu.below (hb5.mono hszr)
          have hv5 := hv.below (hb5.mono hszr)
          have hown5 := Own.kept hown hb5
          have hbel5 : Below w.heap.size w wc := hbel.trans (hb5.mono hszr)
          have hsz5 := hbel5.size
          have hus : us = (lo, hi) :: us.drop 1 := by
            cases us with
            | nil => simp at hx1
            | cons u us => simp at hx1; simp [hx1]
          have hvs : vs = (lo', hi') :: vs.drop 1 := by
            cases vs with
            | nil => simp at hx2
            | cons u vs => simp at hx2; simp [hx2]
          have Hus := Lib.hid hus
          have Hvs := Lib.hid hvs
          have hcom : commonL us vs = partI (lo, hi) (lo', hi') ++ (if hi < hi' then commonL (us.drop 1) vs else commonL us (vs.drop 1)) := by
            conv => lhs; rw [hus, hvs, commonL]
            rw [← hus, ← hvs]
          have Hcom := Lib.hid hcom
          clear hus hvs hcom hx1 hx2
          obtain ⟨hs0, hs1, hf0, hf1⟩ := hbox.facts
          have e1 : wc.cell? ⟨b1, o1 + 1, none⟩ = some (.int .i64 hi) := (hb5.cell (p := ⟨b1, o1 + 1, none⟩) x1).trans hc12
          have e2 : wc.cell? ⟨b2, o2 + 1, none⟩ = some (.int .i64 hi') := (hb5.cell (p := ⟨b2, o2 + 1, none⟩) x2).trans hc22
          have hltv := (World.ownsRow.lt hown5)
          by_cases hp : max lo lo' ≤ min hi hi'
          · have hpart : partI (lo, hi) (lo', hi') = [(max lo lo', min hi hi')] := by unfold partI; rw [if_pos hp]
            rw [hpart] at Hcom
            clear hpart
            generalize max lo lo' = p at hp hs0 Hcom hbox
            generalize min hi hi' = q at hp hs1 Hcom hbox
            by_cases hl : hi < hi'
            · go_wp2_with (at_builtin; refine wpList_append_ivs rfl (.tmp 27) (.tmp 29) rfl w.heap.size u5 zs rfl (hown5.alloc _) (wc.heap.size + 1) (some ⟨wc.heap.size, 0, none⟩) 1 1 [(p, q)] rfl (one_new _ _ _ _ rfl (by omega)) (by omega) (by simp; omega) ?_; intro v' w6 hown6 hg6 _; have hx6 : Below w.heap.size wc w6 := below_grown (below_new hsz5 _) hg6 (by simp; omega) (fun y hy => (hltv y hy).1); have y1 : w6.cell? ⟨b1, o1 + 1, none⟩ = some (.int .i64 hi) := (hx6.cell (p := ⟨b1, o1 + 1, none⟩) hB1).trans e1; have y2 : w6.cell? ⟨b2, o2 + 1, none⟩ = some (.int .i64 hi') := (hx6.cell (p := ⟨b2, o2 + 1, none⟩) hB2).trans e2)
              go_quiet (fail)
              go_wp2
              go_roundw
              case rel =>
                refine ⟨_, _, m1 - 1, m2, c1 - 1, c2, us.drop 1, vs, zs ++ [(p, q)], rfl, rfl, by omega, k2, by omega, k4, Ivs.drewN (Ivs.cut1 (hu5.below hx6) (by omega) k1) nq, Ivs.drewN (hv5.below hx6) nq, hown6.drewN nq, by simp; omega, ?_, below_drewN (hbel5.trans hx6) nq⟩
                have hh := Hcom.out
                rw [if_pos (by omega)] at hh
                rw [← Heq.out, hh]
                simp
              case measure => simp [sliceLen]; omega
            · go_wp2_with (at_builtin; refine wpList_append_ivs rfl (.tmp 27) (.tmp 29) rfl w.heap.size u5 zs rfl (hown5.alloc _) (wc.heap.size + 1) (some ⟨wc.heap.size, 0, none⟩) 1 1 [(p, q)] rfl (one_new _ _ _ _ rfl (by omega)) (by omega) (by simp; omega) ?_; intro v' w6 hown6 hg6 _; have hx6 : Below w.heap.size wc w6 := below_grown (below_new hsz5 _) hg6 (by simp; omega) (fun y hy => (hltv y hy).1); have y1 : w6.cell? ⟨b1, o1 + 1, none⟩ = some (.int .i64 hi) := (hx6.cell (p := ⟨b1, o1 + 1, none⟩) hB1).trans e1; have y2 : w6.cell? ⟨b2, o2 + 1, none⟩ = some (.int .i64 hi') := (hx6.cell (p := ⟨b2, o2 + 1, none⟩) hB2).trans e2)
              go_quiet (fail)
              go_wp2
              go_roundw
              case rel =>
                refine ⟨_, _, m1, m2 - 1, c1, c2 - 1, us, vs.drop 1, zs ++ [(p, q)], rfl, rfl, k1, by omega, k3, by omega, Ivs.drewN (hu5.below hx6) nq, Ivs.drewN (Ivs.cut1 (hv5.below hx6) (by omega) k2) nq, hown6.drewN nq, by simp; omega, ?_, below_drewN (hbel5.trans hx6) nq⟩
                have hh := Hcom.out
                rw [if_neg (by omega)] at hh
                rw [← Heq.out, hh]
                simp
              case measure => simp [sliceLen]; omega
          · have hpart : partI (lo, hi) (lo', hi') = [] := by unfold partI; rw [if_neg hp]
            rw [hpart] at Hcom
            clear hpart
            generalize max lo lo' = p at hp hs0 hbox
            generalize min hi hi' = q at hp hs1 hbox
            by_cases hl : hi < hi'
            · go_wp2
              go_quiet (fail)
              go_wp2
              go_roundw
              case rel =>
                refine ⟨_, _, m1 - 1, m2, c1 - 1, c2, us.drop 1, vs, zs, rfl, rfl, by omega, k2, by omega, k4, Ivs.drewN (Ivs.cut1 (hu5) (by omega) k1) nq, Ivs.drewN (hv5) nq, hown5.drewN nq, by omega, ?_, below_drewN hbel5 nq⟩
                have hh := Hcom.out
                rw [if_pos (by omega)] at hh
                rw [← Heq.out, hh]
                rfl
              case measure => simp [sliceLen]; omega
            · go_wp2
              go_quiet (fail)
              go_wp2
              go_roundw
              case rel =>
                refine ⟨_, _, m1, m2 - 1, c1, c2 - 1, us, vs.drop 1, zs, rfl, rfl, k1, by omega, k3, by omega, Ivs.drewN (hu5) nq, Ivs.drewN (Ivs.cut1 (hv5) (by omega) k2) nq, hown5.drewN nq, by omega, ?_, below_drewN hbel5 nq⟩
                have hh := Hcom.out
                rw [if_neg (by omega)] at hh
                rw [← Heq.out, hh]
                rfl
              case measure => simp [sliceLen]; omega
      · have hm2 : m2 = 0 := by omega
        subst hm2
        have hvn : vs = [] := List.eq_nil_of_length_eq_zero hv.len
        subst hvn
        have hzz : zs = commonL xs ys := by
          rw [← Heq.out]
          cases us with
          | nil => rw [commonL]; simp
          | cons u us => rw [commonL]; simp
        have Hzz := Lib.hid hzz
        clear hzz
        go_wp2
        go_ret
        exact ⟨_, rfl, by rw [← Hzz.out]; exact hown, hbel⟩
    · have hm1 : m1 = 0 := by omega
      subst hm1
      have hun : us = [] := List.eq_nil_of_length_eq_zero hu.len
      subst hun
      have hzz : zs = commonL xs ys := by
        rw [← Heq.out, commonL]; simp
      have Hzz := Lib.hid hzz
      clear hzz
      go_wp2
      go_ret
      exact ⟨_, rfl, by rw [← Hzz.out]; exact hown, hbel⟩
end Go.Proofs.Ytiebchfdbejfbaa
