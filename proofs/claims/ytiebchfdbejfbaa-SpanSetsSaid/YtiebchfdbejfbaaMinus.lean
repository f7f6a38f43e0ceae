/- minus of package span. -/
import Derived.Test.YtiebchfdbejfbaaCommon
namespace Go.Proofs.Ytiebchfdbejfbaa
open Go.RowKit
attribute [local go_sem ↓] Go.wp_at_zero Go.wp_at_succ

theorem drop_at {xs : List (Int × Int)} {k : Nat} {x : Int × Int} (h : xs[k]? = some x) : xs.drop k = x :: xs.drop (k + 1) := by
  obtain ⟨hl, hx⟩ := List.getElem?_eq_some_iff.1 h
  rw [List.drop_eq_getElem_cons hl, hx]
/-- Does the first interval end before a number? -/
def hd1 (lo : Int) : List (Int × Int) → Bool
  | [] => false
  | y :: _ => decide (y.2 < lo)
theorem dropB_true {lo : Int} {ds : List (Int × Int)} (h : hd1 lo ds = true) : dropB lo ds = dropB lo (ds.drop 1) := by
  cases ds with
  | nil => cases h
  | cons y ys =>
    have : y.2 < lo := of_decide_eq_true h
    show dropB lo (y :: ys) = _
    rw [dropB, if_pos this]; rfl
theorem dropB_false {lo : Int} {ds : List (Int × Int)} (h : hd1 lo ds = false) : dropB lo ds = ds := by
  cases ds with
  | nil => rfl
  | cons y ys =>
    have : ¬ y.2 < lo := of_decide_eq_false h
    rw [dropB, if_neg this]
theorem cutL_len : ∀ (ys : List (Int × Int)) (lo hi : Int), (cutL lo hi ys).length ≤ ys.length + 1
  | [], lo, hi => by unfold cutL; split <;> simp
  | y :: ys, lo, hi => by
    have := cutL_len ys (y.2 + 1) hi
    unfold cutL
    split
    · split <;> simp
    · rw [List.length_append, List.length_cons]
      split <;> simp <;> omega
theorem dropB_len : ∀ (ys : List (Int × Int)) (lo : Int), (dropB lo ys).length ≤ ys.length
  | [], _ => Nat.le_refl _
  | y :: ys, lo => by
    have := dropB_len ys lo
    unfold dropB
    split <;> simp <;> omega
theorem minusL_len : ∀ (xs ys : List (Int × Int)), (minusL xs ys).length ≤ xs.length * (ys.length + 1)
  | [], _ => by simp [minusL]
  | x :: xs, ys => by
    have h1 := cutL_len (dropB x.1 ys) x.1 x.2
    have h2 := dropB_len ys x.1
    have h3 := minusL_len xs (dropB x.1 ys)
    have h4 := Nat.mul_le_mul_left xs.length (Nat.add_le_add_right h2 1)
    rw [minusL, List.length_append, List.length_cons, Nat.succ_mul]
    omega
theorem IvBox.grown {w w' : World} {g : Nat} {lo hi : Int} {v : Value} (h : IvBox w g lo hi) (hg : w.grownBy w' v.ownBlock) (hne : v.ownBlock ≠ some g) : IvBox w' g lo hi :=
  (hg.block g h.lt (fun e => hne e.symm)).trans h
theorem IvBox.set0 {w : World} {g : Nat} {lo hi : Int} (h : IvBox w g lo hi) (lo' : Int) : IvBox (w.setCell ⟨g, 0, none⟩ (.int .i64 lo')) g lo' hi := by
  unfold IvBox at h ⊢
  simp [World.setCell, Array.getElem?_modify, h]
theorem Own.far {w : World} {base : Nat} {v : Value} {xs : List (Int × Int)} (h : Own w base v xs) (p : Addr) (u : Value) (hne : v.ownBlock ≠ some p.block) : Own (w.setCell p u) base v xs :=
  World.ownsRow.kept h (row := some p.block) ⟨rfl, rfl, rfl, by simp, fun k _ hk => Below.heap_setCell w p u k (fun e => hk (by rw [e]))⟩ (.inr hne)

set_option maxHeartbeats 1600000 in
theorem minus_any (A : Option Addr) (n c : Nat) (xs : List (Int × Int)) (A' : Option Addr) (n' c' : Nat) (ys : List (Int × Int)) (w : World) (h : Ivs w w.heap.size A n xs) (h' : Ivs w w.heap.size A' n' ys)
    (hc' : n' ≤ c') (hm' : c' ≤ 9223372036854775807) (hn : n ≤ 100000) (hn' : n' ≤ 100000) (hx : InR xs) (hy : InR ys) :
    Calls Try.prog 49 #[.slice A n c, .slice A' n' c'] w (OwnRet (minusL xs ys) w) := by
  have hlen := h.len
  have hlen' := h'.len
  have htot := minusL_len xs ys
  have htot2 : (minusL xs ys).length ≤ 100000 * 100001 := Nat.le_trans htot (Nat.mul_le_mul (by omega) (by omega))
  obtain ⟨ms, hms⟩ : ∃ ms, minusL xs ys = ms := ⟨_, rfl⟩
  rw [hms] at htot2
  clear htot
  go_enter Try.func49, Try.ntmps49
  go_wp2
  go_loopw [12, 1, 5] (fun i b v wr => ∃ (k : Nat) (A2 : Option Addr) (m2 c2 : Nat) (vs zs : List (Int × Int)), k ≤ n ∧ i = .int .i64 k ∧ b = .slice A2 m2 c2 ∧ m2 ≤ c2 ∧ c2 ≤ 9223372036854775807 ∧ Ivs w w.heap.size A2 m2 vs ∧ InR vs ∧
      Own wr w.heap.size v zs ∧ zs ++ minusL (xs.drop k) vs = ms ∧ Below w.heap.size w wr) (fun i _ _ _ => n - (intOf i).toNat)
  case atStart => exact ⟨0, A', n', c', ys, [], Nat.zero_le _, rfl, rfl, hc', hm', h', hy, Own.nil _ _, hms, Below.refl _ _⟩
  case round =>
    obtain ⟨k, A2, m2, c2, vs, zs, hk, rfl, rfl, k1, k2, hv, hvy, hown, heq, hbel⟩ := hrel
    by_cases hlt : k < n
    · obtain ⟨b1, o1, lo, hi, rfl, hB1, hx1, hc11, hc12⟩ := (h.below hbel).at_ hlt
      have ho := hx _ (List.mem_of_getElem? hx1)
      dsimp only at ho
      obtain ⟨q1, q2, q3, q4⟩ := ho
      rw [drop_at hx1, minusL] at heq
      have hszr := hbel.size
      have hltv := World.ownsRow.lt hown
      have hne0 : _ ≠ some wr.heap.size := fun e => absurd (hltv _ e).2 (Nat.lt_irrefl _)
      clear hx1
      have Heq := Lib.hid heq
      clear heq
      rename World => wo
      go_wp2
      go_loopw [1] (fun b w2 => ∃ (A3 : Option Addr) (m3 c3 : Nat) (ds : List (Int × Int)), b = .slice A3 m3 c3 ∧ m3 ≤ c3 ∧ c3 ≤ 9223372036854775807 ∧ Ivs w w.heap.size A3 m3 ds ∧ InR ds ∧ dropB lo ds = dropB lo vs ∧ IvBox w2 wo.heap.size lo hi ∧ Below wo.heap.size wo w2) (fun b _ => sliceLen b)
      case atStart => exact ⟨A2, m2, c2, vs, rfl, k1, k2, hv, hvy, rfl, IvBox.new _ _ _, below_new (Nat.le_refl _) _⟩
      case round =>
        obtain ⟨A3, m3, c3, ds, rfl, j1, j2, hd, hdy, hdd, hbox, hb2⟩ := hrel
        have hbelw := hbel.trans (hb2.mono hszr)
        have hd2 := hd.below hbelw
        have hdlen := hd.len
        obtain ⟨hs0, hs1, hf0, hf1⟩ := hbox.facts
        have hsz2 := hb2.size
        have hszw := hbelw.size
        go_upto_region 5 with fail
        go_cut [27] (fun s wx => s = .bool (hd1 lo ds) ∧ Below wr.heap.size wr wx)
        case first =>
          by_cases p1 : 0 < m3
          · obtain ⟨b2, o2, l2, h2, rfl, hB2, hx2, hc21, hc22⟩ := hd2.at_ (k := 0) p1
            simp only [Nat.zero_mul, Nat.add_zero] at hc21 hc22
            have p2 : (0 : Int) < (m3 : Int) := by omega
            have e1 : hd1 lo ds = decide (h2 < lo) := by
              cases ds with
              | nil => simp at hx2
              | cons u us => simp at hx2; subst hx2; rfl
            have E1 := Lib.hid e1
            clear e1 hx2
            by_cases p3 : h2 < lo
            · go_quiet (fail)
              go_wp2
              go_meet
              exact ⟨by rw [E1.out, decide_eq_true p3], below_drewN (Below.refl _ _) nq⟩
            · go_quiet (fail)
              go_wp2
              go_meet
              exact ⟨by rw [E1.out, decide_eq_false (by omega)], below_drewN (Below.refl _ _) nq⟩
          · have hm0 : m3 = 0 := by omega
            subst hm0
            have hdn : ds = [] := List.eq_nil_of_length_eq_zero hdlen
            subst hdn
            go_quiet (fail)
            go_wp2
            go_meet
            exact ⟨rfl, below_drewN (Below.refl _ _) nq⟩
        case rest =>
          obtain ⟨rfl, hb3⟩ := hcut
          have hbox3 := hbox.kept hb3
          have hb23 := hb2.trans (hb3.mono hsz2)
          clear hs0 hs1 hf0 hf1
          cases hh : hd1 lo ds
          · have hD : dropB lo vs = ds := by rw [← hdd, dropB_false hh]
            have heq2 : zs ++ (cutL lo hi ds ++ minusL (List.drop (k + 1) xs) ds) = ms := by rw [← hD]; exact Heq.out
            clear Heq hD hdd hh
            have Heq2 := Lib.hid heq2
            clear heq2
            have hown3 := (hown.kept hb23)
            have hbel3 := hbel.trans (hb23.mono hszr)
            go_wp2
            go_loopw [32, 5] (fun i v w3 => ∃ (j : Nat) (lo' : Int) (zs' : List (Int × Int)), j ≤ m3 ∧ i = .int .i64 j ∧ Own w3 w.heap.size v zs' ∧ v.ownBlock ≠ some wo.heap.size ∧ zs' ++ (cutL lo' hi (ds.drop j) ++ minusL (List.drop (k + 1) xs) ds) = ms ∧
                -1000000000000 ≤ lo' ∧ lo' ≤ 1000000000001 ∧ IvBox w3 wo.heap.size lo' hi ∧ Below w.heap.size w w3) (fun i _ _ => m3 - (intOf i).toNat)
            case atStart => exact ⟨0, lo, zs, Nat.zero_le _, rfl, hown3, hne0, Heq2.out, q1, by omega, hbox3, hbel3⟩
            case round =>
              obtain ⟨j, lo', zs', hj, rfl, hown4, hne4, heq4, t1, t2, hbox4, hbel4⟩ := hrel
              have hd4 := hd.below hbel4
              have hbs4 := hbel4.size
              obtain ⟨f0, f1, f2, f3⟩ := hbox4.facts
              have hlt4 := World.ownsRow.lt hown4
              have hbl4 := hbox4.lt
              have hle4 : zs'.length ≤ ms.length := by rw [← heq4]; simp
              by_cases hj2 : j < m3
              · obtain ⟨b2, o2, l2, h2, rfl, hB2, hx2, hc21, hc22⟩ := hd4.at_ hj2
                have ho2 := hdy _ (List.mem_of_getElem? hx2)
                dsimp only at ho2
                obtain ⟨s1, s2, s3, s4⟩ := ho2
                rw [drop_at hx2, cutL] at heq4
                have x2 : b2 < wr.heap.size := Nat.lt_of_lt_of_le hB2 hbs4
                have n1 : wo.heap.size ≠ wr.heap.size := Nat.ne_of_lt hbl4
                have n2 : wr.heap.size ≠ wo.heap.size := (Nat.ne_of_lt hbl4).symm
                have n3 : b2 ≠ wr.heap.size := Nat.ne_of_lt x2
                clear hx2
                by_cases hb : hi < l2
                · rw [if_pos hb] at heq4
                  by_cases hz : lo' ≤ hi
                  · rw [if_pos hz] at heq4
                    have Heq4 := Lib.hid heq4
                    clear heq4
                    go_wp2_with (at_builtin; refine wpList_append_ivs rfl (.tmp 65) (.tmp 67) rfl w.heap.size u5 zs' rfl ((hown4.alloc _).alloc _) ((wr.heap.size + 1) + 1) (some ⟨(wr.heap.size + 1), 0, none⟩) 1 1 [(lo', hi)] rfl (one_new _ _ _ _ (by simp) (by omega)) (by omega) (by simp; omega) ?_; intro v' w6 hown6 hg6 _)
                    go_roundw
                    case rel => exact ⟨k + 1, _, m3, c3, ds, zs' ++ [(lo', hi)], by omega, by go_num, rfl, j1, j2, hd, hdy, hown6, by have e := Heq4.out; simpa using e, below_grown ((hbel4.alloc hbs4 _).alloc (by simp; omega) _) hg6 (by simp; omega) (fun y hy => (hlt4 y hy).1)⟩
                    case measure => simp [intOf]; omega
                  · rw [if_neg hz] at heq4
                    have Heq4 := Lib.hid heq4
                    clear heq4
                    go_wp2
                    go_roundw
                    case rel => exact ⟨k + 1, _, m3, c3, ds, zs', by omega, by go_num, rfl, j1, j2, hd, hdy, (hown4.alloc _), by have e := Heq4.out; simpa using e, (hbel4.alloc hbs4 _)⟩
                    case measure => simp [intOf]; omega
                · rw [if_neg hb] at heq4
                  have hn5 : u5.ownBlock ≠ some wr.heap.size := fun e => absurd (hlt4 _ e).2 (Nat.lt_irrefl _)
                  by_cases ha : lo' < l2
                  · rw [if_pos ha] at heq4
                    have Heq4 := Lib.hid heq4
                    clear heq4
                    go_wp2_with (at_builtin; refine wpList_append_ivs rfl (.tmp 46) (.tmp 53) rfl w.heap.size u5 zs' rfl ((hown4.alloc _).alloc _) (wr.heap.size + 1 + 1) (some ⟨wr.heap.size + 1, 0, none⟩) 1 1 [(lo', l2 - 1)] rfl (one_new _ _ _ _ (by simp) (by omega)) (by omega) (by simp; omega) ?_; intro v' w6 hown6 hg6 hv6; have bx9 := ((IvBox.new wr l2 h2).alloc _).grown hg6 hn5; have bx7 := ((hbox4.alloc _).alloc _).grown hg6 hne4; obtain ⟨a0, a1, a2, a3⟩ := bx9.facts; obtain ⟨d0, d1, d2, d3⟩ := bx7.facts; have hb6 := below_grown ((hbel4.alloc hbs4 _).alloc (by simp; omega) _) hg6 (by simp; omega) (fun y hy => (hlt4 y hy).1))
                    have hne6 : _ ≠ some wo.heap.size := fun e => by
                      rcases hv6 with hv6 | hv6
                      · exact hne4 (hv6.symm.trans e)
                      · rw [hv6] at e
                        injection e with e
                        simp at e
                        omega
                    go_roundw
                    case rel => exact ⟨j + 1, h2 + 1, zs' ++ [(lo', l2 - 1)], by omega, by go_num, hown6.far _ _ hne6, hne6, by have e := Heq4.out; simpa using e, by omega, by omega, bx7.set0 _, hb6.setCell hszr _⟩
                    case measure => simp [intOf]; omega
                  · rw [if_neg ha] at heq4
                    have Heq4 := Lib.hid heq4
                    clear heq4
                    go_wp2
                    go_roundw
                    case rel => exact ⟨j + 1, h2 + 1, zs', by omega, by go_num, (hown4.far _ _ hne4).alloc _, hne4, by have e := Heq4.out; simpa using e, by omega, by omega, (hbox4.set0 _).alloc _, (hbel4.setCell hszr _).alloc (by first | omega | (simp; omega)) _⟩
                    case measure => simp [intOf]; omega
              · have hjm : ds.drop j = [] := List.drop_of_length_le (by omega)
                rw [hjm, cutL] at heq4
                by_cases hz : lo' ≤ hi
                · rw [if_pos hz] at heq4
                  have Heq4 := Lib.hid heq4
                  clear heq4
                  go_wp2_with (at_builtin; refine wpList_append_ivs rfl (.tmp 65) (.tmp 67) rfl w.heap.size u5 zs' rfl (hown4.alloc _) (wr.heap.size + 1) (some ⟨wr.heap.size, 0, none⟩) 1 1 [(lo', hi)] rfl (one_new _ _ _ _ (by simp) (by omega)) (by omega) (by simp; omega) ?_; intro v' w6 hown6 hg6 _)
                  go_roundw
                  case rel => exact ⟨k + 1, _, m3, c3, ds, zs' ++ [(lo', hi)], by omega, by go_num, rfl, j1, j2, hd, hdy, hown6, by have e := Heq4.out; simpa using e, below_grown (hbel4.alloc (by first | omega | (simp; omega)) _) hg6 (by simp; omega) (fun y hy => (hlt4 y hy).1)⟩
                  case measure => simp [intOf]; omega
                · rw [if_neg hz] at heq4
                  have Heq4 := Lib.hid heq4
                  clear heq4
                  go_wp2
                  go_roundw
                  case rel => exact ⟨k + 1, _, m3, c3, ds, zs', by omega, by go_num, rfl, j1, j2, hd, hdy, hown4, by have e := Heq4.out; simpa using e, hbel4⟩
                  case measure => simp [intOf]; omega
          · have hnn : 0 < m3 := by
              rcases Nat.eq_zero_or_pos m3 with h0 | h0
              · have hdn : ds = [] := List.eq_nil_of_length_eq_zero (by omega)
                subst hdn
                cases hh
              · exact h0
            obtain ⟨b2, o2, l2, h2, rfl, hB2, hx2, hc21, hc22⟩ := hd2.at_ (k := 0) hnn
            have r1 : (1 : Int) ≤ (m3 : Int) := by omega
            have r2 : (m3 : Int) ≤ (c3 : Int) := by omega
            clear hx2
            go_wp2
            go_roundw
            case rel => exact ⟨_, m3 - 1, c3 - 1, ds.drop 1, rfl, by omega, by omega, Ivs.cut1 hd hnn j1, fun x hx => hdy x (List.mem_of_mem_drop hx), by rw [← hdd, dropB_true hh], hbox3, hb23⟩
            case measure => simp [sliceLen]; omega
    · have hkn : k = n := by omega
      subst hkn
      have hzz : zs = ms := by
        rw [← heq, List.drop_of_length_le (by omega), minusL, List.append_nil]
      have Hzz := Lib.hid hzz
      clear hzz
      go_wp2
      go_ret
      exact ⟨_, rfl, by rw [hms, ← Hzz.out]; exact hown, hbel⟩
end Go.Proofs.Ytiebchfdbejfbaa
