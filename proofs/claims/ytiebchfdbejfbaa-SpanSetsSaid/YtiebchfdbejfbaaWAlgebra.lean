/- The walk of the statement SpanAlgebra, given that the sort sorts. -/
import Derived.Test.YtiebchfdbejfbaaSetCount
namespace Go.Proofs.Ytiebchfdbejfbaa
open Go.RowKit

theorem Own.back {w : World} {base : Nat} {v : Value} {xs : List (Int × Int)} {j : Nat} {x : Int × Int} (h : Own w base v ((xs.drop (j + 1)).reverse ++ [x])) (hx : xs[j]? = some x) : Own w base v (xs.drop j).reverse := by
  rw [drop_at hx, List.reverse_cons]; exact h

theorem same_self (zs : List (Int × Int)) : decide (zs = zs) = true := decide_eq_true rfl

set_option maxHeartbeats 3200000 in
set_option maxRecDepth 20000 in
theorem spanAlgebra_any (hsort : SortSaid) (A : Option Addr) (n c : Nat) (xs : List (Int × Int)) (A' : Option Addr) (n' c' : Nat) (ys : List (Int × Int)) (w : World) (h : Ivs w w.heap.size A n xs) (h' : Ivs w w.heap.size A' n' ys) :
    Calls Try.prog 9 #[.slice A n c, .slice A' n' c'] w fun e w' => e = .returned (.bool true) ∧ Below w.heap.size w w' := by
  have hlen := h.len
  have hlen' := h'.len
  by_cases hlt : (30 : Int) < (n : Int) ∨ (30 : Int) < (n' : Int)
  · rcases (show (30 : Int) < (n : Int) ∨ ((n : Int) ≤ 30 ∧ (30 : Int) < (n' : Int)) from by omega) with h1 | ⟨h1, h2⟩
    all_goals
      go_enter Try.func9, Try.ntmps9
      go_wp2_with fail
      refine (awake_any hsort _).mono ?_
      rintro e w1 ⟨rfl, hb⟩
      go_wp2
      go_ret
      exact ⟨rfl, hb⟩
  · have hle2 : (n : Int) ≤ 30 := by omega
    have hle3 : (n' : Int) ≤ 30 := by omega
    have hn : n ≤ 30 := by omega
    have hn' : n' ≤ 30 := by omega
    clear hlt
    obtain ⟨ee, he⟩ : ∃ ee, errAll (xs ++ ys) = ee := ⟨_, rfl⟩
    by_cases hz : ee = 0
    · subst hz
      have hv := val_of_ok he
      have hin := inR_of_ok he
      have hvx : Val xs := fun x hx => hv x (List.mem_append_left _ hx)
      have hvy : Val ys := fun x hx => hv x (List.mem_append_right _ hx)
      have hix : InR xs := fun x hx => hin x (List.mem_append_left _ hx)
      have hiy : InR ys := fun x hx => hin x (List.mem_append_right _ hx)
      have hex := errAll_of hvx hix
      have hey := errAll_of hvy hiy
      have nx := normL_nf hvx
      have ny := normL_nf hvy
      have rx := normL_inR hix
      have ry := normL_inR hiy
      have nu := normL_nf hv
      have ru := normL_inR hin
      have nm := (minusL_spec _ _ nx ny).1
      have rm := minusL_inR nx ny rx
      have nc := (commonL_spec _ _ nx ny).1
      have rc := commonL_inR nx ny rx
      have hmc : Val (minusL (normL xs) (normL ys) ++ commonL (normL xs) (normL ys)) := fun x hx => by
        rcases List.mem_append.1 hx with hx | hx
        · exact nm.1 x hx
        · exact nc.1 x hx
      have hmi : InR (minusL (normL xs) (normL ys) ++ commonL (normL xs) (normL ys)) := fun x hx => by
        rcases List.mem_append.1 hx with hx | hx
        · exact rm x hx
        · exact rc x hx
      have eb : errAll (minusL (normL xs) (normL ys) ++ commonL (normL xs) (normL ys)) = 0 := errAll_of hmc hmi
      have nb : normL (minusL (normL xs) (normL ys) ++ commonL (normL xs) (normL ys)) = normL xs := normL_of hmc nx fun k => by
        rw [mem_append, (minusL_spec _ _ nx ny).2.2 k, (commonL_spec _ _ nx ny).2.2 k]
        by_cases hk : Mem k (normL ys) <;> simp [hk]
      have ea : errAll (normL xs) = 0 := errAll_of nx.1 rx
      have na : normL (normL xs) = normL xs := normL_self nx
      have hvr : Val xs.reverse := fun x hx => hvx x (List.mem_reverse.1 hx)
      have er : errAll xs.reverse = 0 := errAll_of hvr fun x hx => hix x (List.mem_reverse.1 hx)
      have nr : normL xs.reverse = normL xs := normL_of hvr nx fun k => (mem_perm (List.reverse_perm xs)).trans (normL_mem hvx k).symm
      have hc1 : countV xs = .tuple #[.int .i64 (sumLen (normL xs)), .int .i64 0] := by unfold countV; rw [hex]; rfl
      have hc2 : countV ys = .tuple #[.int .i64 (sumLen (normL ys)), .int .i64 0] := by unfold countV; rw [hey]; rfl
      have hc3 : countV (commonL (normL xs) (normL ys)) = .tuple #[.int .i64 (sumLen (commonL (normL xs) (normL ys))), .int .i64 0] := by unfold countV; rw [errAll_of nc.1 rc, normL_self nc]; rfl
      have hc4 : countV (normL (xs ++ ys)) = .tuple #[.int .i64 (sumLen (normL (xs ++ ys))), .int .i64 0] := by unfold countV; rw [errAll_of nu.1 ru, normL_self nu]; rfl
      have hs := sumLen_incl nu nc nx ny ru rc rx ry
        (fun k => bool_ext (by rw [memB_iff, normL_mem hv, mem_append, Bool.or_eq_true, memB_iff, memB_iff, normL_mem hvx, normL_mem hvy]))
        (fun k => bool_ext (by rw [memB_iff, (commonL_spec _ _ nx ny).2.2 k, Bool.and_eq_true, memB_iff, memB_iff]))
      have l1 := normL_len xs
      have l2 := normL_len ys
      have l3 := commonL_len (normL xs) (normL ys)
      have l4 := normL_len (xs ++ ys)
      rw [List.length_append] at l4
      have l5 : (minusL (normL xs) (normL ys)).length ≤ 30 * 31 := Nat.le_trans (minusL_len _ _) (Nat.mul_le_mul (by omega) (by omega))
      have b1 := sumLen_bounds (normL xs)
      have b2 := sumLen_bounds (normL ys)
      have b3 := sumLen_bounds (commonL (normL xs) (normL ys))
      have He := Lib.hid he
      have Hex := Lib.hid hex
      clear he hv hin hvx hvy hix hiy hex hey nx ny rx ry nu ru nm rm nc rc hmc hmi hvr
      obtain ⟨ns, hns⟩ : ∃ z, normL xs = z := ⟨_, rfl⟩
      obtain ⟨bs, hbs⟩ : ∃ z, normL ys = z := ⟨_, rfl⟩
      obtain ⟨us, hus⟩ : ∃ z, normL (xs ++ ys) = z := ⟨_, rfl⟩
      rw [hns] at eb nb ea na nr hc1 hc3 hs l1 l3 l5 b1 b3
      rw [hbs] at eb nb hc2 hc3 hs l2 l3 l5 b2 b3
      rw [hus] at hc4 hs l4
      have hms : minusL (normL xs) (normL ys) = minusL ns bs := by rw [hns, hbs]
      have hcs : commonL (normL xs) (normL ys) = commonL ns bs := by rw [hns, hbs]
      generalize minusL ns bs = ms at eb nb hms l5
      generalize commonL ns bs = cs at eb nb hcs hc3 hs l3 b3
      generalize sumLen ns = p at hc1 hs b1
      generalize sumLen bs = q at hc2 hs b2
      generalize sumLen cs = r at hc3 hs b3
      generalize sumLen us = s at hc4 hs
      obtain ⟨p1, p2⟩ := b1
      obtain ⟨p3, p4⟩ := b2
      obtain ⟨p5, p6⟩ := b3
      have p7 : p ≤ 1000000000000000 := by omega
      have p8 : q ≤ 1000000000000000 := by omega
      have p9 : r ≤ 1000000000000000 := by omega
      have l6 : cs.length ≤ 60 := by omega
      have l7 : ns.length ≤ 30 := by omega
      have l8 : us.length ≤ 60 := by omega
      have l9 : xs.reverse.length = n := by rw [List.length_reverse]; exact hlen
      clear p2 p4 p6 l1 l2 l3 l4
      subst hs
      have Hns := Lib.hid hns
      have Hus := Lib.hid hus
      have Hms := Lib.hid hms
      have Hcs := Lib.hid hcs
      have Eb := Lib.hid eb
      have Nb := Lib.hid nb
      have Ea := Lib.hid ea
      have Na := Lib.hid na
      have Er := Lib.hid er
      have Nr := Lib.hid nr
      have C1 := Lib.hid hc1
      have C2 := Lib.hid hc2
      have C3 := Lib.hid hc3
      have C4 := Lib.hid hc4
      clear hns hbs hus hms hcs eb nb ea na er nr hc1 hc2 hc3 hc4
      go_enter Try.func9, Try.ntmps9
      go_wp2_with fail
      refine (awake_any hsort _).mono ?_
      rintro e w1 ⟨rfl, hb1⟩
      have acc1 := hb1
      have iA1 : Ivs w1 w1.heap.size A n xs := h.in_ hb1 hb1.size
      have iB1 : Ivs w1 w1.heap.size A' n' ys := h'.in_ hb1 hb1.size
      clear h h' hb1
      go_wp2_with fail
      refine (normalize_any hsort A n c xs w1 iA1 (by omega)).mono ?_
      rw [Hex.out, Hns.out, okSet_zero]
      rintro e w2 ⟨v0, rfl, hown0, hb2⟩
      have acc2 : Below w.heap.size w w2 := acc1.trans (hb2.mono acc1.size)
      have iA2 : Ivs w2 w2.heap.size A n xs := iA1.in_ hb2 hb2.size
      have iB2 : Ivs w2 w2.heap.size A' n' ys := iB1.in_ hb2 hb2.size
      clear iA1 iB1 acc1 hb2
      obtain ⟨A0, c0, rfl, iN2, kciN, kmiN⟩ := hown0.form_c rfl
      go_wp2_with fail
      refine (minus_set hsort A A' n c n' c' xs ys w2 iA2 iB2 (by omega) (by omega)).mono ?_
      rw [He.out, Hms.out, okSet_zero]
      rintro e w3 ⟨v1, rfl, hown1, hb3⟩
      have acc3 : Below w.heap.size w w3 := acc2.trans (hb3.mono acc2.size)
      have iA3 : Ivs w3 w3.heap.size A n xs := iA2.in_ hb3 hb3.size
      have iB3 : Ivs w3 w3.heap.size A' n' ys := iB2.in_ hb3 hb3.size
      have iN3 : Ivs w3 w3.heap.size A0 _ ns := iN2.in_ hb3 hb3.size
      clear iA2 iB2 iN2 acc2 hb3
      obtain ⟨A1, c1, rfl, iM3, kciM, kmiM⟩ := hown1.form_c rfl
      go_wp2_with fail
      refine (common_set hsort A A' n c n' c' xs ys w3 iA3 iB3 (by omega) (by omega)).mono ?_
      rw [He.out, Hcs.out, okSet_zero]
      rintro e w4 ⟨v2, rfl, hown2, hb4⟩
      have acc4 : Below w.heap.size w w4 := acc3.trans (hb4.mono acc3.size)
      have iA4 : Ivs w4 w4.heap.size A n xs := iA3.in_ hb4 hb4.size
      have iB4 : Ivs w4 w4.heap.size A' n' ys := iB3.in_ hb4 hb4.size
      have iN4 : Ivs w4 w4.heap.size A0 _ ns := iN3.in_ hb4 hb4.size
      have iM4 : Ivs w4 w4.heap.size A1 _ ms := iM3.in_ hb4 hb4.size
      clear iA3 iB3 iN3 iM3 acc3 hb4
      obtain ⟨A2, c2, rfl, iC4, kciC, kmiC⟩ := hown2.form_c rfl
      go_wp2_with fail
      refine (union_any hsort A A' n c n' c' xs ys w4 iA4 iB4 (by omega) (by omega)).mono ?_
      rw [He.out, Hus.out, okSet_zero]
      rintro e w5 ⟨v3, rfl, hown3, hb5⟩
      have acc5 : Below w.heap.size w w5 := acc4.trans (hb5.mono acc4.size)
      have iA5 : Ivs w5 w5.heap.size A n xs := iA4.in_ hb5 hb5.size
      have iB5 : Ivs w5 w5.heap.size A' n' ys := iB4.in_ hb5 hb5.size
      have iN5 : Ivs w5 w5.heap.size A0 _ ns := iN4.in_ hb5 hb5.size
      have iM5 : Ivs w5 w5.heap.size A1 _ ms := iM4.in_ hb5 hb5.size
      have iC5 : Ivs w5 w5.heap.size A2 _ cs := iC4.in_ hb5 hb5.size
      clear iA4 iB4 iN4 iM4 iC4 acc4 hb5
      obtain ⟨A3, c3, rfl, iU5, kciU, kmiU⟩ := hown3.form_c rfl
      go_wp2_with fail
      refine (union_any hsort A1 A2 _ c1 _ c2 ms cs w5 iM5 iC5 (by omega) (by omega)).mono ?_
      rw [Eb.out, Nb.out, okSet_zero]
      rintro e w6 ⟨v4, rfl, hown4, hb6⟩
      have acc6 : Below w.heap.size w w6 := acc5.trans (hb6.mono acc5.size)
      have iA6 : Ivs w6 w6.heap.size A n xs := iA5.in_ hb6 hb6.size
      have iB6 : Ivs w6 w6.heap.size A' n' ys := iB5.in_ hb6 hb6.size
      have iN6 : Ivs w6 w6.heap.size A0 _ ns := iN5.in_ hb6 hb6.size
      have iC6 : Ivs w6 w6.heap.size A2 _ cs := iC5.in_ hb6 hb6.size
      have iU6 : Ivs w6 w6.heap.size A3 _ us := iU5.in_ hb6 hb6.size
      clear iA5 iB5 iN5 iM5 iC5 iU5 acc5 hb6
      obtain ⟨A4, c4, rfl, iS6, kciS, kmiS⟩ := hown4.form_c rfl
      go_wp2_with fail
      refine (normalize_any hsort A0 _ c0 ns w6 iN6 (by omega)).mono ?_
      rw [Ea.out, Na.out, okSet_zero]
      rintro e w7 ⟨v5, rfl, hown5, hb7⟩
      have acc7 : Below w.heap.size w w7 := acc6.trans (hb7.mono acc6.size)
      have iA7 : Ivs w7 w7.heap.size A n xs := iA6.in_ hb7 hb7.size
      have iB7 : Ivs w7 w7.heap.size A' n' ys := iB6.in_ hb7 hb7.size
      have iN7 : Ivs w7 w7.heap.size A0 _ ns := iN6.in_ hb7 hb7.size
      have iC7 : Ivs w7 w7.heap.size A2 _ cs := iC6.in_ hb7 hb7.size
      have iU7 : Ivs w7 w7.heap.size A3 _ us := iU6.in_ hb7 hb7.size
      have iS7 : Ivs w7 w7.heap.size A4 _ ns := iS6.in_ hb7 hb7.size
      clear iA6 iB6 iN6 iC6 iU6 iS6 acc6 hb7
      obtain ⟨A5, c5, rfl, iT7, kciT, kmiT⟩ := hown5.form_c rfl
      go_wp2
      go_loopw [16, 15] (fun i v wr => ∃ k : Nat, k ≤ n ∧ i = .int .i64 ((k : Int) - 1) ∧ Own wr w7.heap.size v (xs.drop k).reverse ∧ Below w7.heap.size w7 wr) (fun i _ _ => (intOf i + 1).toNat)
      case atStart => exact ⟨n, Nat.le_refl _, rfl, by rw [List.drop_of_length_le (by omega)]; exact Own.made w7 _ rfl (Nat.le_refl _), below_new (Nat.le_refl _) _⟩
      case round =>
        obtain ⟨k, hk, hik, hown, hbel⟩ := hrel
        have hszr := hbel.size
        cases k with
        | succ j =>
          have hij : _ = Value.int .i64 (j : Int) := hik.trans (congrArg _ (by omega))
          subst hij
          clear hik
          obtain ⟨b, off, lo, hi, rfl, hbB, hx, hx1, hx2⟩ := (iA7.below hbel).at_ (show j < n from by omega)
          have hlt7 := World.ownsRow.lt hown
          have hlr : (xs.drop (j + 1)).reverse.length ≤ 30 := by simp; omega
          have Hx := Lib.hid hx
          clear hx
          have g0 : (0 : Int) ≤ (j : Int) := by omega
          have g1 : (j : Int) < (n : Int) := by omega
          go_wp2_with (at_builtin; refine wpList_append_ivs rfl (.tmp 91) (.tmp 96) rfl w7.heap.size u15 _ rfl (hown.alloc _) (wr.heap.size + 1) (some ⟨wr.heap.size, 0, none⟩) 1 1 [(lo, hi)] rfl (one_new _ _ _ _ rfl (by omega)) (by omega) (by simp; omega) ?_; intro v' w6 hown6 hg6 _)
          go_roundw
          case rel => exact ⟨j, by omega, by go_num, Own.back hown6 Hx.out, below_grown (hbel.alloc hszr _) hg6 (by simp; omega) (fun y hy => (hlt7 y hy).1)⟩
          case measure => simp [intOf]
        | zero =>
          have hij : _ = Value.int .i64 (-1) := hik
          subst hij
          clear hik
          rw [List.drop_zero] at hown
          obtain ⟨A6, c6, rfl, iR, kc6, km6⟩ := hown.form_c l9
          have accR : Below w.heap.size w wr := acc7.trans (hbel.mono acc7.size)
          have iAR : Ivs wr wr.heap.size A n xs := iA7.in_ hbel hbel.size
          have iBR : Ivs wr wr.heap.size A' n' ys := iB7.in_ hbel hbel.size
          have iNR : Ivs wr wr.heap.size A0 _ ns := iN7.in_ hbel hbel.size
          have iCR : Ivs wr wr.heap.size A2 _ cs := iC7.in_ hbel hbel.size
          have iUR : Ivs wr wr.heap.size A3 _ us := iU7.in_ hbel hbel.size
          have iSR : Ivs wr wr.heap.size A4 _ ns := iS7.in_ hbel hbel.size
          have iTR : Ivs wr wr.heap.size A5 _ ns := iT7.in_ hbel hbel.size
          clear iA7 iB7 iN7 iC7 iU7 iS7 iT7 acc7
          go_wp2_with fail
          refine (normalize_any hsort A6 n c6 xs.reverse wr iR (by omega)).mono ?_
          rw [Er.out, Nr.out, okSet_zero]
          rintro e w8 ⟨v6, rfl, hown7, hb8⟩
          have acc8 : Below w.heap.size w w8 := accR.trans (hb8.mono accR.size)
          have iA8 : Ivs w8 w8.heap.size A n xs := iAR.in_ hb8 hb8.size
          have iB8 : Ivs w8 w8.heap.size A' n' ys := iBR.in_ hb8 hb8.size
          have iN8 : Ivs w8 w8.heap.size A0 _ ns := iNR.in_ hb8 hb8.size
          have iC8 : Ivs w8 w8.heap.size A2 _ cs := iCR.in_ hb8 hb8.size
          have iU8 : Ivs w8 w8.heap.size A3 _ us := iUR.in_ hb8 hb8.size
          have iS8 : Ivs w8 w8.heap.size A4 _ ns := iSR.in_ hb8 hb8.size
          have iT8 : Ivs w8 w8.heap.size A5 _ ns := iTR.in_ hb8 hb8.size
          clear iAR iBR iNR iCR iUR iSR iTR iR accR hb8
          obtain ⟨A7, c7, rfl, iO8, kc7, km7⟩ := hown7.form_c rfl
          go_wp2_with fail
          refine (count_any hsort A n c xs w8 iA8 (by omega)).mono ?_
          rw [C1.out]
          rintro e w9 ⟨rfl, hb9⟩
          have acc9 : Below w.heap.size w w9 := acc8.trans (hb9.mono acc8.size)
          have iB9 : Ivs w9 w9.heap.size A' n' ys := iB8.in_ hb9 hb9.size
          have iN9 : Ivs w9 w9.heap.size A0 _ ns := iN8.in_ hb9 hb9.size
          have iC9 : Ivs w9 w9.heap.size A2 _ cs := iC8.in_ hb9 hb9.size
          have iU9 : Ivs w9 w9.heap.size A3 _ us := iU8.in_ hb9 hb9.size
          have iS9 : Ivs w9 w9.heap.size A4 _ ns := iS8.in_ hb9 hb9.size
          have iT9 : Ivs w9 w9.heap.size A5 _ ns := iT8.in_ hb9 hb9.size
          have iO9 : Ivs w9 w9.heap.size A7 _ ns := iO8.in_ hb9 hb9.size
          clear iA8 iB8 iN8 iC8 iU8 iS8 iT8 iO8 acc8 hb9
          go_wp2_with fail
          refine (count_any hsort A' n' c' ys w9 iB9 (by omega)).mono ?_
          rw [C2.out]
          rintro e w10 ⟨rfl, hb10⟩
          have acc10 : Below w.heap.size w w10 := acc9.trans (hb10.mono acc9.size)
          have iN10 : Ivs w10 w10.heap.size A0 _ ns := iN9.in_ hb10 hb10.size
          have iC10 : Ivs w10 w10.heap.size A2 _ cs := iC9.in_ hb10 hb10.size
          have iU10 : Ivs w10 w10.heap.size A3 _ us := iU9.in_ hb10 hb10.size
          have iS10 : Ivs w10 w10.heap.size A4 _ ns := iS9.in_ hb10 hb10.size
          have iT10 : Ivs w10 w10.heap.size A5 _ ns := iT9.in_ hb10 hb10.size
          have iO10 : Ivs w10 w10.heap.size A7 _ ns := iO9.in_ hb10 hb10.size
          clear iB9 iN9 iC9 iU9 iS9 iT9 iO9 acc9 hb10
          go_wp2_with fail
          refine (count_any hsort A2 _ c2 cs w10 iC10 (by omega)).mono ?_
          rw [C3.out]
          rintro e w11 ⟨rfl, hb11⟩
          have acc11 : Below w.heap.size w w11 := acc10.trans (hb11.mono acc10.size)
          have iN11 : Ivs w11 w11.heap.size A0 _ ns := iN10.in_ hb11 hb11.size
          have iU11 : Ivs w11 w11.heap.size A3 _ us := iU10.in_ hb11 hb11.size
          have iS11 : Ivs w11 w11.heap.size A4 _ ns := iS10.in_ hb11 hb11.size
          have iT11 : Ivs w11 w11.heap.size A5 _ ns := iT10.in_ hb11 hb11.size
          have iO11 : Ivs w11 w11.heap.size A7 _ ns := iO10.in_ hb11 hb11.size
          clear iN10 iC10 iU10 iS10 iT10 iO10 acc10 hb11
          go_wp2_with fail
          refine (count_any hsort A3 _ c3 us w11 iU11 (by omega)).mono ?_
          rw [C4.out]
          rintro e w12 ⟨rfl, hb12⟩
          have acc12 : Below w.heap.size w w12 := acc11.trans (hb12.mono acc11.size)
          have iN12 : Ivs w12 w12.heap.size A0 _ ns := iN11.in_ hb12 hb12.size
          have iS12 : Ivs w12 w12.heap.size A4 _ ns := iS11.in_ hb12 hb12.size
          have iT12 : Ivs w12 w12.heap.size A5 _ ns := iT11.in_ hb12 hb12.size
          have iO12 : Ivs w12 w12.heap.size A7 _ ns := iO11.in_ hb12 hb12.size
          clear iN11 iU11 iS11 iT11 iO11 acc11 hb12
          go_wp2_with fail
          refine (same_any A4 A0 _ c4 _ c0 ns ns w12 iS12 iN12 (by omega) (by omega)).mono ?_
          rw [same_self]
          rintro e w13 ⟨rfl, hb13⟩
          have acc13 : Below w.heap.size w w13 := acc12.trans (hb13.mono acc12.size)
          have iN13 : Ivs w13 w13.heap.size A0 _ ns := iN12.in_ hb13 hb13.size
          have iT13 : Ivs w13 w13.heap.size A5 _ ns := iT12.in_ hb13 hb13.size
          have iO13 : Ivs w13 w13.heap.size A7 _ ns := iO12.in_ hb13 hb13.size
          clear iN12 iS12 iT12 iO12 acc12 hb13
          go_wp2_with fail
          refine (same_any A5 A0 _ c5 _ c0 ns ns w13 iT13 iN13 (by omega) (by omega)).mono ?_
          rw [same_self]
          rintro e w14 ⟨rfl, hb14⟩
          have acc14 : Below w.heap.size w w14 := acc13.trans (hb14.mono acc13.size)
          have iN14 : Ivs w14 w14.heap.size A0 _ ns := iN13.in_ hb14 hb14.size
          have iO14 : Ivs w14 w14.heap.size A7 _ ns := iO13.in_ hb14 hb14.size
          clear iN13 iT13 iO13 acc13 hb14
          go_wp2_with fail
          refine (same_any A7 A0 _ c7 _ c0 ns ns w14 iO14 iN14 (by omega) (by omega)).mono ?_
          rw [same_self]
          rintro e w15 ⟨rfl, hb15⟩
          have acc15 : Below w.heap.size w w15 := acc14.trans (hb15.mono acc14.size)
          have iN15 : Ivs w15 w15.heap.size A0 _ ns := iN14.in_ hb15 hb15.size
          clear iN14 iO14 acc14 hb15
          go_wp2
          go_ret
          exact ⟨rfl, acc15⟩
    · have hne : (ee != 0) = true := by simp [hz]
      have He := Lib.hid he
      clear he hz
      obtain ⟨e1, he1⟩ : ∃ e1, errAll xs = e1 := ⟨_, rfl⟩
      have He1 := Lib.hid he1
      clear he1
      rcases (show (e1 != 0) = true ∨ e1 = 0 from by by_cases hh : e1 = 0 <;> simp [hh]) with hne1 | rfl
      all_goals
        go_enter Try.func9, Try.ntmps9
        go_wp2_with fail
        refine (awake_any hsort _).mono ?_
        rintro e w1 ⟨rfl, hb1⟩
        have acc1 := hb1
        have iA1 : Ivs w1 w1.heap.size A n xs := h.in_ hb1 hb1.size
        have iB1 : Ivs w1 w1.heap.size A' n' ys := h'.in_ hb1 hb1.size
        clear h h' hb1
        go_wp2_with fail
        refine (normalize_any hsort A n c xs w1 iA1 (by omega)).mono ?_
        rw [He1.out]
        rintro e w2 ⟨v0, rfl, hown0, hb2⟩
        have acc2 : Below w.heap.size w w2 := acc1.trans (hb2.mono acc1.size)
        have iA2 : Ivs w2 w2.heap.size A n xs := iA1.in_ hb2 hb2.size
        have iB2 : Ivs w2 w2.heap.size A' n' ys := iB1.in_ hb2 hb2.size
        clear iA1 iB1 acc1 hb2
        go_wp2_with fail
        refine (minus_set hsort A A' n c n' c' xs ys w2 iA2 iB2 (by omega) (by omega)).mono ?_
        rw [He.out]
        rintro e w3 ⟨v1, rfl, hown1, hb3⟩
        have acc3 : Below w.heap.size w w3 := acc2.trans (hb3.mono acc2.size)
        have iA3 : Ivs w3 w3.heap.size A n xs := iA2.in_ hb3 hb3.size
        have iB3 : Ivs w3 w3.heap.size A' n' ys := iB2.in_ hb3 hb3.size
        clear iA2 iB2 acc2 hb3
        go_wp2_with fail
        refine (common_set hsort A A' n c n' c' xs ys w3 iA3 iB3 (by omega) (by omega)).mono ?_
        rw [He.out]
        rintro e w4 ⟨v2, rfl, hown2, hb4⟩
        have acc4 : Below w.heap.size w w4 := acc3.trans (hb4.mono acc3.size)
        have iA4 : Ivs w4 w4.heap.size A n xs := iA3.in_ hb4 hb4.size
        have iB4 : Ivs w4 w4.heap.size A' n' ys := iB3.in_ hb4 hb4.size
        clear iA3 iB3 acc3 hb4
        go_wp2_with fail
        refine (union_any hsort A A' n c n' c' xs ys w4 iA4 iB4 (by omega) (by omega)).mono ?_
        rw [He.out]
        rintro e w5 ⟨v3, rfl, hown3, hb5⟩
        have acc5 : Below w.heap.size w w5 := acc4.trans (hb5.mono acc4.size)
        have iA5 : Ivs w5 w5.heap.size A n xs := iA4.in_ hb5 hb5.size
        have iB5 : Ivs w5 w5.heap.size A' n' ys := iB4.in_ hb5 hb5.size
        clear iA4 iB4 acc4 hb5
        go_wp2
        go_ret
        exact ⟨rfl, acc5⟩
end Go.Proofs.Ytiebchfdbejfbaa
