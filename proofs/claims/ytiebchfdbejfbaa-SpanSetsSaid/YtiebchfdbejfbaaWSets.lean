/- The walk of the statement SpanSets, given that the sort sorts. -/
import Derived.Test.YtiebchfdbejfbaaRefSet
import Derived.Test.YtiebchfdbejfbaaWAlgebra
namespace Go.Proofs.Ytiebchfdbejfbaa
open Go.RowKit

theorem okSet_len (er : Int) (zs : List (Int × Int)) : (okSet er zs).length ≤ zs.length := by unfold okSet; split <;> simp
theorem count_ok (xs : List (Int × Int)) : countV xs = .tuple #[.int .i64 (sumLen (okSet (errAll xs) (normL xs))), .int .i64 (errAll xs)] ∧ NF (okSet (errAll xs) (normL xs)) ∧ InR (okSet (errAll xs) (normL xs)) := by
  unfold countV okSet
  by_cases h : errAll xs = 0
  · rw [if_pos h, if_pos h]
    exact ⟨rfl, normL_nf (val_of_ok h), normL_inR (inR_of_ok h)⟩
  · rw [if_neg h, if_neg h]
    exact ⟨rfl, nf_nil, fun x hx => by cases hx⟩

set_option maxHeartbeats 3200000 in
set_option maxRecDepth 20000 in
theorem spanSets_any (hsort : SortSaid) (A : Option Addr) (n c : Nat) (xs : List (Int × Int)) (A' : Option Addr) (n' c' : Nat) (ys : List (Int × Int)) (w : World) (h : Ivs w w.heap.size A n xs) (h' : Ivs w w.heap.size A' n' ys) :
    Calls Try.prog 7 #[.slice A n c, .slice A' n' c'] w fun e w' => e = .returned (.bool true) ∧ Below w.heap.size w w' := by
  have hlen := h.len
  have hlen' := h'.len
  by_cases hlt : (30 : Int) < (n : Int) ∨ (30 : Int) < (n' : Int)
  · rcases (show (30 : Int) < (n : Int) ∨ ((n : Int) ≤ 30 ∧ (30 : Int) < (n' : Int)) from by omega) with h1 | ⟨h1, h2⟩
    all_goals
      go_enter Try.func7, Try.ntmps7
      go_wp2_with fail
      refine (awake_any hsort _).mono ?_
      rintro e w1 ⟨rfl, hb⟩
      go_wp2
      go_ret
      exact ⟨rfl, hb⟩
  · have hle2 : (n : Int) ≤ 30 := by omega
    have hle3 : (n' : Int) ≤ 30 := by omega
    have hn : n ≤ 30 := by omega
    have hn' : n' ≤ 30 := by omega
    clear hlt
    obtain ⟨hc, hf, hi⟩ := count_ok xs
    have l1 := Nat.le_trans (okSet_len (errAll xs) (normL xs)) (normL_len xs)
    have l2 := Nat.le_trans (okSet_len (errAll (xs ++ ys)) (normL (xs ++ ys))) (normL_len (xs ++ ys))
    have l3 : (minusL (normL xs) (normL ys)).length ≤ 30 * 31 := Nat.le_trans (minusL_len _ _) (Nat.mul_le_mul (by have := normL_len xs; omega) (by have := normL_len ys; omega))
    have l4 := Nat.le_trans (okSet_len (errAll (xs ++ ys)) (minusL (normL xs) (normL ys))) l3
    have l5 := Nat.le_trans (okSet_len (errAll (xs ++ ys)) (commonL (normL xs) (normL ys))) (commonL_len (normL xs) (normL ys))
    have l6 := normL_len xs
    have l7 := normL_len ys
    rw [List.length_append] at l2
    have s0 : setL 1 xs [] = normL xs := by unfold setL; rw [if_pos rfl, List.append_nil]
    have s1 : setL 1 xs ys = normL (xs ++ ys) := by unfold setL; rw [if_pos rfl]
    have s2 : setL 2 xs ys = minusL (normL xs) (normL ys) := by unfold setL; rw [if_neg (by decide), if_pos rfl]
    have s3 : setL 3 xs ys = commonL (normL xs) (normL ys) := by unfold setL; rw [if_neg (by decide), if_neg (by decide)]
    obtain ⟨ex, hex⟩ : ∃ z, errAll xs = z := ⟨_, rfl⟩
    obtain ⟨ee, hee⟩ : ∃ z, errAll (xs ++ ys) = z := ⟨_, rfl⟩
    rw [hex] at hc hf hi l1
    rw [hee] at l2 l4 l5
    obtain ⟨ns, hns⟩ : ∃ z, okSet ex (normL xs) = z := ⟨_, rfl⟩
    obtain ⟨us, hus⟩ : ∃ z, okSet ee (normL (xs ++ ys)) = z := ⟨_, rfl⟩
    obtain ⟨ms, hms⟩ : ∃ z, okSet ee (minusL (normL xs) (normL ys)) = z := ⟨_, rfl⟩
    obtain ⟨cs, hcs⟩ : ∃ z, okSet ee (commonL (normL xs) (normL ys)) = z := ⟨_, rfl⟩
    rw [hns] at hc hf hi l1
    rw [hus] at l2
    rw [hms] at l4
    rw [hcs] at l5
    have b1 : ns.length ≤ 1000 := by omega
    have b2 : us.length ≤ 1000 := by omega
    have b3 : ms.length ≤ 1000 := by omega
    have b4 : cs.length ≤ 1000 := by omega
    have Hc := Lib.hid hc
    have Hf := Lib.hid hf
    have Hi := Lib.hid hi
    have S0 := Lib.hid s0
    have S1 := Lib.hid s1
    have S2 := Lib.hid s2
    have S3 := Lib.hid s3
    have Hex := Lib.hid hex
    have Hee := Lib.hid hee
    have Hns := Lib.hid hns
    have Hus := Lib.hid hus
    have Hms := Lib.hid hms
    have Hcs := Lib.hid hcs
    clear hc hf hi s0 s1 s2 s3 hex hee hns hus hms hcs l1 l2 l3 l4 l5 l6 l7
    go_enter Try.func7, Try.ntmps7
    go_wp2_with fail
    refine (awake_any hsort _).mono ?_
    rintro e w1 ⟨rfl, hb1⟩
    have acc1 := hb1
    have iA1 : Ivs w1 w1.heap.size A n xs := h.in_ hb1 hb1.size
    have iB1 : Ivs w1 w1.heap.size A' n' ys := h'.in_ hb1 hb1.size
    clear h h' hb1
    go_wp2_with fail
    refine (normalize_any hsort A n c xs w1 iA1 (by omega)).mono ?_
    rw [Hex.out, Hns.out]
    rintro e w2 ⟨v0, rfl, hown0, hb2⟩
    have acc2 : Below w.heap.size w w2 := acc1.trans (hb2.mono acc1.size)
    have iA2 : Ivs w2 w2.heap.size A n xs := iA1.in_ hb2 hb2.size
    have iB2 : Ivs w2 w2.heap.size A' n' ys := iB1.in_ hb2 hb2.size
    clear iA1 iB1 acc1 hb2
    obtain ⟨A0, c0, rfl, iN2, kciN, kmiN⟩ := hown0.form_c rfl
    go_wp2_with fail
    refine (union_any hsort A A' n c n' c' xs ys w2 iA2 iB2 (by omega) (by omega)).mono ?_
    rw [Hee.out, Hus.out]
    rintro e w3 ⟨v1, rfl, hown1, hb3⟩
    have acc3 : Below w.heap.size w w3 := acc2.trans (hb3.mono acc2.size)
    have iA3 : Ivs w3 w3.heap.size A n xs := iA2.in_ hb3 hb3.size
    have iB3 : Ivs w3 w3.heap.size A' n' ys := iB2.in_ hb3 hb3.size
    have iN3 : Ivs w3 w3.heap.size A0 _ ns := iN2.in_ hb3 hb3.size
    clear iA2 iB2 iN2 acc2 hb3
    obtain ⟨A1, c1, rfl, iU3, kciU, kmiU⟩ := hown1.form_c rfl
    go_wp2_with fail
    refine (minus_set hsort A A' n c n' c' xs ys w3 iA3 iB3 (by omega) (by omega)).mono ?_
    rw [Hee.out, Hms.out]
    rintro e w4 ⟨v2, rfl, hown2, hb4⟩
    have acc4 : Below w.heap.size w w4 := acc3.trans (hb4.mono acc3.size)
    have iA4 : Ivs w4 w4.heap.size A n xs := iA3.in_ hb4 hb4.size
    have iB4 : Ivs w4 w4.heap.size A' n' ys := iB3.in_ hb4 hb4.size
    have iN4 : Ivs w4 w4.heap.size A0 _ ns := iN3.in_ hb4 hb4.size
    have iU4 : Ivs w4 w4.heap.size A1 _ us := iU3.in_ hb4 hb4.size
    clear iA3 iB3 iN3 iU3 acc3 hb4
    obtain ⟨A2, c2, rfl, iM4, kciM, kmiM⟩ := hown2.form_c rfl
    go_wp2_with fail
    refine (common_set hsort A A' n c n' c' xs ys w4 iA4 iB4 (by omega) (by omega)).mono ?_
    rw [Hee.out, Hcs.out]
    rintro e w5 ⟨v3, rfl, hown3, hb5⟩
    have acc5 : Below w.heap.size w w5 := acc4.trans (hb5.mono acc4.size)
    have iA5 : Ivs w5 w5.heap.size A n xs := iA4.in_ hb5 hb5.size
    have iB5 : Ivs w5 w5.heap.size A' n' ys := iB4.in_ hb5 hb5.size
    have iN5 : Ivs w5 w5.heap.size A0 _ ns := iN4.in_ hb5 hb5.size
    have iU5 : Ivs w5 w5.heap.size A1 _ us := iU4.in_ hb5 hb5.size
    have iM5 : Ivs w5 w5.heap.size A2 _ ms := iM4.in_ hb5 hb5.size
    clear iA4 iB4 iN4 iU4 iM4 acc4 hb5
    obtain ⟨A3, c3, rfl, iC5, kciC, kmiC⟩ := hown3.form_c rfl
    go_wp2_with fail
    refine (count_any hsort A n c xs w5 iA5 (by omega)).mono ?_
    rw [Hc.out]
    rintro e w6 ⟨rfl, hb6⟩
    have acc6 : Below w.heap.size w w6 := acc5.trans (hb6.mono acc5.size)
    have iA6 : Ivs w6 w6.heap.size A n xs := iA5.in_ hb6 hb6.size
    have iB6 : Ivs w6 w6.heap.size A' n' ys := iB5.in_ hb6 hb6.size
    have iN6 : Ivs w6 w6.heap.size A0 _ ns := iN5.in_ hb6 hb6.size
    have iU6 : Ivs w6 w6.heap.size A1 _ us := iU5.in_ hb6 hb6.size
    have iM6 : Ivs w6 w6.heap.size A2 _ ms := iM5.in_ hb6 hb6.size
    have iC6 : Ivs w6 w6.heap.size A3 _ cs := iC5.in_ hb6 hb6.size
    clear iA5 iB5 iN5 iU5 iM5 iC5 acc5 hb6
    go_wp2_with fail
    refine (set_any 1 (.inl rfl) A none n c 0 0 xs [] w6 iA6 Ivs.nil (by omega) (by omega)).mono ?_
    rw [List.append_nil, S0.out, Hex.out, Hns.out]
    rintro e w7 ⟨v4, rfl, hown4, hb7⟩
    have acc7 : Below w.heap.size w w7 := acc6.trans (hb7.mono acc6.size)
    have iA7 : Ivs w7 w7.heap.size A n xs := iA6.in_ hb7 hb7.size
    have iB7 : Ivs w7 w7.heap.size A' n' ys := iB6.in_ hb7 hb7.size
    have iN7 : Ivs w7 w7.heap.size A0 _ ns := iN6.in_ hb7 hb7.size
    have iU7 : Ivs w7 w7.heap.size A1 _ us := iU6.in_ hb7 hb7.size
    have iM7 : Ivs w7 w7.heap.size A2 _ ms := iM6.in_ hb7 hb7.size
    have iC7 : Ivs w7 w7.heap.size A3 _ cs := iC6.in_ hb7 hb7.size
    clear iA6 iB6 iN6 iU6 iM6 iC6 acc6 hb7
    obtain ⟨A4, c4, rfl, iX7, kciX, kmiX⟩ := hown4.form_c rfl
    go_wp2_with fail
    refine (set_any 1 (.inl rfl) A A' n c n' c' xs ys w7 iA7 iB7 (by omega) (by omega)).mono ?_
    rw [S1.out, Hee.out, Hus.out]
    rintro e w8 ⟨v5, rfl, hown5, hb8⟩
    have acc8 : Below w.heap.size w w8 := acc7.trans (hb8.mono acc7.size)
    have iA8 : Ivs w8 w8.heap.size A n xs := iA7.in_ hb8 hb8.size
    have iB8 : Ivs w8 w8.heap.size A' n' ys := iB7.in_ hb8 hb8.size
    have iN8 : Ivs w8 w8.heap.size A0 _ ns := iN7.in_ hb8 hb8.size
    have iU8 : Ivs w8 w8.heap.size A1 _ us := iU7.in_ hb8 hb8.size
    have iM8 : Ivs w8 w8.heap.size A2 _ ms := iM7.in_ hb8 hb8.size
    have iC8 : Ivs w8 w8.heap.size A3 _ cs := iC7.in_ hb8 hb8.size
    have iX8 : Ivs w8 w8.heap.size A4 _ ns := iX7.in_ hb8 hb8.size
    clear iA7 iB7 iN7 iU7 iM7 iC7 iX7 acc7 hb8
    obtain ⟨A5, c5, rfl, iY8, kciY, kmiY⟩ := hown5.form_c rfl
    go_wp2_with fail
    refine (set_any 2 (.inr (.inl rfl)) A A' n c n' c' xs ys w8 iA8 iB8 (by omega) (by omega)).mono ?_
    rw [S2.out, Hee.out, Hms.out]
    rintro e w9 ⟨v6, rfl, hown6, hb9⟩
    have acc9 : Below w.heap.size w w9 := acc8.trans (hb9.mono acc8.size)
    have iA9 : Ivs w9 w9.heap.size A n xs := iA8.in_ hb9 hb9.size
    have iB9 : Ivs w9 w9.heap.size A' n' ys := iB8.in_ hb9 hb9.size
    have iN9 : Ivs w9 w9.heap.size A0 _ ns := iN8.in_ hb9 hb9.size
    have iU9 : Ivs w9 w9.heap.size A1 _ us := iU8.in_ hb9 hb9.size
    have iM9 : Ivs w9 w9.heap.size A2 _ ms := iM8.in_ hb9 hb9.size
    have iC9 : Ivs w9 w9.heap.size A3 _ cs := iC8.in_ hb9 hb9.size
    have iX9 : Ivs w9 w9.heap.size A4 _ ns := iX8.in_ hb9 hb9.size
    have iY9 : Ivs w9 w9.heap.size A5 _ us := iY8.in_ hb9 hb9.size
    clear iA8 iB8 iN8 iU8 iM8 iC8 iX8 iY8 acc8 hb9
    obtain ⟨A6, c6, rfl, iZ9, kciZ, kmiZ⟩ := hown6.form_c rfl
    go_wp2_with fail
    refine (set_any 3 (.inr (.inr rfl)) A A' n c n' c' xs ys w9 iA9 iB9 (by omega) (by omega)).mono ?_
    rw [S3.out, Hee.out, Hcs.out]
    rintro e w10 ⟨v7, rfl, hown7, hb10⟩
    have acc10 : Below w.heap.size w w10 := acc9.trans (hb10.mono acc9.size)
    have iA10 : Ivs w10 w10.heap.size A n xs := iA9.in_ hb10 hb10.size
    have iB10 : Ivs w10 w10.heap.size A' n' ys := iB9.in_ hb10 hb10.size
    have iN10 : Ivs w10 w10.heap.size A0 _ ns := iN9.in_ hb10 hb10.size
    have iU10 : Ivs w10 w10.heap.size A1 _ us := iU9.in_ hb10 hb10.size
    have iM10 : Ivs w10 w10.heap.size A2 _ ms := iM9.in_ hb10 hb10.size
    have iC10 : Ivs w10 w10.heap.size A3 _ cs := iC9.in_ hb10 hb10.size
    have iX10 : Ivs w10 w10.heap.size A4 _ ns := iX9.in_ hb10 hb10.size
    have iY10 : Ivs w10 w10.heap.size A5 _ us := iY9.in_ hb10 hb10.size
    have iZ10 : Ivs w10 w10.heap.size A6 _ ms := iZ9.in_ hb10 hb10.size
    clear iA9 iB9 iN9 iU9 iM9 iC9 iX9 iY9 iZ9 acc9 hb10
    obtain ⟨A7, c7, rfl, iV10, kciV, kmiV⟩ := hown7.form_c rfl
    go_wp2_with fail
    refine (same_any A0 A4 _ c0 _ c4 ns ns w10 iN10 iX10 (by omega) (by omega)).mono ?_
    rw [same_self]
    rintro e w11 ⟨rfl, hb11⟩
    have acc11 : Below w.heap.size w w11 := acc10.trans (hb11.mono acc10.size)
    have iU11 : Ivs w11 w11.heap.size A1 _ us := iU10.in_ hb11 hb11.size
    have iM11 : Ivs w11 w11.heap.size A2 _ ms := iM10.in_ hb11 hb11.size
    have iC11 : Ivs w11 w11.heap.size A3 _ cs := iC10.in_ hb11 hb11.size
    have iX11 : Ivs w11 w11.heap.size A4 _ ns := iX10.in_ hb11 hb11.size
    have iY11 : Ivs w11 w11.heap.size A5 _ us := iY10.in_ hb11 hb11.size
    have iZ11 : Ivs w11 w11.heap.size A6 _ ms := iZ10.in_ hb11 hb11.size
    have iV11 : Ivs w11 w11.heap.size A7 _ cs := iV10.in_ hb11 hb11.size
    clear iA10 iB10 iN10 iU10 iM10 iC10 iX10 iY10 iZ10 iV10 acc10 hb11
    go_wp2_with fail
    refine (same_any A1 A5 _ c1 _ c5 us us w11 iU11 iY11 (by omega) (by omega)).mono ?_
    rw [same_self]
    rintro e w12 ⟨rfl, hb12⟩
    have acc12 : Below w.heap.size w w12 := acc11.trans (hb12.mono acc11.size)
    have iM12 : Ivs w12 w12.heap.size A2 _ ms := iM11.in_ hb12 hb12.size
    have iC12 : Ivs w12 w12.heap.size A3 _ cs := iC11.in_ hb12 hb12.size
    have iX12 : Ivs w12 w12.heap.size A4 _ ns := iX11.in_ hb12 hb12.size
    have iZ12 : Ivs w12 w12.heap.size A6 _ ms := iZ11.in_ hb12 hb12.size
    have iV12 : Ivs w12 w12.heap.size A7 _ cs := iV11.in_ hb12 hb12.size
    clear iU11 iM11 iC11 iX11 iY11 iZ11 iV11 acc11 hb12
    go_wp2_with fail
    refine (same_any A2 A6 _ c2 _ c6 ms ms w12 iM12 iZ12 (by omega) (by omega)).mono ?_
    rw [same_self]
    rintro e w13 ⟨rfl, hb13⟩
    have acc13 : Below w.heap.size w w13 := acc12.trans (hb13.mono acc12.size)
    have iC13 : Ivs w13 w13.heap.size A3 _ cs := iC12.in_ hb13 hb13.size
    have iX13 : Ivs w13 w13.heap.size A4 _ ns := iX12.in_ hb13 hb13.size
    have iV13 : Ivs w13 w13.heap.size A7 _ cs := iV12.in_ hb13 hb13.size
    clear iM12 iC12 iX12 iZ12 iV12 acc12 hb13
    go_wp2_with fail
    refine (same_any A3 A7 _ c3 _ c7 cs cs w13 iC13 iV13 (by omega) (by omega)).mono ?_
    rw [same_self]
    rintro e w14 ⟨rfl, hb14⟩
    have acc14 : Below w.heap.size w w14 := acc13.trans (hb14.mono acc13.size)
    have iX14 : Ivs w14 w14.heap.size A4 _ ns := iX13.in_ hb14 hb14.size
    clear iC13 iX13 iV13 acc13 hb14
    go_wp2_with fail
    refine (ref_count_any A4 _ c4 ns w14 iX14 (by omega) Hf.out Hi.out).mono ?_
    rintro e w15 ⟨rfl, hb15⟩
    have acc15 : Below w.heap.size w w15 := acc14.trans (hb15.mono acc14.size)
    clear iX14 acc14 hb15
    go_wp2
    go_ret
    exact ⟨rfl, acc15⟩
end Go.Proofs.Ytiebchfdbejfbaa
