/- The reference's Set and Count. -/
import Derived.Test.YtiebchfdbejfbaaRefForm
namespace Go.Proofs.Ytiebchfdbejfbaa
open Go.RowKit
attribute [local go_sem ↓] Go.wp_at_zero Go.wp_at_succ

theorem set_any (kd : Int) (hkd : kd = 1 ∨ kd = 2 ∨ kd = 3) (A A' : Option Addr) (n c n' c' : Nat) (xs ys : List (Int × Int)) (w : World) (h : Ivs w w.heap.size A n xs) (h' : Ivs w w.heap.size A' n' ys) (hn : n ≤ 10000) (hn' : n' ≤ 10000) :
    Calls Try.prog 35 #[.slice A n c, .slice A' n' c', .int .i64 kd] w (SetRet (errAll (xs ++ ys)) (okSet (errAll (xs ++ ys)) (setL kd xs ys)) w) := by
  obtain ⟨ee, he⟩ : ∃ ee, errAll (xs ++ ys) = ee := ⟨_, rfl⟩
  rw [he]
  by_cases hz : ee = 0
  · subst hz
    have hv := Lib.hid (val_of_ok he)
    have hin := Lib.hid (inR_of_ok he)
    have He := Lib.hid he
    clear he
    rw [okSet_zero]
    go_enter Try.func35, Try.ntmps35
    go_wp2_with fail
    refine (lists_any A A' n c n' c' xs ys w h h' hn hn').mono ?_
    rw [He.out]
    rintro e w1 ⟨rfl, hb⟩
    go_wp2_with fail
    refine (form_any kd hkd A A' n c n' c' xs ys w1 (h.in_ hb hb.size) (h'.in_ hb hb.size) hn hn' hv.out hin.out).mono ?_
    rintro e w2 ⟨v, rfl, hown, hb2⟩
    go_wp2
    go_ret2
    exact ⟨_, rfl, hown.low hb.size, hb.trans (hb2.mono hb.size)⟩
  · have hne : (ee != 0) = true := by simp [hz]
    have e0 : okSet ee (setL kd xs ys) = [] := by simp [okSet, hz]
    rw [e0]
    have He := Lib.hid he
    clear he hz e0
    go_enter Try.func35, Try.ntmps35
    go_wp2_with fail
    refine (lists_any A A' n c n' c' xs ys w h h' hn hn').mono ?_
    rw [He.out]
    rintro e w1 ⟨rfl, hb⟩
    go_wp2
    go_ret2
    exact ⟨_, rfl, Own.nil _ _, hb⟩

theorem ref_count_any (A : Option Addr) (n c : Nat) (zs : List (Int × Int)) (w : World) (h : Ivs w w.heap.size A n zs) (hn : n ≤ 100000) (hf : NF zs) (hr : InR zs) :
    Calls Try.prog 37 #[.slice A n c] w fun e w' => e = .returned (.int .i64 (sumLen zs)) ∧ Below w.heap.size w w' := by
  have hlen := h.len
  have Hf := Lib.hid hf
  have Hr := Lib.hid hr
  clear hf hr
  go_enter Try.func37, Try.ntmps37
  go_wp2
  go_loopw [3, 4] (fun s i wr => ∃ k : Nat, k ≤ n ∧ i = .int .i64 k ∧ s = .int .i64 (sumLen (zs.take k)) ∧ Below w.heap.size w wr) (fun _ i _ => n - (intOf i).toNat)
  case atStart => exact ⟨0, Nat.zero_le _, rfl, rfl, Below.refl _ _⟩
  case round =>
    obtain ⟨k, hk, rfl, rfl, hbel⟩ := hrel
    by_cases hlt : k < n
    · obtain ⟨b, off, lo, hi, rfl, hbB, hx, hc1, hc2⟩ := (h.below hbel).at_ hlt
      have hle : lo ≤ hi := Hf.out.1 _ (List.mem_of_getElem? hx)
      have hin := Hr.out _ (List.mem_of_getElem? hx)
      have hll := lenOf_in hin hle
      dsimp only at hin hll
      obtain ⟨o1, o2, o3, o4⟩ := hin
      have e1 : sumLen (zs.take (k + 1)) = sumLen (zs.take k) + (hi - lo + 1) := by rw [take_next hx, sumLen_snoc, hll]
      have E1 := Lib.hid e1
      have s1 := sumLen_bounds (zs.take k)
      obtain ⟨s2, s3⟩ := s1
      have hlk : (zs.take k).length ≤ k := List.length_take_le _ _
      have s4 : sumLen (zs.take k) ≤ 1000000000000000000 := by omega
      clear hx e1 s3 hlk hll
      generalize sumLen (zs.take k) = t at s2 s4 E1
      have g0 : (0 : Int) ≤ (k : Int) := by omega
      have g1 : (k : Int) < (n : Int) := by omega
      have w1 : IntKind.i64.wrap (hi - lo) = hi - lo := IntWalk.i64_in _ (by omega)
      have w2 : IntKind.i64.wrap (hi - lo + 1) = hi - lo + 1 := IntWalk.i64_in _ (by omega)
      have w3 : IntKind.i64.wrap (t + (hi - lo + 1)) = t + (hi - lo + 1) := IntWalk.i64_in _ (by omega)
      go_wp2
      go_quiet (fail)
      go_wp2
      go_roundw
      case rel => exact ⟨k + 1, by omega, by go_num, by rw [E1.out], below_drewN hbel nq⟩
      case measure => simp [intOf]; omega
    · have hyk : zs.take k = zs := List.take_of_length_le (by omega)
      rw [hyk]
      go_wp2
      go_ret
      exact ⟨rfl, hbel⟩
end Go.Proofs.Ytiebchfdbejfbaa
