/- The reference of layer 1: Lists, Sum, Add, Sub, Intersect, Hull. -/
import Derived.Test.YtiebchfdbejfbaaAppends
import Derived.RegionTactic
import Derived.BigRegion
namespace Go.Proofs.Ytiebchfdbejfbaa
open Go.RowKit

theorem lists_any (A A' : Option Addr) (n c n' c' : Nat) (xs ys : List (Int × Int)) (w : World) (h : Ivs w w.heap.size A n xs) (h' : Ivs w w.heap.size A' n' ys) (hn : n ≤ 10000) (hn' : n' ≤ 10000) :
    Calls Try.prog 29 #[.slice A n c, .slice A' n' c'] w fun e w' => e = .returned (.int .i64 (errAll (xs ++ ys))) ∧ Below w.heap.size w w' := by
  have hl := h.len
  have hl' := h'.len
  go_enter Try.func29, Try.ntmps29
  go_wp2_with (first
    | (at_builtin; refine wpList_append_ivs rfl (.tmp 13) (.tmp 14) rfl w.heap.size (.slice (some ⟨w.heap.size, 0, none⟩) 0 0) [] rfl (Own.made w _ rfl (Nat.le_refl _)) _ A n c xs rfl (h.in_ (below_new (Nat.le_refl _) _) (Nat.le_refl _)) (by simp; omega) (by simp) ?_; intro v1 w1 hown1 hg1 _; rw [List.nil_append] at hown1; have hb1 : Below w.heap.size w w1 := below_grown (below_new (Nat.le_refl _) _) hg1 (by simp) (by intro k hk; simp [Value.ownBlock] at hk; omega); obtain ⟨A1, c1, rfl, hi1, hlt1⟩ := hown1.form_n hl)
    | (at_builtin; refine wpList_append_ivs rfl (.tmp 15) (.tmp 16) rfl w.heap.size (.slice A1 n c1) xs rfl hown1 _ A' n' c' ys rfl (h'.below hb1) (by omega) hb1.size ?_; intro v2 w2 hown2 hg2 _; have hb2 : Below w.heap.size w w2 := below_grown hb1 hg2 hb1.size (fun k hk => (hlt1 k hk).1); obtain ⟨A2, c2, rfl, hi2, _⟩ := hown2.form_n (n := n + n') (by simp; omega))
    | (go_at_call 41; refine (all_any _ _ _ (xs ++ ys) _ hi2 (by omega)).mono ?_; rintro e w3 ⟨rfl, hb3⟩))
  go_ret
  exact ⟨rfl, hb2.trans (hb3.mono hb2.size)⟩
theorem ref_sum_any (A : Option Addr) (n c : Nat) (xs : List (Int × Int)) (w : World) (h : Ivs w w.heap.size A n xs) (hn : n ≤ 10000) :
    Calls Try.prog 28 #[.slice A n c] w fun e w' => e = .returned (totV xs) ∧ Below w.heap.size w w' := by
  by_cases hz : errAll xs = 0
  · have hall := errAll_zero hz
    have hbd := sum_bounds xs hall
    have hlen := h.len
    obtain ⟨a, b, e0, he⟩ := resV_form (sumLo xs) (sumHi xs)
    have e1 : totV xs = pairV a b e0 := by unfold totV; rw [if_pos hz, he]
    rw [e1]; clear e1
    have He := Lib.hid he
    clear he
    have Hz := Lib.hid hz
    have Hall := Lib.hid hall
    clear hz hall
    go_enter Try.func28, Try.ntmps28
    go_wp2_with fail
    refine (lists_any A none n c 0 0 xs [] _ (h.in_ (below_new (Nat.le_refl _) _) (by simp)) Ivs.nil hn (by omega)).mono ?_
    rw [List.append_nil, Hz.out]
    rintro e w1 ⟨rfl, hb⟩
    have hzs := hb.size
    simp at hzs
    have hbw : Below w.heap.size w w1 := (below_new (Nat.le_refl _) _).trans (hb.mono (by simp))
    have hres : IvBox w1 w.heap.size 0 0 := (IvBox.new w 0 0).below hb (by simp)
    go_wp2
    go_loopw [6] (fun i wr => ∃ k : Nat, k ≤ n ∧ i = .int .i64 k ∧ IvBox wr w1.heap.size (sumLo (xs.take k)) (sumHi (xs.take k)) ∧ Below w1.heap.size w1 wr) (fun i _ => n - (intOf i).toNat)
    case atStart => exact ⟨0, Nat.zero_le _, rfl, IvBox.new _ _ _, below_new (Nat.le_refl _) _⟩
    case round =>
      obtain ⟨k, hk, rfl, hbox, hbel⟩ := hrel
      have hlt1 := hbox.lt
      by_cases hlt : k < n
      · obtain ⟨b', off, lo, hi, rfl, hbB, hx, hc1, hc2⟩ := ((h.below hbw).below (hbel.mono hbw.size)).at_ hlt
        have htk := take_next hx
        have ho := outB_false (Hall.out _ (List.mem_of_getElem? hx)).1
        dsimp only at ho
        obtain ⟨o1, o2, o3, o4⟩ := ho
        have hbk := sum_bounds (xs.take k) (fun x hx => Hall.out x (List.mem_of_mem_take hx))
        rw [List.length_take] at hbk
        have e1 : sumLo (xs.take (k + 1)) = sumLo (xs.take k) + lo := by rw [htk, sumLo_snoc]
        have e2 : sumHi (xs.take (k + 1)) = sumHi (xs.take k) + hi := by rw [htk, sumHi_snoc]
        have E1 := Lib.hid e1
        have E2 := Lib.hid e2
        obtain ⟨p1, p2, p3, p4⟩ := hbk
        have q1 : -20000000000000000 ≤ sumLo (xs.take k) := by omega
        have q2 : sumLo (xs.take k) ≤ 20000000000000000 := by omega
        have q3 : -20000000000000000 ≤ sumHi (xs.take k) := by omega
        have q4 : sumHi (xs.take k) ≤ 20000000000000000 := by omega
        clear e1 e2 htk hx p1 p2 p3 p4
        have hj0 : (0 : Int) ≤ (k : Int) := by omega
        have hj1 : (k : Int) < (n : Int) := by omega
        obtain ⟨hs0, hs1, hf0, hf1⟩ := hbox.facts
        have hne : b' ≠ w1.heap.size := by omega
        go_wp2
        go_region
        go_wp2
        go_region
        go_wp2
        go_roundw
        case rel =>
          refine ⟨k + 1, by omega, by go_num, ?_, ?_⟩
          · rw [E1.out, E2.out]; exact hbox.set _ _
          · exact below_drewN ((hbel.setCell (p := ⟨w1.heap.size, 0, none⟩) (Nat.le_refl _) _).setCell (p := ⟨w1.heap.size, 1, none⟩) (Nat.le_refl _) _) 2
        case measure => simp [intOf]; omega
      · have hkn : k = n := by omega
        subst hkn
        have hxk : xs.take k = xs := List.take_of_length_le (by omega)
        rw [hxk] at hbox
        clear hxk
        have hres2 := hres.below hbel (by omega)
        have hsz := hbel.size
        have hall2 : Below w.heap.size w wr := hbw.trans (hbel.mono hbw.size)
        clear hres
        obtain ⟨hs0, hs1, hf0, hf1⟩ := hbox.facts
        go_wp2_with fail
        refine (result_any _ _ _).mono ?_
        rw [He.out]
        rintro e w2 ⟨rfl, hb2⟩
        obtain ⟨r0, r1, rf0, rf1⟩ := (hres2.kept hb2).facts
        go_wp2
        exact bodyPost_ret (v := pairV a b e0) (by simp [results, Try.results28, go_sem, r0, r1]) rfl ⟨rfl, ((hall2.trans (hb2.mono (by omega))).setCell (by simp) _).setCell (by simp) _⟩
  · have e0 : totV xs = pairV 0 0 (errAll xs) := by simp [totV, hz]
    rw [e0]; clear e0
    have hne : (errAll xs != 0) = true := by simp [hz]
    clear hz
    obtain ⟨ee, he⟩ : ∃ ee, ee = errAll xs := ⟨_, rfl⟩
    rw [← he] at hne ⊢
    have He := Lib.hid he
    clear he
    go_enter Try.func28, Try.ntmps28
    go_wp2_with fail
    refine (lists_any A none n c 0 0 xs [] _ (h.in_ (below_new (Nat.le_refl _) _) (by simp)) Ivs.nil hn (by omega)).mono ?_
    rw [List.append_nil, ← He.out]
    rintro e w1 ⟨rfl, hb⟩
    obtain ⟨r0, r1, rf0, rf1⟩ := ((IvBox.new' w 0 0 rfl).kept hb).facts
    go_wp2
    exact bodyPost_ret (v := pairV 0 0 ee) (by simp [results, Try.results28, go_sem, r0, r1]) rfl ⟨rfl, by (repeat (first | exact Below.refl _ _ | (refine Below.setCell ?_ (by first | omega | (simp; done) | (simp; omega)) _) | (refine Below.alloc ?_ (by first | omega | (simp; done) | (simp; omega)) _) | (refine Below.trans ?_ (Below.mono hb (by first | omega | (simp; done) | (simp; omega))))))⟩

theorem ref_add_any (lo hi lo' hi' : Int) (w : World) :
    Calls Try.prog 23 #[.agg #[.int .i64 lo, .int .i64 hi], .agg #[.int .i64 lo', .int .i64 hi']] w fun e w' => e = .returned (totV [(lo, hi), (lo', hi')]) ∧ Below w.heap.size w w' := by
  obtain ⟨a, b, e0, he⟩ := totV_form [(lo, hi), (lo', hi')]
  rw [he]
  have He := Lib.hid he
  clear he
  go_enter Try.func23, Try.ntmps23
  go_wp2_with fail
  refine (ref_sum_any _ _ _ [(lo, hi), (lo', hi')] _ (two_new _ _ _ _ _ _ (by simp) (by simp)) (by omega)).mono ?_
  rw [He.out]
  rintro e w1 ⟨rfl, hb⟩
  obtain ⟨hc, hf⟩ := old_cells hb
  go_wp2
  exact bodyPost_ret (v := pairV a b e0) (by simp [results, Try.results23, go_sem, hc]) rfl ⟨rfl, by (repeat (first | exact Below.refl _ _ | (refine Below.setCell ?_ (by first | omega | (simp; done) | (simp; omega)) _) | (refine Below.alloc ?_ (by first | omega | (simp; done) | (simp; omega)) _) | (refine Below.trans ?_ (Below.mono hb (by first | omega | (simp; done) | (simp; omega))))))⟩
end Go.Proofs.Ytiebchfdbejfbaa
