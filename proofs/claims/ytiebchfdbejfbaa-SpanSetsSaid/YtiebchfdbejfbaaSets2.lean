/- Minus and Common of package span. -/
import Derived.Test.YtiebchfdbejfbaaMinus
namespace Go.Proofs.Ytiebchfdbejfbaa
open Go.RowKit

theorem Own.form_c {w : World} {base n : Nat} {v : Value} {xs : List (Int × Int)} (h : Own w base v xs) (hn : xs.length = n) :
    ∃ A c, v = .slice A n c ∧ Ivs w w.heap.size A n xs ∧ n ≤ c ∧ c ≤ 9223372036854775807 := by
  subst hn
  obtain ⟨A, c, e, hi, _, _, hl⟩ := h.form
  refine ⟨A, c, e, hi, ?_⟩
  rcases h.2 with ⟨h1, h0⟩ | ⟨g, cap, cur, h1, hb, hg, hnc, hcm, hcs, htake⟩
  · obtain ⟨_, h2, h3⟩ := Value.slice.inj (e.symm.trans h1)
    omega
  · obtain ⟨_, h2, h3⟩ := Value.slice.inj (e.symm.trans h1)
    subst h3
    simp only [maxLen] at hcm
    exact ⟨hnc, by omega⟩
theorem normL_inR {xs : List (Int × Int)} (h : InR xs) : InR (normL xs) := foldN_inR fun x hx => h x ((List.mergeSort_perm _ _).mem_iff.1 hx)
theorem normL_len (xs : List (Int × Int)) : (normL xs).length ≤ xs.length := by
  have h1 := foldN_len (sortI xs)
  have h2 : (sortI xs).length = xs.length := (List.mergeSort_perm _ _).length_eq
  unfold normL; omega

theorem minus_set (hsort : SortSaid) (A A' : Option Addr) (n c n' c' : Nat) (xs ys : List (Int × Int)) (w : World) (h : Ivs w w.heap.size A n xs) (h' : Ivs w w.heap.size A' n' ys) (hn : n ≤ 10000) (hn' : n' ≤ 10000) :
    Calls Try.prog 32 #[.slice A n c, .slice A' n' c'] w (SetRet (errAll (xs ++ ys)) (okSet (errAll (xs ++ ys)) (minusL (normL xs) (normL ys))) w) := by
  have hlen := h.len
  have hlen' := h'.len
  obtain ⟨ee, he⟩ : ∃ ee, errAll (xs ++ ys) = ee := ⟨_, rfl⟩
  rw [he]
  by_cases hz : ee = 0
  · subst hz
    have hin := inR_of_ok he
    have hinx : InR xs := fun x hx => hin x (List.mem_append_left _ hx)
    have hiny : InR ys := fun x hx => hin x (List.mem_append_right _ hx)
    have He := Lib.hid he
    clear he hin
    go_enter Try.func32, Try.ntmps32
    go_wp2_with fail
    refine (checkLists_any _ _ _ [⟨A, n, c, xs⟩, ⟨A', n', c', ys⟩] _ (two_list _ A A' n c n' c' xs ys _ h h' (by simp) (by simp)) rfl (by simp) (by rw [cat_two]; simp; omega) (fun l hl => by simp at hl; rcases hl with rfl | rfl; exact hn; exact hn')).mono ?_
    rw [cat_two, He.out]
    rintro e w1 ⟨rfl, hb⟩
    have h1 : Ivs w1 w1.heap.size A n xs := (h.in_ ((below_new (Nat.le_refl _) _).trans (hb.mono (by simp))) (by have := hb.size; simp at this; omega))
    have h1' : Ivs w1 w1.heap.size A' n' ys := (h'.in_ ((below_new (Nat.le_refl _) _).trans (hb.mono (by simp))) (by have := hb.size; simp at this; omega))
    have hsz := hb.size
    simp at hsz
    go_wp2_with fail
    refine (normal_any hsort _ _ _ [⟨A, n, c, xs⟩] _ (one_list _ A n c xs _ h1 (by simp) (by simp)) rfl (by simp) (by rw [cat_one]; omega) (by rw [cat_one]; exact hinx)).mono ?_
    rw [cat_one]
    rintro e w2 ⟨v, rfl, hown, hb2⟩
    have h2' : Ivs w2 w2.heap.size A' n' ys := (h1'.in_ ((below_new (Nat.le_refl _) _).trans (hb2.mono (by simp))) (by have := hb2.size; simp at this; omega))
    have hsz2 := hb2.size
    simp at hsz2
    go_wp2_with fail
    refine (normal_any hsort _ _ _ [⟨A', n', c', ys⟩] _ (one_list _ A' n' c' ys _ h2' (by simp) (by simp)) rfl (by simp) (by rw [cat_one]; omega) (by rw [cat_one]; exact hiny)).mono ?_
    rw [cat_one]
    rintro e w3 ⟨v', rfl, hown', hb3⟩
    have hsz3 := hb3.size
    simp at hsz3
    have hown3 : Own w3 _ v (normL xs) := (Own.alloc hown _).kept hb3
    obtain ⟨A1, c1, rfl, hi1, hc1, hm1⟩ := hown3.form_c rfl
    have hown3' : Own w3 _ v' (normL ys) := hown'
    obtain ⟨A2, c2, rfl, hi2, hc2, hm2⟩ := hown3'.form_c rfl
    have l1 := normL_len xs
    have l2 := normL_len ys
    have i1 := normL_inR hinx
    have i2 := normL_inR hiny
    go_wp2_with fail
    refine (minus_any A1 _ c1 (normL xs) A2 _ c2 (normL ys) w3 hi1 hi2 hc2 hm2 (by omega) (by omega) i1 i2).mono ?_
    rintro e w4 ⟨v4, rfl, hown4, hb4⟩
    go_wp2
    go_ret2
    exact ⟨_, rfl, hown4.low (by omega), by (repeat (first | exact Below.refl _ _ | (refine Below.setCell ?_ (by first | omega | (simp; done) | (simp; omega)) _) | (refine Below.alloc ?_ (by first | omega | (simp; done) | (simp; omega)) _) | (refine Below.trans ?_ (Below.mono hb (by first | omega | (simp; done) | (simp; omega)))) | (refine Below.trans ?_ (Below.mono hb2 (by first | omega | (simp; done) | (simp; omega)))) | (refine Below.trans ?_ (Below.mono hb3 (by first | omega | (simp; done) | (simp; omega)))) | (refine Below.trans ?_ (Below.mono hb4 (by first | omega | (simp; done) | (simp; omega))))))⟩
  · have hne : (ee != 0) = true := by simp [hz]
    have e0 : okSet ee (minusL (normL xs) (normL ys)) = [] := by simp [okSet, hz]
    rw [e0]
    have He := Lib.hid he
    clear he hz e0
    go_enter Try.func32, Try.ntmps32
    go_wp2_with fail
    refine (checkLists_any _ _ _ [⟨A, n, c, xs⟩, ⟨A', n', c', ys⟩] _ (two_list _ A A' n c n' c' xs ys _ h h' (by simp) (by simp)) rfl (by simp) (by rw [cat_two]; simp; omega) (fun l hl => by simp at hl; rcases hl with rfl | rfl; exact hn; exact hn')).mono ?_
    rw [cat_two, He.out]
    rintro e w1 ⟨rfl, hb⟩
    go_wp2
    go_ret2
    exact ⟨_, rfl, Own.nil _ _, by (repeat (first | exact Below.refl _ _ | (refine Below.setCell ?_ (by first | omega | (simp; done) | (simp; omega)) _) | (refine Below.alloc ?_ (by first | omega | (simp; done) | (simp; omega)) _) | (refine Below.trans ?_ (Below.mono hb (by first | omega | (simp; done) | (simp; omega))))))⟩

theorem common_set (hsort : SortSaid) (A A' : Option Addr) (n c n' c' : Nat) (xs ys : List (Int × Int)) (w : World) (h : Ivs w w.heap.size A n xs) (h' : Ivs w w.heap.size A' n' ys) (hn : n ≤ 10000) (hn' : n' ≤ 10000) :
    Calls Try.prog 33 #[.slice A n c, .slice A' n' c'] w (SetRet (errAll (xs ++ ys)) (okSet (errAll (xs ++ ys)) (commonL (normL xs) (normL ys))) w) := by
  have hlen := h.len
  have hlen' := h'.len
  obtain ⟨ee, he⟩ : ∃ ee, errAll (xs ++ ys) = ee := ⟨_, rfl⟩
  rw [he]
  by_cases hz : ee = 0
  · subst hz
    have hin := inR_of_ok he
    have hinx : InR xs := fun x hx => hin x (List.mem_append_left _ hx)
    have hiny : InR ys := fun x hx => hin x (List.mem_append_right _ hx)
    have He := Lib.hid he
    clear he hin
    go_enter Try.func33, Try.ntmps33
    go_wp2_with fail
    refine (checkLists_any _ _ _ [⟨A, n, c, xs⟩, ⟨A', n', c', ys⟩] _ (two_list _ A A' n c n' c' xs ys _ h h' (by simp) (by simp)) rfl (by simp) (by rw [cat_two]; simp; omega) (fun l hl => by simp at hl; rcases hl with rfl | rfl; exact hn; exact hn')).mono ?_
    rw [cat_two, He.out]
    rintro e w1 ⟨rfl, hb⟩
    have h1 : Ivs w1 w1.heap.size A n xs := (h.in_ ((below_new (Nat.le_refl _) _).trans (hb.mono (by simp))) (by have := hb.size; simp at this; omega))
    have h1' : Ivs w1 w1.heap.size A' n' ys := (h'.in_ ((below_new (Nat.le_refl _) _).trans (hb.mono (by simp))) (by have := hb.size; simp at this; omega))
    have hsz := hb.size
    simp at hsz
    go_wp2_with fail
    refine (normal_any hsort _ _ _ [⟨A, n, c, xs⟩] _ (one_list _ A n c xs _ h1 (by simp) (by simp)) rfl (by simp) (by rw [cat_one]; omega) (by rw [cat_one]; exact hinx)).mono ?_
    rw [cat_one]
    rintro e w2 ⟨v, rfl, hown, hb2⟩
    have h2' : Ivs w2 w2.heap.size A' n' ys := (h1'.in_ ((below_new (Nat.le_refl _) _).trans (hb2.mono (by simp))) (by have := hb2.size; simp at this; omega))
    have hsz2 := hb2.size
    simp at hsz2
    go_wp2_with fail
    refine (normal_any hsort _ _ _ [⟨A', n', c', ys⟩] _ (one_list _ A' n' c' ys _ h2' (by simp) (by simp)) rfl (by simp) (by rw [cat_one]; omega) (by rw [cat_one]; exact hiny)).mono ?_
    rw [cat_one]
    rintro e w3 ⟨v', rfl, hown', hb3⟩
    have hsz3 := hb3.size
    simp at hsz3
    have hown3 : Own w3 _ v (normL xs) := (Own.alloc hown _).kept hb3
    obtain ⟨A1, c1, rfl, hi1, hc1, hm1⟩ := hown3.form_c rfl
    have hown3' : Own w3 _ v' (normL ys) := hown'
    obtain ⟨A2, c2, rfl, hi2, hc2, hm2⟩ := hown3'.form_c rfl
    have l1 := normL_len xs
    have l2 := normL_len ys
    have i1 := normL_inR hinx
    have i2 := normL_inR hiny
    go_wp2_with fail
    refine (common_any A1 _ c1 (normL xs) A2 _ c2 (normL ys) w3 hi1 hi2 hc1 hc2 hm1 hm2 (by omega)).mono ?_
    rintro e w4 ⟨v4, rfl, hown4, hb4⟩
    go_wp2
    go_ret2
    exact ⟨_, rfl, hown4.low (by omega), by (repeat (first | exact Below.refl _ _ | (refine Below.setCell ?_ (by first | omega | (simp; done) | (simp; omega)) _) | (refine Below.alloc ?_ (by first | omega | (simp; done) | (simp; omega)) _) | (refine Below.trans ?_ (Below.mono hb (by first | omega | (simp; done) | (simp; omega)))) | (refine Below.trans ?_ (Below.mono hb2 (by first | omega | (simp; done) | (simp; omega)))) | (refine Below.trans ?_ (Below.mono hb3 (by first | omega | (simp; done) | (simp; omega)))) | (refine Below.trans ?_ (Below.mono hb4 (by first | omega | (simp; done) | (simp; omega))))))⟩
  · have hne : (ee != 0) = true := by simp [hz]
    have e0 : okSet ee (commonL (normL xs) (normL ys)) = [] := by simp [okSet, hz]
    rw [e0]
    have He := Lib.hid he
    clear he hz e0
    go_enter Try.func33, Try.ntmps33
    go_wp2_with fail
    refine (checkLists_any _ _ _ [⟨A, n, c, xs⟩, ⟨A', n', c', ys⟩] _ (two_list _ A A' n c n' c' xs ys _ h h' (by simp) (by simp)) rfl (by simp) (by rw [cat_two]; simp; omega) (fun l hl => by simp at hl; rcases hl with rfl | rfl; exact hn; exact hn')).mono ?_
    rw [cat_two, He.out]
    rintro e w1 ⟨rfl, hb⟩
    go_wp2
    go_ret2
    exact ⟨_, rfl, Own.nil _ _, by (repeat (first | exact Below.refl _ _ | (refine Below.setCell ?_ (by first | omega | (simp; done) | (simp; omega)) _) | (refine Below.alloc ?_ (by first | omega | (simp; done) | (simp; omega)) _) | (refine Below.trans ?_ (Below.mono hb (by first | omega | (simp; done) | (simp; omega))))))⟩
end Go.Proofs.Ytiebchfdbejfbaa
