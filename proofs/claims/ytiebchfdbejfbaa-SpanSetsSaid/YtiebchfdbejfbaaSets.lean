/- Normalize, Union and Count of package span, given that the sort sorts. -/
import Derived.Test.YtiebchfdbejfbaaNormalWalk
namespace Go.Proofs.Ytiebchfdbejfbaa
open Go.RowKit

/-- The normal form of a list. -/
def normL (xs : List (Int × Int)) : List (Int × Int) := foldN (sortI xs)
/-- A call hands back a slice of its own and an error. -/
def SetRet (er : Int) (zs : List (Int × Int)) (w : World) (e : Ending) (w' : World) : Prop := ∃ v, e = .returned (.tuple #[v, .int .i64 er]) ∧ Own w' w.heap.size v zs ∧ Below w.heap.size w w'
/-- What is handed back beside an error. -/
def okSet (er : Int) (zs : List (Int × Int)) : List (Int × Int) := if er = 0 then zs else []

theorem one_list {g : Nat} (w : World) (A : Option Addr) (n c : Nat) (xs : List (Int × Int)) (t : TypeId) {B : Nat} (h : Ivs w w.heap.size A n xs) (hg : w.heap.size = g) (hB : g < B) : Lsts (w.alloc (.cells #[.slice A n c] t)) B (some ⟨g, 0, none⟩) [⟨A, n, c, xs⟩] := by
  subst hg
  refine ⟨fun k l hk => ⟨_, _, rfl, hB, ?_⟩, fun l hl => ?_⟩
  · match k, hk with
    | 0, hk => simp at hk; subst hk; simp
  · simp at hl; subst hl; exact h.in_ (below_new (Nat.le_refl _) _) (by omega)
theorem two_list {g : Nat} (w : World) (A A' : Option Addr) (n c n' c' : Nat) (xs ys : List (Int × Int)) (t : TypeId) {B : Nat} (h : Ivs w w.heap.size A n xs) (h' : Ivs w w.heap.size A' n' ys) (hg : w.heap.size = g) (hB : g < B) : Lsts (w.alloc (.cells #[.slice A n c, .slice A' n' c'] t)) B (some ⟨g, 0, none⟩) [⟨A, n, c, xs⟩, ⟨A', n', c', ys⟩] := by
  subst hg
  refine ⟨fun k l hk => ⟨_, _, rfl, hB, ?_⟩, fun l hl => ?_⟩
  · match k, hk with
    | 0, hk => simp at hk; subst hk; simp
    | 1, hk => simp at hk; subst hk; simp
  · simp at hl
    rcases hl with rfl | rfl
    · exact h.in_ (below_new (Nat.le_refl _) _) (by omega)
    · exact h'.in_ (below_new (Nat.le_refl _) _) (by omega)
theorem inR_of_ok {xs : List (Int × Int)} (h : errAll xs = 0) : InR xs := fun x hx => outB_false (errAll_zero h x hx).1
theorem cat_one (A : Option Addr) (n c : Nat) (xs : List (Int × Int)) : cat [⟨A, n, c, xs⟩] = xs := by simp [cat]
theorem cat_two (A A' : Option Addr) (n c n' c' : Nat) (xs ys : List (Int × Int)) : cat [⟨A, n, c, xs⟩, ⟨A', n', c', ys⟩] = xs ++ ys := by simp [cat]

theorem normalize_any (hsort : SortSaid) (A : Option Addr) (n c : Nat) (xs : List (Int × Int)) (w : World) (h : Ivs w w.heap.size A n xs) (hn : n ≤ 10000) :
    Calls Try.prog 30 #[.slice A n c] w (SetRet (errAll xs) (okSet (errAll xs) (normL xs)) w) := by
  have hlen := h.len
  obtain ⟨ee, he⟩ : ∃ ee, errAll xs = ee := ⟨_, rfl⟩
  rw [he]
  by_cases hz : ee = 0
  · subst hz
    have hin := inR_of_ok he
    have Hin := Lib.hid hin
    have He := Lib.hid he
    clear he hin
    go_enter Try.func30, Try.ntmps30
    go_wp2_with fail
    refine (checkLists_any _ _ _ [⟨A, n, c, xs⟩] _ (one_list _ A n c xs _ h (by simp) (by simp)) rfl (by simp) (by rw [cat_one]; omega) (fun l hl => by simp at hl; subst hl; exact hn)).mono ?_
    rw [cat_one, He.out]
    rintro e w1 ⟨rfl, hb⟩
    have h1 : Ivs w1 w1.heap.size A n xs := (h.in_ ((below_new (Nat.le_refl _) _).trans (hb.mono (by simp))) (by have := hb.size; simp at this; omega))
    have hsz := hb.size
    simp at hsz
    go_wp2_with fail
    refine (normal_any hsort _ _ _ [⟨A, n, c, xs⟩] _ (one_list _ A n c xs _ h1 (by simp) (by simp)) rfl (by simp) (by rw [cat_one]; omega) (by rw [cat_one]; exact Hin.out)).mono ?_
    rintro e w2 ⟨v, rfl, hown, hb2⟩
    rw [cat_one] at hown
    go_wp2
    go_ret2
    exact ⟨_, rfl, hown.low (by simp; omega), by (repeat (first | exact Below.refl _ _ | (refine Below.setCell ?_ (by first | omega | (simp; done) | (simp; omega)) _) | (refine Below.alloc ?_ (by first | omega | (simp; done) | (simp; omega)) _) | (refine Below.trans ?_ (Below.mono hb (by first | omega | (simp; done) | (simp; omega)))) | (refine Below.trans ?_ (Below.mono hb2 (by first | omega | (simp; done) | (simp; omega))))))⟩
  · have hne : (ee != 0) = true := by simp [hz]
    have e0 : okSet ee (normL xs) = [] := by simp [okSet, hz]
    rw [e0]
    have He := Lib.hid he
    clear he hz e0
    go_enter Try.func30, Try.ntmps30
    go_wp2_with fail
    refine (checkLists_any _ _ _ [⟨A, n, c, xs⟩] _ (one_list _ A n c xs _ h (by simp) (by simp)) rfl (by simp) (by rw [cat_one]; omega) (fun l hl => by simp at hl; subst hl; exact hn)).mono ?_
    rw [cat_one, He.out]
    rintro e w1 ⟨rfl, hb⟩
    go_wp2
    go_ret2
    exact ⟨_, rfl, Own.nil _ _, by (repeat (first | exact Below.refl _ _ | (refine Below.setCell ?_ (by first | omega | (simp; done) | (simp; omega)) _) | (refine Below.alloc ?_ (by first | omega | (simp; done) | (simp; omega)) _) | (refine Below.trans ?_ (Below.mono hb (by first | omega | (simp; done) | (simp; omega))))))⟩
theorem union_any (hsort : SortSaid) (A A' : Option Addr) (n c n' c' : Nat) (xs ys : List (Int × Int)) (w : World) (h : Ivs w w.heap.size A n xs) (h' : Ivs w w.heap.size A' n' ys) (hn : n ≤ 10000) (hn' : n' ≤ 10000) :
    Calls Try.prog 31 #[.slice A n c, .slice A' n' c'] w (SetRet (errAll (xs ++ ys)) (okSet (errAll (xs ++ ys)) (normL (xs ++ ys))) w) := by
  have hlen := h.len
  have hlen' := h'.len
  obtain ⟨ee, he⟩ : ∃ ee, errAll (xs ++ ys) = ee := ⟨_, rfl⟩
  rw [he]
  by_cases hz : ee = 0
  · subst hz
    have hin := inR_of_ok he
    have Hin := Lib.hid hin
    have He := Lib.hid he
    clear he hin
    go_enter Try.func31, Try.ntmps31
    go_wp2_with fail
    refine (checkLists_any _ _ _ [⟨A, n, c, xs⟩, ⟨A', n', c', ys⟩] _ (two_list _ A A' n c n' c' xs ys _ h h' (by simp) (by simp)) rfl (by simp) (by rw [cat_two]; simp; omega) (fun l hl => by simp at hl; rcases hl with rfl | rfl; exact hn; exact hn')).mono ?_
    rw [cat_two, He.out]
    rintro e w1 ⟨rfl, hb⟩
    have h1 : Ivs w1 w1.heap.size A n xs := (h.in_ ((below_new (Nat.le_refl _) _).trans (hb.mono (by simp))) (by have := hb.size; simp at this; omega))
    have h1' : Ivs w1 w1.heap.size A' n' ys := (h'.in_ ((below_new (Nat.le_refl _) _).trans (hb.mono (by simp))) (by have := hb.size; simp at this; omega))
    have hsz := hb.size
    simp at hsz
    go_wp2_with fail
    refine (normal_any hsort _ _ _ [⟨A, n, c, xs⟩, ⟨A', n', c', ys⟩] _ (two_list _ A A' n c n' c' xs ys _ h1 h1' (by simp) (by simp)) rfl (by simp) (by rw [cat_two]; simp; omega) (by rw [cat_two]; exact Hin.out)).mono ?_
    rintro e w2 ⟨v, rfl, hown, hb2⟩
    rw [cat_two] at hown
    go_wp2
    go_ret2
    exact ⟨_, rfl, hown.low (by simp; omega), by (repeat (first | exact Below.refl _ _ | (refine Below.setCell ?_ (by first | omega | (simp; done) | (simp; omega)) _) | (refine Below.alloc ?_ (by first | omega | (simp; done) | (simp; omega)) _) | (refine Below.trans ?_ (Below.mono hb (by first | omega | (simp; done) | (simp; omega)))) | (refine Below.trans ?_ (Below.mono hb2 (by first | omega | (simp; done) | (simp; omega))))))⟩
  · have hne : (ee != 0) = true := by simp [hz]
    have e0 : okSet ee (normL (xs ++ ys)) = [] := by simp [okSet, hz]
    rw [e0]
    have He := Lib.hid he
    clear he hz e0
    go_enter Try.func31, Try.ntmps31
    go_wp2_with fail
    refine (checkLists_any _ _ _ [⟨A, n, c, xs⟩, ⟨A', n', c', ys⟩] _ (two_list _ A A' n c n' c' xs ys _ h h' (by simp) (by simp)) rfl (by simp) (by rw [cat_two]; simp; omega) (fun l hl => by simp at hl; rcases hl with rfl | rfl; exact hn; exact hn')).mono ?_
    rw [cat_two, He.out]
    rintro e w1 ⟨rfl, hb⟩
    go_wp2
    go_ret2
    exact ⟨_, rfl, Own.nil _ _, by (repeat (first | exact Below.refl _ _ | (refine Below.setCell ?_ (by first | omega | (simp; done) | (simp; omega)) _) | (refine Below.alloc ?_ (by first | omega | (simp; done) | (simp; omega)) _) | (refine Below.trans ?_ (Below.mono hb (by first | omega | (simp; done) | (simp; omega))))))⟩

/-- How many numbers intervals have, one after the other. -/
def sumLen (zs : List (Int × Int)) : Int := (zs.map fun x => lenOf x.1 x.2).sum
theorem sumLen_snoc (zs : List (Int × Int)) (x : Int × Int) : sumLen (zs ++ [x]) = sumLen zs + lenOf x.1 x.2 := by simp [sumLen]
theorem lenOf_bounds (lo hi : Int) : 0 ≤ lenOf lo hi ∧ lenOf lo hi ≤ 2000000000001 := by
  unfold lenOf
  rcases errOf_cases lo hi with ⟨_, h⟩ | ⟨_, _, h⟩ | ⟨h0, h1, h⟩
  · rw [if_neg (by omega)]; omega
  · rw [if_neg (by omega)]; omega
  · rw [if_pos h]; have := outB_false h0; omega
theorem sumLen_bounds (zs : List (Int × Int)) : 0 ≤ sumLen zs ∧ sumLen zs ≤ 2000000000001 * (zs.length : Int) := by
  induction zs with
  | nil => simp [sumLen]
  | cons x zs ih =>
    have := lenOf_bounds x.1 x.2
    have e : sumLen (x :: zs) = lenOf x.1 x.2 + sumLen zs := by simp [sumLen]
    rw [e, List.length_cons]
    omega
/-- What Count returns. -/
def countV (xs : List (Int × Int)) : Value := .tuple #[.int .i64 (if errAll xs = 0 then sumLen (normL xs) else 0), .int .i64 (errAll xs)]

theorem count_any (hsort : SortSaid) (A : Option Addr) (n c : Nat) (xs : List (Int × Int)) (w : World) (h : Ivs w w.heap.size A n xs) (hn : n ≤ 10000) :
    Calls Try.prog 34 #[.slice A n c] w fun e w' => e = .returned (countV xs) ∧ Below w.heap.size w w' := by
  have hlen := h.len
  obtain ⟨ee, he⟩ : ∃ ee, errAll xs = ee := ⟨_, rfl⟩
  by_cases hz : ee = 0
  · subst hz
    have e0 : countV xs = .tuple #[.int .i64 (sumLen (normL xs)), .int .i64 0] := by unfold countV; rw [he]; simp
    rw [e0]; clear e0
    have hin := inR_of_ok he
    have Hin := Lib.hid hin
    have He := Lib.hid he
    have hzl : (normL xs).length ≤ n := by
      have := foldN_len (sortI xs)
      have hp : (sortI xs).length = xs.length := (List.mergeSort_perm _ _).length_eq
      unfold normL; omega
    clear he hin
    go_enter Try.func34, Try.ntmps34
    go_wp2_with fail
    refine (checkLists_any _ _ _ [⟨A, n, c, xs⟩] _ (one_list _ A n c xs _ h (by simp) (by simp)) rfl (by simp) (by rw [cat_one]; omega) (fun l hl => by simp at hl; subst hl; exact hn)).mono ?_
    rw [cat_one, He.out]
    rintro e w1 ⟨rfl, hb⟩
    have h1 : Ivs w1 w1.heap.size A n xs := (h.in_ ((below_new (Nat.le_refl _) _).trans (hb.mono (by simp))) (by have := hb.size; simp at this; omega))
    have hsz := hb.size
    simp at hsz
    go_wp2_with fail
    refine (normal_any hsort _ _ _ [⟨A, n, c, xs⟩] _ (one_list _ A n c xs _ h1 (by simp) (by simp)) rfl (by simp) (by rw [cat_one]; omega) (by rw [cat_one]; exact Hin.out)).mono ?_
    rintro e w2 ⟨v, rfl, hown, hb2⟩
    rw [cat_one] at hown
    have hbase : Below w.heap.size w w2 := by (repeat (first | exact Below.refl _ _ | (refine Below.setCell ?_ (by first | omega | (simp; done) | (simp; omega)) _) | (refine Below.alloc ?_ (by first | omega | (simp; done) | (simp; omega)) _) | (refine Below.trans ?_ (Below.mono hb (by first | omega | (simp; done) | (simp; omega)))) | (refine Below.trans ?_ (Below.mono hb2 (by first | omega | (simp; done) | (simp; omega))))))
    have hsz2 := hb2.size
    simp at hsz2
    obtain ⟨zs, hzs⟩ : ∃ zs, normL xs = zs := ⟨_, rfl⟩
    have hown' : Own w2 (w1.alloc (.cells #[.slice A n c] 33)).heap.size v zs := by rw [← hzs]; exact hown
    rw [hzs] at hzl
    have Hzs := Lib.hid hzs
    clear hzs hown
    obtain ⟨A2, c2, rfl, hi2, _⟩ := hown'.form_n rfl
    generalize hm : zs.length = m at hi2 hzl
    have Hm := Lib.hid hm
    clear hm hown'
    go_wp2
    go_loopw [5, 18] (fun s i wr => ∃ k : Nat, k ≤ m ∧ i = .int .i64 k ∧ s = .int .i64 (sumLen (zs.take k)) ∧ Below w2.heap.size w2 wr) (fun _ i _ => m - (intOf i).toNat)
    case atStart => exact ⟨0, Nat.zero_le _, rfl, rfl, Below.refl _ _⟩
    case round =>
      obtain ⟨k, hk, rfl, rfl, hbel⟩ := hrel
      by_cases hlt : k < m
      · obtain ⟨b, off, lo, hi, rfl, hbB, hx, hc1, hc2⟩ := (hi2.below hbel).at_ hlt
        have e1 : sumLen (zs.take (k + 1)) = sumLen (zs.take k) + lenOf lo hi := by rw [take_next hx, sumLen_snoc]
        have E1 := Lib.hid e1
        have s1 := sumLen_bounds (zs.take k)
        obtain ⟨s2, s3⟩ := s1
        have hlk : (zs.take k).length ≤ k := List.length_take_le _ _
        have s4 : sumLen (zs.take k) ≤ 100000000000000000 := by omega
        obtain ⟨l1, l2⟩ := lenOf_bounds lo hi
        have hszr := hbel.size
        clear hx e1 s3 hlk
        go_wp2_with (go_at_call 17; refine (length_any lo hi _).mono ?_; rintro e w3 ⟨rfl, hb3⟩)
        go_roundw
        case rel => exact ⟨k + 1, by omega, by go_num, by rw [E1.out], (hbel.alloc hszr _).trans (hb3.mono (by simp; omega))⟩
        case measure => simp [intOf]; omega
      · have hyk : zs.take k = zs := List.take_of_length_le (by have := Hm.out; omega)
        rw [hyk]
        go_wp2
        go_ret2
        exact ⟨by rw [Hzs.out]; rfl, hbase.trans (hbel.mono (by omega))⟩
  · have e0 : countV xs = .tuple #[.int .i64 0, .int .i64 ee] := by unfold countV; rw [he, if_neg hz]
    rw [e0]; clear e0
    have hne : (ee != 0) = true := by simp [hz]
    have He := Lib.hid he
    clear he hz
    go_enter Try.func34, Try.ntmps34
    go_wp2_with fail
    refine (checkLists_any _ _ _ [⟨A, n, c, xs⟩] _ (one_list _ A n c xs _ h (by simp) (by simp)) rfl (by simp) (by rw [cat_one]; omega) (fun l hl => by simp at hl; subst hl; exact hn)).mono ?_
    rw [cat_one, He.out]
    rintro e w1 ⟨rfl, hb⟩
    go_wp2
    go_ret2
    exact ⟨rfl, by (repeat (first | exact Below.refl _ _ | (refine Below.setCell ?_ (by first | omega | (simp; done) | (simp; omega)) _) | (refine Below.alloc ?_ (by first | omega | (simp; done) | (simp; omega)) _) | (refine Below.trans ?_ (Below.mono hb (by first | omega | (simp; done) | (simp; omega))))))⟩
end Go.Proofs.Ytiebchfdbejfbaa
