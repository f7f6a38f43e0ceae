/- The function normal of package span, given that its sort sorts. -/
import Derived.Test.YtiebchfdbejfbaaNormal
import Derived.RegionTactic
import Derived.Deep.RegionHeld3
namespace Go.Proofs.Ytiebchfdbejfbaa
open Go.RowKit

/-- The order of the sort: no later one is less than an earlier one. -/
def leI (x y : Int × Int) : Bool := decide (x.1 < y.1 ∨ x.1 = y.1 ∧ x.2 ≤ y.2)
/-- A list, sorted. -/
def sortI (xs : List (Int × Int)) : List (Int × Int) := xs.mergeSort leI
theorem leI_iff {x y : Int × Int} : leI x y = true ↔ (x.1 < y.1 ∨ x.1 = y.1 ∧ x.2 ≤ y.2) := by simp [leI]
theorem leI_trans (a b c : Int × Int) (h1 : leI a b = true) (h2 : leI b c = true) : leI a c = true := by rw [leI_iff] at *; omega
theorem leI_total (a b : Int × Int) : (leI a b || leI b a) = true := by rw [Bool.or_eq_true, leI_iff, leI_iff]; omega
theorem leI_antisymm (a b : Int × Int) (h1 : leI a b = true) (h2 : leI b a = true) : a = b := by
  rw [leI_iff] at *
  cases a; cases b
  simp only [Prod.mk.injEq] at *
  omega
theorem sortI_pairwise (xs : List (Int × Int)) : (sortI xs).Pairwise fun a b => leI a b = true := List.pairwise_mergeSort leI_trans leI_total xs
theorem sortI_perm (xs : List (Int × Int)) : (sortI xs).Perm xs := List.mergeSort_perm _ _
theorem sortI_unique {xs ys : List (Int × Int)} (hp : ys.Perm xs) (hs : ys.Pairwise fun a b => leI a b = true) : sortI xs = ys :=
  List.Perm.eq_of_pairwise (le := fun a b => leI a b = true) (fun a b _ _ h1 h2 => leI_antisymm a b h1 h2) (sortI_pairwise xs) hs ((sortI_perm xs).trans hp.symm)
/-- What the sort of package slices does here. -/
def SortSaid : Prop := ∀ (A : Option Addr) (n c base : Nat) (xs : List (Int × Int)) (w : World), Own w base (.slice A n c) xs → xs.length = n → base ≤ w.heap.size → xs.length ≤ 1000000000 →
  Calls Try.prog 54 #[.slice A n c, .func (.func 55) #[] #[]] w fun e w' => e = .returned (.tuple #[]) ∧ Ivs w' w'.heap.size A n (sortI xs) ∧ Below base w w'

theorem normal_any (hsort : SortSaid) (A : Option Addr) (n c : Nat) (Ls : List Lst) (w : World) (h : Lsts w w.heap.size A Ls) (hn : Ls.length = n) (hn2 : n ≤ 1000000) (hsz : (cat Ls).length ≤ 1000000000) (hin : InR (cat Ls)) :
    Calls Try.prog 48 #[.slice A n c] w (OwnRet (foldN (sortI (cat Ls))) w) := by
  have Hn := Lib.hid hn
  clear hn
  go_enter Try.func48, Try.ntmps48
  go_wp2_with fail
  refine (concat_any A n c Ls w h Hn.out hn2 hsz).mono ?_
  rintro e w1 ⟨v1, rfl, hown1, hb1⟩
  obtain ⟨A1, c1, rfl, hi1, hlt1⟩ := hown1.form_n rfl
  go_wp2_with fail
  refine (hsort A1 _ c1 _ (cat Ls) w1 hown1 rfl hb1.size hsz).mono ?_
  rintro e w2 ⟨rfl, hi2, hb2⟩
  have hbase : Below w.heap.size w w2 := hb1.trans hb2
  have hperm : (sortI (cat Ls)).Perm (cat Ls) := List.mergeSort_perm _ _
  have hin2 : InR (sortI (cat Ls)) := fun x hx => hin x (hperm.mem_iff.1 hx)
  have hlen2 : (sortI (cat Ls)).length = (cat Ls).length := hperm.length_eq
  obtain ⟨ys, hys⟩ : ∃ ys, sortI (cat Ls) = ys := ⟨_, rfl⟩
  rw [hys] at hi2 hin2 hlen2
  have Hys := Lib.hid hys
  clear hys
  generalize (cat Ls).length = m at hi2 hlen2 hsz
  have hsz2 := hbase.size
  clear hown1 hi1 hlt1 hb1 hb2 hperm hin h
  go_wp2
  go_loopw [4, 14] (fun v i wr => ∃ k : Nat, k ≤ m ∧ i = .int .i64 k ∧ Own wr w2.heap.size v (foldN (ys.take k)) ∧ Below w2.heap.size w2 wr) (fun _ i _ => m - (intOf i).toNat)
  case atStart => exact ⟨0, Nat.zero_le _, rfl, Own.nil _ _, Below.refl _ _⟩
  case round =>
    obtain ⟨k, hk, rfl, hown, hbel⟩ := hrel
    by_cases hlt : k < m
    · obtain ⟨b, off, lo, hi, rfl, hbB, hx, hc1, hc2⟩ := (hi2.below hbel).at_ hlt
      have hnext := foldN_next hx
      have ho := hin2 _ (List.mem_of_getElem? hx)
      dsimp only at ho
      obtain ⟨o1, o2, o3, o4⟩ := ho
      have hzr : InR (foldN (ys.take k)) := foldN_inR (fun x hx => hin2 x (List.mem_of_mem_take hx))
      have hzl := foldN_len (ys.take k)
      have hzl2 : (ys.take k).length ≤ k := List.length_take_le _ _
      have hszr := hbel.size
      clear hx
      generalize foldN (ys.take k) = zs at hown hnext hzr hzl
      rcases List.eq_nil_or_concat zs with rfl | ⟨ws, l, rfl⟩
      · rw [stepN_nil] at hnext
        have Hnext := Lib.hid hnext
        clear hnext
        obtain ⟨A3, c3, rfl, hi3, hlt3⟩ := hown.form_n (n := 0) rfl
        go_wp2
        go_quiet (fail)
        go_wp2_with (at_builtin; refine wpList_append_ivs rfl (.tmp 43) (.tmp 45) rfl w2.heap.size (.slice A3 0 c3) [] rfl (((hown.alloc _).drewN _).alloc _) (wr.heap.size + 1 + 1) (some ⟨wr.heap.size + 1, 0, none⟩) 1 1 [(lo, hi)] rfl (one_new _ _ _ _ (by simp) (by omega)) (by simp) (by simp; omega) ?_; intro v' w3 hown3 hg3 _)
        go_roundw
        case rel => exact ⟨k + 1, by omega, by go_num, by rw [Hnext.out]; exact hown3, below_grown ((below_drewN (hbel.alloc hszr _) nq).alloc (by simp; omega) _) hg3 (by simp; omega) (fun g hg => (hlt3 g hg).1)⟩
        case measure => simp [intOf]; omega
      · rw [List.concat_eq_append] at hown hnext hzr hzl
        have hl := hzr l (by simp)
        obtain ⟨l1, l2, l3, l4⟩ := hl
        obtain ⟨g, cap, rfl, hbg, hgs, hnc, hcm, hl0, hl1, hf0, hf1⟩ := hown.last
        have hwl : ws.length + 1 ≤ m := by simp at hzl; omega
        have hj0 : (0 : Int) ≤ (ws.length : Int) := by omega
        have hj1 : (ws.length : Int) < (ws.length : Int) + 1 := by omega
        clear hzl hzr hzl2
        by_cases hle : lo ≤ l.2 + 1
        · rw [stepN_join _ _ _ hle] at hnext
          have Hnext := Lib.hid hnext
          clear hnext
          go_wp2
          go_quiet (fail)
          go_wp2
          go_region_with (go_at_call 45; refine (hull_any _ _ _ _ _).mono ?_; rintro e w3 ⟨rfl, hb3⟩; obtain ⟨hc3, hf3⟩ := old_cells hb3)
          all_goals
            go_wp2
            go_roundw
            case rel =>
              refine ⟨k + 1, by omega, by go_num, ?_, ?_⟩
              · rw [Hnext.out]; exact (Own.kept ((hown.alloc _).drewN _) hb3).store (hullI l (lo, hi))
              · exact (((below_drewN (hbel.alloc hszr _) (nq + 1)).trans (hb3.mono (by simp; omega))).setCell hbg _).setCell hbg _
            case measure => simp [intOf]; omega
        · rw [stepN_next _ _ _ hle] at hnext
          have hlen : (ws ++ [l]).length ≤ 1000000000 := by simp; omega
          have Hnext := Lib.hid hnext
          clear hnext
          have hle' : l.2 + 1 < lo := by omega
          have hlt3 := World.ownsRow.lt hown
          go_wp2
          go_quiet (fail)
          go_wp2_with (at_builtin; refine wpList_append_ivs rfl (.tmp 43) (.tmp 45) rfl w2.heap.size (.slice (some ⟨g, 0, none⟩) (ws.length + 1) cap) (ws ++ [l]) rfl (((hown.alloc _).drewN _).alloc _) (wr.heap.size + 1 + 1) (some ⟨wr.heap.size + 1, 0, none⟩) 1 1 [(lo, hi)] rfl (one_new _ _ _ _ (by simp) (by omega)) (by omega) (by simp; omega) ?_; intro v' w3 hown3 hg3 _)
          go_roundw
          case rel => exact ⟨k + 1, by omega, by go_num, by rw [Hnext.out]; exact hown3, below_grown ((below_drewN (hbel.alloc hszr _) nq).alloc (by simp; omega) _) hg3 (by simp; omega) (fun g hg => (hlt3 g hg).1)⟩
          case measure => simp [intOf]; omega
    · have hkm : k = m := by omega
      subst hkm
      have hyk : ys.take k = ys := List.take_of_length_le (by omega)
      rw [hyk, ← Hys.out] at hown
      clear hyk
      go_wp2
      go_ret
      exact ⟨_, rfl, hown.low hsz2, hbase.trans (hbel.mono hsz2)⟩
end Go.Proofs.Ytiebchfdbejfbaa
