/- The sort of package slices sorts lists of intervals. -/
import Derived.Test.YtiebchfdbejfbaaSortPlain
import Derived.Test.YtiebchfdbejfbaaNormalWalk
import Derived.Shelf.SlSortCmp.NoneTotal
namespace Go.Proofs.Ytiebchfdbejfbaa
open Go.Shelf Go.RowKit Go.Lib Go.Sort

/-- The two cells of an interval. -/
def encI (x : Int × Int) : List Value := [.int .i64 x.1, .int .i64 x.2]

theorem ltOrd (x y : Int × Int) : ltOf ordI x y = decide (x.1 < y.1 ∨ x.1 = y.1 ∧ x.2 < y.2) := by
  unfold ltOf ordI cmpI
  by_cases h : x.1 = y.1
  · rw [if_pos h]
    by_cases h1 : x.2 < y.2
    · simp [h1, h]
    · by_cases h2 : y.2 < x.2 <;> simp [h1, h2, h]
  · rw [if_neg h]
    by_cases h1 : x.1 < y.1
    · simp [h1]
    · have h2 : y.1 < x.1 := by omega
      simp [h1, h2, h]
theorem swoOrd : SWO (ltOf ordI) where
  irrefl x := by rw [ltOrd]; simp
  trans x y z h1 h2 := by rw [ltOrd] at *; simp only [decide_eq_true_eq] at *; omega
  ntrans x y z h1 h2 := by rw [ltOrd] at *; simp only [decide_eq_false_iff_not] at *; omega
theorem totOrd (x y : Int × Int) (h1 : ltOf ordI x y = false) (h2 : ltOf ordI y x = false) : x = y := by
  rw [ltOrd] at *
  simp only [decide_eq_false_iff_not] at *
  cases x; cases y
  simp only [Prod.mk.injEq] at *
  omega
theorem le_ord : (fun x y : Int × Int => !(ltOf ordI) y x) = leI := by
  funext x y
  rw [ltOrd, leI]
  rw [Bool.eq_iff_iff]
  simp only [Bool.not_eq_true', decide_eq_false_iff_not, decide_eq_true_eq]
  omega
theorem mine_agg : ∀ w, (isAgg 23).run Try.prog w = .ok true w := fun w => by kernel_rfl
theorem mine_size : ∀ w, (Go.sizeOf 23).run Try.prog w = .ok 2 w := fun w => by kernel_rfl

theorem cmpOrd (blk off size : Nat) (w : World) : CmpLays Try.prog 55 #[] encI 2 ordI blk off size w := fun _ _ _ _ x y =>
  (order_any x.1 x.2 y.1 y.2 _).mono fun e w' h => by
    obtain ⟨rfl, rfl⟩ := h
    exact ⟨rfl, 0, _, by rw [alloc_eq_grow, alloc_eq_grow, grow_grow]; rfl⟩

theorem holds_own {w : World} {base g n cap : Nat} {xs : List (Int × Int)} (h : Own w base (.slice (some ⟨g, 0, none⟩) n cap) xs) (hn : xs.length = n) : HoldsK encI 2 w g 0 xs.toArray := by
  subst hn
  intro t ht
  rw [size_flatK] at ht
  have ht' : t < xs.length * 2 := by simpa using ht
  rw [get_flatK _ _ _ _ ht, Nat.zero_add]
  have hk : t / 2 < xs.length := by omega
  refine ⟨?_, World.ownsRow.frozenAt h t⟩
  rw [World.ownsRow.cellAt h t ht']
  obtain ⟨f0, f1⟩ := flat_at xs (t / 2) xs[t / 2] (List.getElem?_eq_getElem hk)
  have e0 : xs.toArray[t / 2]! = xs[t / 2] := by simp [hk]
  rw [e0]
  rcases (show t = t / 2 * 2 ∨ t = t / 2 * 2 + 1 from by omega) with e | e
  · rw [show t % 2 = 0 from by omega]
    conv => lhs; rw [e]
    rw [f0]; rfl
  · rw [show t % 2 = 1 from by omega]
    conv => lhs; rw [e]
    rw [f1]; rfl

theorem below_sorted (w : World) (base g m : Nat) (dk : Array (Int × Int)) (os : Array Obj) (hb : base ≤ g) (hB : base ≤ w.heap.size) : Go.RowKit.Below base w (sortWorldK encI 2 w g 0 m dk os) := by
  refine ⟨rfl, rfl, rfl, by simp [sortWorldK, putRowK, Sort.ahead], fun k hk => ?_⟩
  unfold sortWorldK
  rw [heap_grow_old _ _ (by simp [putRowK, Sort.ahead]; omega)]
  unfold putRowK putRow mapBlock
  simp only [Array.getElem?_modify]
  rw [if_neg (by omega)]
  rfl

theorem sort_said : SortSaid := by
  intro A n c base xs w hown hn hB hsz
  rcases Nat.eq_zero_or_pos n with h0 | h0
  · subst h0
    have hx : xs = [] := List.eq_nil_of_length_eq_zero hn
    subst hx
    have hcon := AnyF.slices_SortFunc_none Try.sortIv A c (.func (.func 55) #[] #[]) w
    change Calls Try.prog 54 _ _ _ at hcon
    refine hcon.mono ?_
    rintro e w' ⟨rfl, rfl⟩
    exact ⟨rfl, by rw [show sortI [] = [] from sortI_unique (List.Perm.refl _) List.Pairwise.nil]; exact Ivs.nil, Go.RowKit.Below.refl _ _⟩
  · have h2 := hown.2
    rcases h2 with ⟨_, hz⟩ | ⟨g, cap, cur, hv, hbg, hg, hnc, hcm, hcs, htake⟩
    · omega
    · rw [hn] at hv
      obtain ⟨rfl, rfl⟩ : A = some ⟨g, 0, none⟩ ∧ c = cap := by
        injection hv with a b d; exact ⟨a, d⟩
      have hgw : g < w.heap.size := (Array.getElem?_eq_some_iff.1 hg).1
      have hH := holds_own hown hn
      have eg : ∀ args w, (callFunc 55 args).run Try.prog w = .ok (.enter 55 args) w := enters_of Try.func55 (by kernel_rfl) rfl
      have hcon := AnyQ.slices_SortFunc_total Try.sortIv 2 mine_agg mine_size encI (fun _ => rfl) (fun x v hv => by simp [encI] at hv; rcases hv with rfl | rfl <;> rfl) ordI swoOrd 55 #[] g 0 c xs.toArray w eg (cmpOrd g 0 _ w) hH hgw (by simp; omega) totOrd
      change Calls Try.prog 54 _ _ _ at hcon
      rw [show xs.toArray.size = n from by simpa using hn] at hcon
      refine hcon.mono ?_
      rintro e w' ⟨rfl, m, os, rfl⟩
      rw [le_ord]
      have hys : (xs.toArray.toList.mergeSort leI) = sortI xs := rfl
      rw [hys]
      have hlen : (sortI xs).length = n := by rw [(sortI_perm xs).length_eq, hn]
      refine ⟨rfl, ⟨hlen, fun _ => ⟨g, 0, rfl, by simp [sortWorldK, putRowK, Sort.ahead]; omega, fun k x hx => ?_⟩⟩, below_sorted w base g m _ os hbg hB⟩
      have hk : k < (sortI xs).length := (List.getElem?_eq_some_iff.1 hx).1
      have hH2 : HoldsK encI 2 (sortWorldK encI 2 w g 0 m (sortI xs).toArray os) g 0 (sortI xs).toArray :=
        holdsK_grow _ _ _ _ _ _ _ (by simp [putRowK, Sort.ahead]; omega) (holdsK_putRowK _ _ _ _ _ _ _ (holdsK_ahead _ _ _ _ _ _ _ hH) (by simp [hlen, hn]))
      have c0 := (hH2.cell (i := k) (c := 0) (by simpa using hk) (by omega)).1
      have c1 := (hH2.cell (i := k) (c := 1) (by simpa using hk) (by omega)).1
      have ex : (sortI xs).toArray[k]! = x := by
        have := (List.getElem?_eq_some_iff.1 hx).2
        simp [hk, this]
      rw [ex] at c0 c1
      exact ⟨c0, c1⟩
end Go.Proofs.Ytiebchfdbejfbaa
