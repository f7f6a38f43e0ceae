/- Plain facts: how many numbers normal forms have, and which lists have the same normal form. -/
import Derived.Test.YtiebchfdbejfbaaWMembers
namespace Go.Proofs.Ytiebchfdbejfbaa

theorem countP_or_and {α : Type} (p q : α → Bool) (l : List α) : l.countP (fun x => p x || q x) + l.countP (fun x => p x && q x) = l.countP p + l.countP q := by
  induction l with
  | nil => rfl
  | cons a l ih =>
    simp only [List.countP_cons]
    cases p a <;> cases q a <;> simp <;> omega
theorem countP_iv (a b : Nat) (h : a ≤ b) (N : Nat) : (List.range N).countP (fun i => decide (a ≤ i ∧ i < b)) = min b N - min a N := by
  induction N with
  | zero => simp
  | succ N ih =>
    rw [List.range_succ, List.countP_append, ih, List.countP_cons, List.countP_nil]
    by_cases hc : a ≤ N ∧ N < b
    · simp [hc]; omega
    · simp [hc]; omega
/-- How many of the numbers from -M on, N of them, a list has. -/
def cntL (M N : Nat) (zs : List (Int × Int)) : Nat := (List.range N).countP fun i : Nat => memB ((i : Int) - M) zs
theorem memB_cons (n : Int) (x : Int × Int) (zs : List (Int × Int)) : memB n (x :: zs) = (decide (x.1 ≤ n ∧ n ≤ x.2) || memB n zs) := by simp [memB]
theorem cntL_iv (M N : Nat) (lo hi : Int) (h : lo ≤ hi) (h1 : -(M : Int) ≤ lo) (h2 : hi < (N : Int) - M) : (((List.range N).countP fun i : Nat => decide (lo ≤ (i : Int) - M ∧ (i : Int) - M ≤ hi) : Nat) : Int) = hi - lo + 1 := by
  obtain ⟨a, ha⟩ : ∃ a : Nat, (a : Int) = lo + M := ⟨(lo + M).toNat, by omega⟩
  obtain ⟨b, hb⟩ : ∃ b : Nat, (b : Int) = hi + M + 1 := ⟨(hi + M + 1).toNat, by omega⟩
  have e : (fun i : Nat => decide (lo ≤ (i : Int) - M ∧ (i : Int) - M ≤ hi)) = fun i : Nat => decide (a ≤ i ∧ i < b) := by
    funext i
    apply decide_eq_decide.2
    omega
  rw [e, countP_iv a b (by omega) N]
  omega
theorem sumLen_cons (x : Int × Int) (zs : List (Int × Int)) : sumLen (x :: zs) = lenOf x.1 x.2 + sumLen zs := by simp [sumLen]
theorem lenOf_in {x : Int × Int} (h : -1000000000000 ≤ x.1 ∧ x.1 ≤ 1000000000000 ∧ -1000000000000 ≤ x.2 ∧ x.2 ≤ 1000000000000) (hl : x.1 ≤ x.2) : lenOf x.1 x.2 = x.2 - x.1 + 1 := by
  have ho : outB x.1 x.2 = false := by unfold outB; simp; omega
  unfold lenOf
  rw [if_pos (errOf_ok ho hl)]
theorem cnt_sum (M N : Nat) (hM : (M : Int) = 1000000000000) (hN : (N : Int) = 2000000000001) : ∀ zs : List (Int × Int), NF zs → InR zs → (cntL M N zs : Int) = sumLen zs
  | [], _, _ => by
    have : cntL M N [] = 0 := by unfold cntL; rw [List.countP_eq_zero]; simp [memB]
    rw [this]; rfl
  | x :: zs, hf, hr => by
    obtain ⟨x1, x2, x3⟩ := nf_cons.1 hf
    have hx := hr x List.mem_cons_self
    have ih := cnt_sum M N hM hN zs x3 fun y hy => hr y (List.mem_cons_of_mem _ hy)
    have e1 := countP_or_and (fun i : Nat => decide (x.1 ≤ (i : Int) - M ∧ (i : Int) - M ≤ x.2)) (fun i => memB ((i : Int) - M) zs) (List.range N)
    have e2 : (List.range N).countP (fun i : Nat => decide (x.1 ≤ (i : Int) - M ∧ (i : Int) - M ≤ x.2) && memB ((i : Int) - M) zs) = 0 := by
      rw [List.countP_eq_zero]
      intro i _
      rw [Bool.and_eq_true, decide_eq_true_iff, memB_iff]
      rintro ⟨h1, z, hz, h2⟩
      have := x2 z hz
      omega
    have e3 := cntL_iv M N x.1 x.2 x1 (by omega) (by omega)
    have e4 : cntL M N (x :: zs) = (List.range N).countP fun i : Nat => decide (x.1 ≤ (i : Int) - M ∧ (i : Int) - M ≤ x.2) || memB ((i : Int) - M) zs := by
      unfold cntL
      simp only [memB_cons]
    rw [e2] at e1
    unfold cntL at ih
    rw [e4, sumLen_cons, lenOf_in hx x1, ← ih]
    omega
theorem sumLen_incl {us cs az bs : List (Int × Int)} (hu : NF us) (hc : NF cs) (ha : NF az) (hb : NF bs) (ru : InR us) (rc : InR cs) (ra : InR az) (rb : InR bs)
    (h1 : ∀ n, memB n us = (memB n az || memB n bs)) (h2 : ∀ n, memB n cs = (memB n az && memB n bs)) : sumLen us = sumLen az + sumLen bs - sumLen cs := by
  obtain ⟨M, hM⟩ : ∃ M : Nat, (M : Int) = 1000000000000 := ⟨1000000000000, rfl⟩
  obtain ⟨N, hN⟩ : ∃ N : Nat, (N : Int) = 2000000000001 := ⟨2000000000001, rfl⟩
  rw [← cnt_sum M N hM hN us hu ru, ← cnt_sum M N hM hN cs hc rc, ← cnt_sum M N hM hN az ha ra, ← cnt_sum M N hM hN bs hb rb]
  have e1 := countP_or_and (fun i : Nat => memB ((i : Int) - M) az) (fun i => memB ((i : Int) - M) bs) (List.range N)
  unfold cntL
  simp only [h1, h2]
  omega

theorem errAll_of {xs : List (Int × Int)} (hv : Val xs) (hr : InR xs) : errAll xs = 0 := by
  unfold errAll
  have h1 : xs.any (fun x => outB x.1 x.2) = false := by
    rw [List.any_eq_false]
    intro x hx
    have := hr x hx
    unfold outB
    simp; omega
  have h2 : xs.any (fun x => decide (x.2 < x.1)) = false := by
    rw [List.any_eq_false]
    intro x hx
    have := hv x hx
    simp; omega
  rw [h1, h2]; rfl
theorem normL_of {xs zs : List (Int × Int)} (hv : Val xs) (hz : NF zs) (h : ∀ n, Mem n xs ↔ Mem n zs) : normL xs = zs :=
  nf_ext (normL_nf hv) hz fun n => (normL_mem hv n).trans (h n)
theorem normL_self {zs : List (Int × Int)} (hz : NF zs) : normL zs = zs := normL_of hz.1 hz fun _ => Iff.rfl
theorem partI_len (x y : Int × Int) : (partI x y).length ≤ 1 := by unfold partI; split <;> simp
theorem commonL_len (xs ys : List (Int × Int)) : (commonL xs ys).length ≤ xs.length + ys.length := by
  match xs, ys with
  | [], ys => rw [commonL]; simp
  | x :: xs, [] => rw [commonL]; simp
  | x :: xs, y :: ys =>
    have h1 := partI_len x y
    rw [commonL]
    split
    · have h2 := commonL_len xs (y :: ys)
      simp only [List.length_append, List.length_cons] at h2 ⊢
      omega
    · have h2 := commonL_len (x :: xs) ys
      simp only [List.length_append, List.length_cons] at h2 ⊢
      omega
termination_by xs.length + ys.length
end Go.Proofs.Ytiebchfdbejfbaa
