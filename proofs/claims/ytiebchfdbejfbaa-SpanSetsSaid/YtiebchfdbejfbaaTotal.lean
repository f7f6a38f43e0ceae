/- The sums of package span: total, Add, Sub, Sum. -/
import Derived.Test.YtiebchfdbejfbaaLoops
namespace Go.Proofs.Ytiebchfdbejfbaa
open Go.RowKit

def sumLo (xs : List (Int × Int)) : Int := (xs.map (·.1)).sum
def sumHi (xs : List (Int × Int)) : Int := (xs.map (·.2)).sum
theorem sumLo_snoc (ys : List (Int × Int)) (x : Int × Int) : sumLo (ys ++ [x]) = sumLo ys + x.1 := by simp [sumLo]
theorem sumHi_snoc (ys : List (Int × Int)) (x : Int × Int) : sumHi (ys ++ [x]) = sumHi ys + x.2 := by simp [sumHi]
theorem errAll_zero {xs : List (Int × Int)} (h : errAll xs = 0) : ∀ x ∈ xs, outB x.1 x.2 = false ∧ x.1 ≤ x.2 := by
  intro x hx
  unfold errAll at h
  by_cases h1 : xs.any (fun x => outB x.1 x.2) = true
  · rw [if_pos h1] at h; omega
  · rw [if_neg h1] at h
    by_cases h2 : xs.any (fun x => decide (x.2 < x.1)) = true
    · rw [if_pos h2] at h; omega
    · constructor
      · by_cases h3 : outB x.1 x.2 = true
        · exact absurd (List.any_eq_true.2 ⟨x, hx, h3⟩) h1
        · simpa using h3
      · by_cases h3 : x.2 < x.1
        · exact absurd (List.any_eq_true.2 ⟨x, hx, by simpa using h3⟩) h2
        · omega
/-- Sums of intervals in range are far from the ends of int. -/
theorem sum_bounds (xs : List (Int × Int)) (h : ∀ x ∈ xs, outB x.1 x.2 = false ∧ x.1 ≤ x.2) :
    -(1000000000000 * (xs.length : Int)) ≤ sumLo xs ∧ sumLo xs ≤ 1000000000000 * (xs.length : Int) ∧ -(1000000000000 * (xs.length : Int)) ≤ sumHi xs ∧ sumHi xs ≤ 1000000000000 * (xs.length : Int) := by
  induction xs with
  | nil => simp [sumLo, sumHi]
  | cons x xs ih =>
    obtain ⟨a, b, c, d⟩ := ih (fun y hy => h y (List.mem_cons_of_mem _ hy))
    obtain ⟨p, q, r, s⟩ := outB_false (h x List.mem_cons_self).1
    have e1 : sumLo (x :: xs) = x.1 + sumLo xs := by simp [sumLo]
    have e2 : sumHi (x :: xs) = x.2 + sumHi xs := by simp [sumHi]
    rw [e1, e2, List.length_cons]
    omega

/-- What total returns. -/
def totV (xs : List (Int × Int)) : Value := if errAll xs = 0 then resV (sumLo xs) (sumHi xs) else .tuple #[.agg #[.int .i64 0, .int .i64 0], .int .i64 (errAll xs)]

theorem total_any (A : Option Addr) (n c : Nat) (xs : List (Int × Int)) (w : World) (h : Ivs w w.heap.size A n xs) (hn : n ≤ 10000) :
    Calls Try.prog 42 #[.slice A n c] w fun e w' => e = .returned (totV xs) ∧ Below w.heap.size w w' := by
  by_cases hz : errAll xs = 0
  · have hall := errAll_zero hz
    have e0 : totV xs = resV (sumLo xs) (sumHi xs) := by simp [totV, hz]
    rw [e0]; clear e0
    have hbd := sum_bounds xs hall
    have Hz := Lib.hid hz
    have Hall := Lib.hid hall
    clear hz hall
    have hlen := h.len
    go_enter Try.func42, Try.ntmps42
    go_wp2_with (go_at_call 43; refine (checkAll_any _ _ _ xs _ (h.in_ (below_new (Nat.le_refl _) _) (by simp)) (by omega)).mono ?_; rintro e w1 ⟨rfl, hb⟩; obtain ⟨hc, hf⟩ := old_cells hb; have hzs := hb.size; simp at hzs; rw [Hz.out])
    have hbw : Below w.heap.size w w1 := (below_new (Nat.le_refl _) _).trans (hb.mono (by simp))
    have hres : IvBox w1 w.heap.size 0 0 := (IvBox.new w 0 0).below hb (by simp)
    clear hc hf
    go_loopw [17] (fun i wr => ∃ k : Nat, k ≤ n ∧ i = .int .i64 k ∧ IvBox wr w1.heap.size (sumLo (xs.take k)) (sumHi (xs.take k)) ∧ Below w1.heap.size w1 wr) (fun i _ => n - (intOf i).toNat)
    case atStart => exact ⟨0, Nat.zero_le _, rfl, IvBox.new _ _ _, below_new (Nat.le_refl _) _⟩
    case round =>
      obtain ⟨k, hk, rfl, hbox, hbel⟩ := hrel
      have hlt1 := hbox.lt
      by_cases hlt : k < n
      · obtain ⟨b, off, lo, hi, rfl, hbB, hx, hc1, hc2⟩ := ((h.below hbw).below (hbel.mono hbw.size)).at_ hlt
        have htk := take_next hx
        have ho := outB_false (Hall.out _ (List.mem_of_getElem? hx)).1
        dsimp only at ho
        obtain ⟨o1, o2, o3, o4⟩ := ho
        have hbk := sum_bounds (xs.take k) (fun x hx => Hall.out x (List.mem_of_mem_take hx))
        rw [List.length_take] at hbk
        have e1 : sumLo (xs.take (k + 1)) = sumLo (xs.take k) + lo := by rw [htk, sumLo_snoc]
        have e2 : sumHi (xs.take (k + 1)) = sumHi (xs.take k) + hi := by rw [htk, sumHi_snoc]
        have E1 := Lib.hid e1
        have E2 := Lib.hid e2
        obtain ⟨p1, p2, p3, p4⟩ := hbk
        have q1 : -20000000000000000 ≤ sumLo (xs.take k) := by omega
        have q2 : sumLo (xs.take k) ≤ 20000000000000000 := by omega
        have q3 : -20000000000000000 ≤ sumHi (xs.take k) := by omega
        have q4 : sumHi (xs.take k) ≤ 20000000000000000 := by omega
        clear e1 e2 htk hx p1 p2 p3 p4
        obtain ⟨hs0, hs1, hf0, hf1⟩ := hbox.facts
        go_wp2
        go_roundw
        case rel =>
          refine ⟨k + 1, by omega, by go_num, ?_, ?_⟩
          · rw [E1.out, E2.out]; exact (hbox.set _ _).alloc _
          · exact ((hbel.setCell (Nat.le_refl _) _).setCell (Nat.le_refl _) _).alloc (by simp; omega) _
        case measure => simp [intOf]; omega
      · have hkn : k = n := by omega
        subst hkn
        have hxk : xs.take k = xs := List.take_of_length_le (by omega)
        rw [hxk] at hbox
        clear hxk
        have hres2 := hres.below hbel (by omega)
        have hsz := hbel.size
        have hall2 : Below w.heap.size w wr := hbw.trans (hbel.mono hbw.size)
        clear hres
        obtain ⟨hs0, hs1, hf0, hf1⟩ := hbox.facts
        cases ho : outB (sumLo xs) (sumHi xs)
        · have e0 : resV (sumLo xs) (sumHi xs) = .tuple #[.agg #[.int .i64 (sumLo xs), .int .i64 (sumHi xs)], .int .i64 0] := by simp [resV, ho]
          have E0 := Lib.hid e0
          clear e0
          go_wp2_with (go_at_call 40; refine (inRange_any _ _ _).mono ?_; rintro e w2 ⟨rfl, hb2⟩; obtain ⟨r0, r1, rf0, rf1⟩ := (hres2.below hb2 (by omega)).facts; obtain ⟨t0, t1, tf0, tf1⟩ := (hbox.below hb2 (by omega)).facts)
          exact bodyPost_ret (v := .tuple #[.agg #[.int .i64 (sumLo xs), .int .i64 (sumHi xs)], .int .i64 0]) (by simp [results, Try.results42, go_sem, r0, r1]) rfl ⟨by rw [E0.out], ((hall2.trans (hb2.mono (by omega))).setCell (by simp) _).setCell (by simp) _⟩
        · have e0 : resV (sumLo xs) (sumHi xs) = .tuple #[.agg #[.int .i64 0, .int .i64 0], .int .i64 6] := by simp [resV, ho]
          have E0 := Lib.hid e0
          clear e0
          go_wp2_with (go_at_call 40; refine (inRange_any _ _ _).mono ?_; rintro e w2 ⟨rfl, hb2⟩; obtain ⟨r0, r1, rf0, rf1⟩ := (hres2.below hb2 (by omega)).facts; obtain ⟨t0, t1, tf0, tf1⟩ := (hbox.below hb2 (by omega)).facts)
          exact bodyPost_ret (v := .tuple #[.agg #[.int .i64 0, .int .i64 0], .int .i64 6]) (by simp [results, Try.results42, go_sem, r0, r1]) rfl ⟨by rw [E0.out], ((hall2.trans (hb2.mono (by omega))).setCell (by simp) _).setCell (by simp) _⟩
  · have e0 : totV xs = .tuple #[.agg #[.int .i64 0, .int .i64 0], .int .i64 (errAll xs)] := by simp [totV, hz]
    rw [e0]; clear e0
    have hne : (errAll xs != 0) = true := by simp [hz]
    clear hz
    go_enter Try.func42, Try.ntmps42
    go_wp2_with (go_at_call 43; refine (checkAll_any _ _ _ xs _ (h.in_ (below_new (Nat.le_refl _) _) (by simp)) (by omega)).mono ?_; rintro e w' ⟨rfl, hb⟩; obtain ⟨hc, hf⟩ := old_cells hb; have hzs := hb.size; simp at hzs)
    exact bodyPost_ret (v := .tuple #[.agg #[.int .i64 0, .int .i64 0], .int .i64 (errAll xs)]) (by simp [results, Try.results42, go_sem, hc]) rfl ⟨rfl, (((below_new (Nat.le_refl _) _).trans (hb.mono (by simp))).setCell (by simp) _).setCell (by simp) _⟩
end Go.Proofs.Ytiebchfdbejfbaa
