/- The walk of the statement SpanSound, given that the sort sorts. -/
import Derived.Test.YtiebchfdbejfbaaWPairs
import Derived.Deep.RegionHeld3
import Derived.Deep.DrawnRows
namespace Go.Proofs.Ytiebchfdbejfbaa
open Go.RowKit
attribute [local go_sem ↓] Go.wp_at_zero Go.wp_at_succ

/-- A list of numbers as it lies in memory. -/
def IntRow (w : World) (A : Option Addr) (n : Nat) (zs : List Int) : Prop :=
  zs.length = n ∧ (0 < n → ∃ b off, A = some ⟨b, off, none⟩ ∧ b < w.heap.size ∧ ∀ k z, zs[k]? = some z → w.cell? ⟨b, off + k, none⟩ = some (.int .i64 z))
theorem IntRow.kept {w w' : World} {A : Option Addr} {n : Nat} {zs : List Int} (h : IntRow w A n zs) (hb : Below w.heap.size w w') : IntRow w' A n zs :=
  ⟨h.1, fun hn => by
    obtain ⟨b, off, e, hB, hc⟩ := h.2 hn
    have := hb.size
    exact ⟨b, off, e, by omega, fun k z hz => (hb.cell (p := ⟨b, off + k, none⟩) hB).trans (hc k z hz)⟩⟩
theorem IntRow.at_ {w : World} {A : Option Addr} {n k : Nat} {zs : List Int} (h : IntRow w A n zs) (hk : k < n) : ∃ b off z, A = some ⟨b, off, none⟩ ∧ b < w.heap.size ∧ w.cell? ⟨b, off + k, none⟩ = some (.int .i64 z) := by
  obtain ⟨b, off, e, hB, hc⟩ := h.2 (by omega)
  have hl : k < zs.length := by have := h.1; omega
  exact ⟨b, off, zs[k], e, hB, hc k _ (List.getElem?_eq_getElem hl)⟩

theorem cell_kept' {W w1 : World} (hb : Below W.heap.size W w1) {g o : Nat} {v : Value} (h : W.cell? ⟨g, o, none⟩ = some v) : w1.cell? ⟨g, o, none⟩ = some v :=
  (hb.cell (p := ⟨g, o, none⟩) (World.block_lt_of_cell? _ _ h)).trans h
theorem acc_next' {w W w1 : World} (h : Below w.heap.size w W) (hb : Below W.heap.size W w1) : Below w.heap.size w w1 := h.trans (hb.mono h.size)

/-- What Sum's answer says of the list. -/
theorem totV_ok {xs : List (Int × Int)} {a b e0 : Int} (h : totV xs = pairV a b e0) : (e0 ≠ 0 ∧ a = 0 ∧ b = 0) ∨ (e0 = 0 ∧ errAll xs = 0 ∧ a = sumLo xs ∧ b = sumHi xs) := by
  unfold totV at h
  by_cases hz : errAll xs = 0
  · rw [if_pos hz] at h
    unfold resV at h
    split at h
    · simp at h; left; omega
    · simp at h; right; exact ⟨h.2.symm, hz, h.1.1.symm, h.1.2.symm⟩
  · rw [if_neg hz] at h
    simp at h; left; omega

theorem contains_e (lo hi n : Int) (w : World) (h1 : lo ≤ n) (h2 : n ≤ hi) :
    Calls Try.prog 13 #[.agg #[.int .i64 lo, .int .i64 hi], .int .i64 n] w fun e w' => e = .returned (.bool true) ∧ Below w.heap.size w w' := by
  have e : decide (lo ≤ n ∧ n ≤ hi) = true := decide_eq_true ⟨h1, h2⟩
  exact e ▸ contains_any lo hi n w
theorem u64_wrap (x : Int) : IntKind.u64.wrap x = x % 18446744073709551616 := by simp [IntKind.wrap, IntKind.bits, IntKind.signed]
theorem u64_nonneg (x : Int) : 0 ≤ IntKind.u64.wrap x := by rw [u64_wrap]; omega
theorem u64_small (x : Int) (h0 : 0 ≤ x) (h1 : x ≤ 9000000000000000000) : IntKind.u64.wrap x = x := by rw [u64_wrap]; omega

theorem spanSound_any (hsort : SortSaid) (A : Option Addr) (n c : Nat) (xs : List (Int × Int)) (A' : Option Addr) (n' c' : Nat) (zs : List Int) (w : World) (h : Ivs w w.heap.size A n xs) (h' : IntRow w A' n' zs) :
    Calls Try.prog 6 #[.slice A n c, .slice A' n' c'] w fun e w' => e = .returned (.bool true) ∧ Below w.heap.size w w' := by
  obtain ⟨a, b, e0, he⟩ := totV_form xs
  have hcase := totV_ok he
  have He := Lib.hid he
  clear he
  by_cases hlt : (30 : Int) < (n : Int) ∨ (n' : Int) < (n : Int)
  · rcases (show (30 : Int) < (n : Int) ∨ ((n : Int) ≤ 30 ∧ (n' : Int) < (n : Int)) from by omega) with h1 | ⟨h1, h2⟩
    all_goals
      go_enter Try.func6, Try.ntmps6
      go_wp2_with fail
      refine (awake_any hsort _).mono ?_
      rintro e w1 ⟨rfl, hb⟩
      go_wp2
      go_ret
      exact ⟨rfl, hb⟩
  · have hle : n ≤ 30 := by omega
    have hle2 : (n : Int) ≤ 30 := by omega
    have hle3 : (n : Int) ≤ (n' : Int) := by omega
    clear hlt
    rcases hcase with ⟨hne, rfl, rfl⟩ | ⟨rfl, hz, ha, hb⟩
    · have hd : (e0 != 0) = true := by simp [hne]
      clear hne
      go_enter Try.func6, Try.ntmps6
      go_wp2_with fail
      refine (awake_any hsort _).mono ?_
      rintro e w1 ⟨rfl, hb⟩
      have h1 : Ivs w1 w1.heap.size A n xs := h.in_ hb hb.size
      go_wp2_with fail
      refine (sum_any A n c xs _ h1 (by omega)).mono ?_
      rw [He.out]
      rintro e w2 ⟨rfl, hb2⟩
      have z1 := hb.size
      have z2 := hb2.size
      go_wp2
      go_ret
      exact ⟨rfl, by (repeat (first | exact Below.refl _ _ | (refine Below.setCell ?_ (by first | omega | (simp; done) | (simp; omega)) _) | (refine Below.alloc ?_ (by first | omega | (simp; done) | (simp; omega)) _) | (refine Below.trans ?_ (Below.mono hb (by first | omega | (simp; done) | (simp; omega)))) | (refine Below.trans ?_ (Below.mono hb2 (by first | omega | (simp; done) | (simp; omega))))))⟩
    · have hlen := h.len
      have hall := errAll_zero hz
      have Hz := Lib.hid hz
      have Hall := Lib.hid hall
      have Ha := Lib.hid ha
      have Hb := Lib.hid hb
      clear hz hall ha hb
      go_enter Try.func6, Try.ntmps6
      go_wp2_with fail
      refine (awake_any hsort _).mono ?_
      rintro e w1 ⟨rfl, hb⟩
      have h1 : Ivs w1 w1.heap.size A n xs := h.in_ hb hb.size
      have j1 := h'.kept hb
      go_wp2_with fail
      refine (sum_any A n c xs _ h1 (by omega)).mono ?_
      rw [He.out]
      rintro e w2 ⟨rfl, hb2⟩
      have h2 : Ivs w2 w2.heap.size A n xs := h1.in_ hb2 hb2.size
      have j2 := j1.kept hb2
      have z1 := hb.size
      have z2 := hb2.size
      have acc2 : Below w.heap.size w w2 := by (repeat (first | exact Below.refl _ _ | (refine Below.setCell ?_ (by first | omega | (simp; done) | (simp; omega)) _) | (refine Below.alloc ?_ (by first | omega | (simp; done) | (simp; omega)) _) | (refine Below.trans ?_ (Below.mono hb (by first | omega | (simp; done) | (simp; omega)))) | (refine Below.trans ?_ (Below.mono hb2 (by first | omega | (simp; done) | (simp; omega))))))
      clear hb hb2 h1 j1 h h'
      go_wp2_with fail
      refine (lists_any A none n c 0 0 xs [] _ (h2.in_ (below_new (Nat.le_refl _) _) (by simp)) Ivs.nil (by omega) (by omega)).mono ?_
      rw [List.append_nil, Hz.out]
      rintro e w3 ⟨rfl, hb3⟩
      have z3 := hb3.size
      simp at z3
      have acc3 : Below w.heap.size w w3 := by (repeat (first | exact Below.refl _ _ | (refine Below.setCell ?_ (by first | omega | (simp; done) | (simp; omega)) _) | (refine Below.alloc ?_ (by first | omega | (simp; done) | (simp; omega)) _) | (refine Below.trans ?_ (Below.mono acc2 (by first | omega | (simp; done) | (simp; omega)))) | (refine Below.trans ?_ (Below.mono hb3 (by first | omega | (simp; done) | (simp; omega))))))
      have hbox := (IvBox.new w2 a b).kept hb3
      have h3 : Ivs w3 w3.heap.size A n xs := h2.in_ ((below_new (Nat.le_refl _) _).trans (hb3.mono (by simp))) (by omega)
      have j3 := (j2.kept (below_new (Nat.le_refl _) (.cells #[.int .i64 a, .int .i64 b] 23))).kept hb3
      clear hb3 h2 j2 acc2
      go_wp2
      go_loopw [7, 8, 9, 10] (fun s l u i wr => ∃ (k : Nat) (t : Int), k ≤ n ∧ i = .int .i64 k ∧ s = .int .i64 t ∧ l = .int .i64 (sumLo (xs.take k)) ∧ u = .int .i64 (sumHi (xs.take k)) ∧ sumLo (xs.take k) ≤ t ∧ t ≤ sumHi (xs.take k) ∧ Below w3.heap.size w3 wr) (fun _ _ _ i _ => n - (intOf i).toNat)
      case atStart => exact ⟨0, 0, Nat.zero_le _, rfl, rfl, rfl, rfl, by simp [sumLo], by simp [sumHi], Below.refl _ _⟩
      case round =>
        obtain ⟨k, t, hk, rfl, rfl, rfl, rfl, ht1, ht2, hbel⟩ := hrel
        by_cases hlt : k < n
        · obtain ⟨b', off, lo, hi, rfl, hbB, hx, hc1, hc2⟩ := (h3.below hbel).at_ hlt
          have j4 := j3.kept hbel
          obtain ⟨b2, off2, z, rfl, hbB2, hc3⟩ := j4.at_ (show k < n' from by omega)
          have htk := take_next hx
          have hoo := (Hall.out _ (List.mem_of_getElem? hx))
          dsimp only at hoo
          obtain ⟨hoo1, hoo2⟩ := hoo
          obtain ⟨o1, o2, o3, o4⟩ := outB_false hoo1
          have hbk := sum_bounds (xs.take k) (fun x hx => Hall.out x (List.mem_of_mem_take hx))
          rw [List.length_take] at hbk
          have E1 := Lib.hid (show sumLo (xs.take (k + 1)) = sumLo (xs.take k) + lo by rw [htk, sumLo_snoc])
          have E2 := Lib.hid (show sumHi (xs.take (k + 1)) = sumHi (xs.take k) + hi by rw [htk, sumHi_snoc])
          obtain ⟨p1, p2, p3, p4⟩ := hbk
          have q1 : -20000000000000000 ≤ sumLo (xs.take k) := by omega
          have q2 : sumLo (xs.take k) ≤ 20000000000000000 := by omega
          have q3 : -20000000000000000 ≤ sumHi (xs.take k) := by omega
          have q4 : sumHi (xs.take k) ≤ 20000000000000000 := by omega
          have hL : lenOf lo hi = hi - lo + 1 := by unfold lenOf; rw [if_pos (errOf_ok hoo1 hoo2)]
          obtain ⟨L, hLd⟩ : ∃ L, L = hi - lo + 1 := ⟨_, rfl⟩
          rw [← hLd] at hL
          have HL := Lib.hid hL
          have L1 : 1 ≤ L := by omega
          have L2 : L ≤ 2000000000001 := by omega
          have HLd := Lib.hid hLd
          clear htk hx p1 p2 p3 p4 hoo1 hL hLd
          have g0 : (0 : Int) ≤ (k : Int) := by omega
          have g1 : (k : Int) < (n : Int) := by omega
          have g2 : (k : Int) < (n' : Int) := by omega
          obtain ⟨u, hu⟩ : ∃ u, IntKind.u64.wrap z = u := ⟨_, rfl⟩
          have hu0 : 0 ≤ u := by rw [← hu]; exact u64_nonneg z
          obtain ⟨r, hr⟩ : ∃ r, u % L = r := ⟨_, rfl⟩
          have hr0 : 0 ≤ r := by rw [← hr]; exact Int.emod_nonneg _ (by omega)
          have hr1 : r < L := by rw [← hr]; exact Int.emod_lt_of_pos _ (by omega)
          have hr2 : u.tmod L = r := by rw [Int.tmod_eq_emod_of_nonneg hu0]; exact hr
          have hwL : IntKind.u64.wrap L = L := u64_small L (by omega) (by omega)
          have hL0 : (L == 0) = false := by simp; omega
          have hLn : ¬ (L = 0) := by omega
          have hwr : IntKind.i64.wrap r = r := IntWalk.i64_in _ (by omega)
          have hws : IntKind.i64.wrap (lo + r) = lo + r := IntWalk.i64_in _ (by omega)
          have hwt : IntKind.i64.wrap (t + (lo + r)) = t + (lo + r) := IntWalk.i64_in _ (by omega)
          have hbd : Below wr.heap.size wr wr.drew := (Below.refl _ _).drew
          go_wp2
          go_region_held3 (fun w' => w'.cell? ⟨b', off + k * 2, none⟩ = some (.int .i64 lo) ∧ w'.cell? ⟨b', off + k * 2 + 1, none⟩ = some (.int .i64 hi) ∧ w'.cell? ⟨b2, off2 + k, none⟩ = some (.int .i64 z))
            (first | go_keep | exact ⟨by assumption, by assumption, by assumption⟩)
            (first
              | (go_at_call 18; refine (ref_length_any lo hi _).mono ?_; rw [HL.out]; rintro e w4 ⟨rfl, hb4⟩; have acc4 : Below wr.heap.size wr w4 := acc_next' (by assumption) hb4; have r0 : w4.cell? ⟨b', off + k * 2, none⟩ = some (.int .i64 lo) := cell_kept' hb4 (by assumption); have r1 : w4.cell? ⟨b', off + k * 2 + 1, none⟩ = some (.int .i64 hi) := cell_kept' hb4 (by assumption); have r2 : w4.cell? ⟨b2, off2 + k, none⟩ = some (.int .i64 z) := cell_kept' hb4 (by assumption)))
          go_wp2
          go_roundw
          case rel =>
            refine ⟨k + 1, t + (lo + r), by omega, by go_num, rfl, by rw [E1.out], by rw [E2.out], by rw [E1.out]; omega, ?_, hbel.trans (acc4.mono hbel.size)⟩
            rw [E2.out]
            have := HLd.out
            omega
          case measure => simp [intOf]; omega
        · have hkn : k = n := by omega
          subst hkn
          have hxk : xs.take k = xs := List.take_of_length_le (by omega)
          rw [hxk, ← Ha.out] at ht1
          rw [hxk, ← Hb.out] at ht2
          rw [hxk, ← Ha.out, ← Hb.out]
          clear hxk
          obtain ⟨y0, y1, _, _⟩ := (hbox.below hbel (by omega)).facts
          have acc5 : Below w.heap.size w wr := acc3.trans (hbel.mono acc3.size)
          go_wp2_with (go_at_call 13; refine (contains_e a b t _ ht1 ht2).mono ?_; rintro e w4 ⟨rfl, hb4⟩; have s0 : w4.cell? ⟨w2.heap.size, 0, none⟩ = some (.int .i64 a) := cell_kept' hb4 y0; have s1 : w4.cell? ⟨w2.heap.size, 1, none⟩ = some (.int .i64 b) := cell_kept' hb4 y1)
          go_ret
          exact ⟨rfl, acc_next' acc5 hb4⟩
end Go.Proofs.Ytiebchfdbejfbaa
