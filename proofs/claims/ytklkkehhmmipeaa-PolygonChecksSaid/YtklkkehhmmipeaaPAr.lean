/- The reference's doubled area. -/
import Derived.Test.YtklkkehhmmipeaaPN
namespace Go.Proofs.Ytklkkehhmmipeaa
open Go.RowKit
attribute [local go_sem ↓] Go.wp_at_zero Go.wp_at_succ

set_option maxRecDepth 100000 in
set_option maxHeartbeats 6400000 in
theorem refArea2_any (A : Option Addr) (n c : Nat) (xs : List P2) (w : World) (h : Row w w.heap.size A n xs) (hn : n ≤ 64) (hall : allP xs = true) :
    Calls Try.prog 21 #[.slice A n c] w fun e w' => e = .returned (.int .i64 (areaTo xs n)) ∧ Below w.heap.size w w' := by
  have hl := h.len
  have Hall := Lib.hid hall
  have Hl := Lib.hid hl
  clear hall hl
  go_enter Try.func21, Try.ntmps21
  go_wp2
  go_loopw [3, 4] (fun s i wr => ∃ k : Nat, k ≤ n ∧ i = .int .i64 k ∧ s = .int .i64 (areaTo xs k) ∧ Below w.heap.size w wr) (fun _ i _ => n - (intOf i).toNat)
  case atStart => exact ⟨0, Nat.zero_le _, rfl, rfl, Below.refl _ _⟩
  case round =>
    obtain ⟨k, hk, rfl, rfl, hbel⟩ := hrel
    by_cases hlt : k < n
    · obtain ⟨b, off, x, y, hA, hbB, hx, hc1, hc2⟩ := h.at_ hlt
      obtain ⟨m, x2, y2, hm, hm', hml, hx2, hnx⟩ := next_is (k := k) Hl.out (by omega)
      obtain ⟨b', off', x2', y2', hA', _, hx2', hc3, hc4⟩ := h.at_ hml
      subst hA
      obtain ⟨rfl, rfl⟩ : b = b' ∧ off = off' := by simpa using hA'
      obtain ⟨rfl, rfl⟩ : x2 = x2' ∧ y2 = y2' := by rw [hx2] at hx2'; simpa using hx2'
      have hW : ∀ W, Below w.heap.size w W → W.cell? ⟨b, off + k * 2, none⟩ = some (.int .i64 x) ∧ W.cell? ⟨b, off + k * 2 + 1, none⟩ = some (.int .i64 y) ∧ W.cell? ⟨b, off + m * 2, none⟩ = some (.int .i64 x2) ∧ W.cell? ⟨b, off + m * 2 + 1, none⟩ = some (.int .i64 y2) := fun W hb =>
        ⟨(hb.cell (p := ⟨b, _, none⟩) hbB).trans hc1, (hb.cell (p := ⟨b, _, none⟩) hbB).trans hc2, (hb.cell (p := ⟨b, _, none⟩) hbB).trans hc3, (hb.cell (p := ⟨b, _, none⟩) hbB).trans hc4⟩
      have HW := Lib.hid hW
      obtain ⟨s1, s2, s3, s4⟩ := hW _ hbel
      have hsz := hbel.size
      obtain ⟨b1, b2⟩ := inP_at Hall.out hx
      obtain ⟨b3, b4⟩ := inP_at Hall.out hx2
      obtain ⟨m1, m1'⟩ := mul_in b1.1 b1.2 b4.1 b4.2
      obtain ⟨m2, m2'⟩ := mul_in b3.1 b3.2 b2.1 b2.2
      obtain ⟨bd, bd'⟩ := areaTo_bd xs Hall.out (by rw [Hl.out]; omega) k (by rw [Hl.out]; omega)
      have hs : areaTo xs (k + 1) = areaTo xs k + (x * y2 - x2 * y) := by show areaTo xs k + _ = _; rw [cor_eq hx, hnx]
      obtain ⟨s, hS⟩ : ∃ s, areaTo xs k = s := ⟨_, rfl⟩
      rw [hS] at bd bd' hs
      have Hs := Lib.hid hs
      have Hm := Lib.hid hm
      rw [hS]
      have i1 : (0 : Int) ≤ (k : Int) := by omega
      have i2 : (k : Int) < (n : Int) := by omega
      have i3 : (0 : Int) ≤ (m : Int) := by omega
      have i4 : (m : Int) < (n : Int) := by omega
      have w1 : IntKind.i64.wrap (x * y2) = x * y2 := IntWalk.i64_in _ (by omega)
      have w2 : IntKind.i64.wrap (x2 * y) = x2 * y := IntWalk.i64_in _ (by omega)
      have w3 : IntKind.i64.wrap (x * y2 - x2 * y) = x * y2 - x2 * y := IntWalk.i64_in _ (by omega)
      have w4 : IntKind.i64.wrap (s + (x * y2 - x2 * y)) = s + (x * y2 - x2 * y) := IntWalk.i64_in _ (by omega)
      clear hx hx2 hx2' hm hm' hnx h hs hS b1 b2 b3 b4 hW hc1 hc2 hc3 hc4 hA'
      go_wp2_with fail
      refine (refNext_any _ n _ (k : Int) m _ (by omega) (by omega) (by omega) (by omega) Hm.out).mono ?_
      rintro e w0 ⟨rfl, rfl⟩
      go_wp2
      go_region_held3 (fun w' => w'.cell? ⟨b, off + k * 2, none⟩ = some (.int .i64 x) ∧ w'.cell? ⟨b, off + k * 2 + 1, none⟩ = some (.int .i64 y) ∧ w'.cell? ⟨b, off + m * 2, none⟩ = some (.int .i64 x2) ∧ w'.cell? ⟨b, off + m * 2 + 1, none⟩ = some (.int .i64 y2))
        (first | (refine ⟨?_, ?_, ?_, ?_⟩ <;> with_reducible assumption) | exact ⟨(HW.out _ (by (repeat (first | with_reducible assumption | with_reducible exact Below.refl _ _ | simp only [Below.drew_iff] | simp only [Below.drewN_iff] | with_reducible refine Below.setCell ?_ (by first | omega | (simp; done) | (simp; omega)) _ | with_reducible refine Below.alloc ?_ (by first | omega | (simp; done) | (simp; omega)) _)))).1, (HW.out _ (by (repeat (first | with_reducible assumption | with_reducible exact Below.refl _ _ | simp only [Below.drew_iff] | simp only [Below.drewN_iff] | with_reducible refine Below.setCell ?_ (by first | omega | (simp; done) | (simp; omega)) _ | with_reducible refine Below.alloc ?_ (by first | omega | (simp; done) | (simp; omega)) _)))).2.1, (HW.out _ (by (repeat (first | with_reducible assumption | with_reducible exact Below.refl _ _ | simp only [Below.drew_iff] | simp only [Below.drewN_iff] | with_reducible refine Below.setCell ?_ (by first | omega | (simp; done) | (simp; omega)) _ | with_reducible refine Below.alloc ?_ (by first | omega | (simp; done) | (simp; omega)) _)))).2.2.1, (HW.out _ (by (repeat (first | with_reducible assumption | with_reducible exact Below.refl _ _ | simp only [Below.drew_iff] | simp only [Below.drewN_iff] | with_reducible refine Below.setCell ?_ (by first | omega | (simp; done) | (simp; omega)) _ | with_reducible refine Below.alloc ?_ (by first | omega | (simp; done) | (simp; omega)) _)))).2.2.2⟩ | go_keep)
        (fail)
      go_wp2
      go_roundw
      case rel => exact ⟨k + 1, by omega, by go_num, by rw [Hs.out], (by (repeat (first | with_reducible assumption | with_reducible exact Below.refl _ _ | simp only [Below.drew_iff] | simp only [Below.drewN_iff] | with_reducible refine Below.setCell ?_ (by first | omega | (simp; done) | (simp; omega)) _ | with_reducible refine Below.alloc ?_ (by first | omega | (simp; done) | (simp; omega)) _)))⟩
      case measure => simp [intOf]; omega
    · have e : n = k := by omega
      subst e
      go_wp2
      go_ret
      exact ⟨rfl, hbel⟩
end Go.Proofs.Ytklkkehhmmipeaa
