/- The bounds of a polygon: the reference's. -/
import Derived.Test.YtklkkehhmmipeaaPQd
namespace Go.Proofs.Ytklkkehhmmipeaa
open Go.RowKit
attribute [local go_sem ↓] Go.wp_at_zero Go.wp_at_succ

set_option maxRecDepth 100000 in
set_option maxHeartbeats 6400000 in
theorem refBounds_any (A : Option Addr) (n c : Nat) (xs : List P2) (w : World) (h : Row w w.heap.size A n xs) (h0 : 0 < n) (hn : n ≤ 2000) :
    Calls Try.prog 20 #[.slice A n c] w fun e w' => e = .returned (.tuple #[v2 (loTo xs n).1 (loTo xs n).2, v2 (hiTo xs n).1 (hiTo xs n).2]) ∧ Below w.heap.size w w' := by
  obtain ⟨b, off, x0, y0, rfl, hbB, hx0, hc1, hc2⟩ := h.at_ h0
  have hz : cor xs 0 = (x0, y0) := cor_eq hx0
  have hl : loTo xs 0 = (x0, y0) := hz
  have hh : hiTo xs 0 = (x0, y0) := hz
  have Hl := Lib.hid hl
  have Hh := Lib.hid hh
  have Hrow := Lib.hid h
  rw [Nat.zero_mul, Nat.add_zero] at hc1 hc2
  clear hz hl hh hx0 h
  have i0 : (0 : Int) < (n : Int) := by omega
  have hb2 : b < w.heap.size + 1 := by omega
  have hb3 : b < w.heap.size + 1 + 1 := by omega
  have hb4 : b < w.heap.size + 1 + 1 + 1 := by omega
  go_enter Try.func20, Try.ntmps20
  go_wp2
  go_loopw [6] (fun i wr => ∃ k : Nat, k ≤ n ∧ i = .int .i64 k ∧ Blk wr (w.heap.size + 1 + 1) [.int .i64 (loTo xs k).1, .int .i64 (loTo xs k).2] PTT ∧ Blk wr (w.heap.size + 1 + 1 + 1) [.int .i64 (hiTo xs k).1, .int .i64 (hiTo xs k).2] PTT ∧ Blk wr w.heap.size [.int .i64 0, .int .i64 0] PTT ∧ Blk wr (w.heap.size + 1) [.int .i64 0, .int .i64 0] PTT ∧ Below w.heap.size w wr) (fun i _ => n - (intOf i).toNat)
  case atStart =>
    refine ⟨0, Nat.zero_le _, rfl, ?_, ?_, (by ((try simp only [Blk.drew_iff]); (try simp only [Blk.drewN_iff]); (try simp only [Blk.drew_iff]); repeat (first | with_reducible assumption | with_reducible exact Blk.new _ _ _ (by first | rfl | (simp; done) | (simp; omega)) | with_reducible refine Blk.alloc ?_ _ | with_reducible refine Blk.far ?_ (by first | (simp; done) | (simp; omega) | omega) _))), (by ((try simp only [Blk.drew_iff]); (try simp only [Blk.drewN_iff]); (try simp only [Blk.drew_iff]); repeat (first | with_reducible assumption | with_reducible exact Blk.new _ _ _ (by first | rfl | (simp; done) | (simp; omega)) | with_reducible refine Blk.alloc ?_ _ | with_reducible refine Blk.far ?_ (by first | (simp; done) | (simp; omega) | omega) _))), (by (repeat (first | with_reducible assumption | with_reducible exact Below.refl _ _ | simp only [Below.drew_iff] | simp only [Below.drewN_iff] | with_reducible refine Below.setCell ?_ (by first | omega | (simp; done) | (simp; omega)) _ | with_reducible refine Below.alloc ?_ (by first | omega | (simp; done) | (simp; omega)) _)))⟩
    · rw [Hl.out]; exact (by (repeat (first | with_reducible exact Blk.new _ _ _ (by first | rfl | (simp; done) | (simp; omega)) | with_reducible refine Blk.alloc ?_ _)))
    · rw [Hh.out]; exact (by (repeat (first | with_reducible exact Blk.new _ _ _ (by first | rfl | (simp; done) | (simp; omega)) | with_reducible refine Blk.alloc ?_ _)))
  case round =>
    obtain ⟨k, hk, rfl, b1, b2, b3, b4, hbel⟩ := hrel
    obtain ⟨⟨lx, ly⟩, hlo⟩ : ∃ p, loTo xs k = p := ⟨_, rfl⟩
    obtain ⟨⟨ux, uy⟩, hhi⟩ : ∃ p, hiTo xs k = p := ⟨_, rfl⟩
    rw [hlo] at b1
    rw [hhi] at b2
    obtain ⟨f1, f2, f3, f4⟩ := b1.two
    obtain ⟨f5, f6, f7, f8⟩ := b2.two
    obtain ⟨f9, f10, f11, f12⟩ := b3.two
    obtain ⟨f13, f14, f15, f16⟩ := b4.two
    have t1 := b1.lt
    have t2 := b2.lt
    have hsz := hbel.size
    clear hc1 hc2
    by_cases hlt : k < n
    · obtain ⟨b', off', x, y, hA, _, hx, hc1, hc2⟩ := (Hrow.out.below hbel).at_ hlt
      obtain ⟨rfl, rfl⟩ : b' = b ∧ off' = off := by simpa [eq_comm] using hA
      have hnl : loTo xs (k + 1) = (if x < lx then x else lx, if y < ly then y else ly) := by rw [loTo_next, hlo, cor_eq hx]
      have hnh : hiTo xs (k + 1) = (if ux < x then x else ux, if uy < y then y else uy) := by rw [hiTo_next, hhi, cor_eq hx]
      have Hnl := Lib.hid hnl
      have Hnh := Lib.hid hnh
      have i1 : (0 : Int) ≤ (k : Int) := by omega
      have i2 : (k : Int) < (n : Int) := by omega
      have Hx := Lib.hid hx
      clear hx hA hnl hnh hlo hhi
      obtain ⟨p1, e1⟩ : ∃ p, (if x < lx then x else lx) = p := ⟨_, rfl⟩
      obtain ⟨p2, e2⟩ : ∃ p, (if y < ly then y else ly) = p := ⟨_, rfl⟩
      obtain ⟨p3, e3⟩ : ∃ p, (if ux < x then x else ux) = p := ⟨_, rfl⟩
      obtain ⟨p4, e4⟩ : ∃ p, (if uy < y then y else uy) = p := ⟨_, rfl⟩
      have Hnl2 : Hid (loTo xs (k + 1) = (p1, p2)) := Lib.hid (by rw [Hnl.out, e1, e2])
      have Hnh2 : Hid (hiTo xs (k + 1) = (p3, p4)) := Lib.hid (by rw [Hnh.out, e3, e4])
      clear Hnl Hnh Hx
      go_wp2
      go_region
      go_wp2
      go_region
      go_wp2
      clear e1 e2 e3 e4
      go_roundw
      case rel =>
        rw [show (k : Int) + 1 = ((k + 1 : Nat) : Int) from by omega]
        refine ⟨k + 1, by omega, rfl, ?_, ?_, ?_, ?_, (by (repeat (first | with_reducible assumption | with_reducible exact Below.refl _ _ | simp only [Below.drew_iff] | simp only [Below.drewN_iff] | with_reducible refine Below.setCell ?_ (by first | omega | (simp; done) | (simp; omega)) _ | with_reducible refine Below.alloc ?_ (by first | omega | (simp; done) | (simp; omega)) _)))⟩
        · rw [Hnl2.out]; exact (by (repeat (first | with_reducible assumption | simp only [Blk.drew_iff] | simp only [Blk.drewN_iff] | with_reducible refine Blk.far ?_ (by first | (simp; done) | (simp; omega) | omega) _ | with_reducible refine Blk.alloc ?_ _ | with_reducible refine Blk.set2 (u := .int .i64 lx) (v := .int .i64 ly) ?_ _ _)))
        · rw [Hnh2.out]; exact (by (repeat (first | with_reducible assumption | simp only [Blk.drew_iff] | simp only [Blk.drewN_iff] | with_reducible refine Blk.far ?_ (by first | (simp; done) | (simp; omega) | omega) _ | with_reducible refine Blk.alloc ?_ _ | with_reducible refine Blk.set2 (u := .int .i64 ux) (v := .int .i64 uy) ?_ _ _)))
        · exact (by ((try simp only [Blk.drew_iff]); (try simp only [Blk.drewN_iff]); (try simp only [Blk.drew_iff]); repeat (first | with_reducible assumption | with_reducible exact Blk.new _ _ _ (by first | rfl | (simp; done) | (simp; omega)) | with_reducible refine Blk.alloc ?_ _ | with_reducible refine Blk.far ?_ (by first | (simp; done) | (simp; omega) | omega) _)))
        · exact (by ((try simp only [Blk.drew_iff]); (try simp only [Blk.drewN_iff]); (try simp only [Blk.drew_iff]); repeat (first | with_reducible assumption | with_reducible exact Blk.new _ _ _ (by first | rfl | (simp; done) | (simp; omega)) | with_reducible refine Blk.alloc ?_ _ | with_reducible refine Blk.far ?_ (by first | (simp; done) | (simp; omega) | omega) _)))
      case measure => simp [intOf]; omega
    · have e : k = n := by omega
      subst e
      have Hlo := Lib.hid hlo
      have Hhi := Lib.hid hhi
      clear hlo hhi
      go_wp2
      go_region
      all_goals
        go_wp2
        refine bodyPost_ret (v := .tuple #[v2 lx ly, v2 ux uy]) ?_ rfl ⟨?_, ?_⟩
        · simp [results, Try.results20, go_sem, *]
        · rw [Hlo.out, Hhi.out]
        · exact (by (repeat (first | with_reducible assumption | with_reducible exact Below.refl _ _ | simp only [Below.drew_iff] | simp only [Below.drewN_iff] | with_reducible refine Below.setCell ?_ (by first | omega | (simp; done) | (simp; omega)) _ | with_reducible refine Below.alloc ?_ (by first | omega | (simp; done) | (simp; omega)) _)))

end Go.Proofs.Ytklkkehhmmipeaa
