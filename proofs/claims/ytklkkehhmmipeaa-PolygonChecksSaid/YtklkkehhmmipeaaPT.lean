/- The bounds of a polygon: the package's. -/
import Derived.Test.YtklkkehhmmipeaaPQd
namespace Go.Proofs.Ytklkkehhmmipeaa
open Go.RowKit
attribute [local go_sem ↓] Go.wp_at_zero Go.wp_at_succ

set_option maxRecDepth 100000 in
set_option maxHeartbeats 3200000 in
theorem pBounds_no (A : Option Addr) (n c : Nat) (xs : List P2) (e0 : Int) (w : World) (h : Row w w.heap.size A n xs) (hn : n ≤ 2000) (he : chk xs [] = e0) (h0 : (e0 != 0) = true) :
    Calls Try.prog 15 #[.slice A n c] w fun e w' => e = .returned (.tuple #[v2 0 0, v2 0 0, .int .i64 e0]) ∧ Below w.heap.size w w' := by
  have He := Lib.hid he
  clear he
  go_enter Try.func15, Try.ntmps15
  go_wp2_with fail
  refine (checkE_any A n c xs none 0 0 [] e0 _ (h.in_ (by (repeat (first | with_reducible assumption | with_reducible exact Below.refl _ _ | simp only [Below.drew_iff] | simp only [Below.drewN_iff] | with_reducible refine Below.setCell ?_ (by first | omega | (simp; done) | (simp; omega)) _ | with_reducible refine Below.alloc ?_ (by first | omega | (simp; done) | (simp; omega)) _))) (by simp; omega)) hn Row.nil (by omega) He.out).mono ?_
  rintro e w1 ⟨rfl, hb1⟩
  have acc1 : Below w.heap.size w w1 := below_step (by (repeat (first | with_reducible assumption | with_reducible exact Below.refl _ _ | simp only [Below.drew_iff] | simp only [Below.drewN_iff] | with_reducible refine Below.setCell ?_ (by first | omega | (simp; done) | (simp; omega)) _ | with_reducible refine Below.alloc ?_ (by first | omega | (simp; done) | (simp; omega)) _))) hb1
  have L1 : Blk w1 w.heap.size [.int .i64 0, .int .i64 0] PTT := Blk.kept (by ((try simp only [Blk.drew_iff]); (try simp only [Blk.drewN_iff]); (try simp only [Blk.drew_iff]); repeat (first | with_reducible assumption | with_reducible exact Blk.new _ _ _ (by first | rfl | (simp; done) | (simp; omega)) | with_reducible refine Blk.alloc ?_ _ | with_reducible refine Blk.far ?_ (by first | (simp; done) | (simp; omega) | omega) _))) hb1
  have L2 : Blk w1 (w.heap.size + 1) [.int .i64 0, .int .i64 0] PTT := Blk.kept (by ((try simp only [Blk.drew_iff]); (try simp only [Blk.drewN_iff]); (try simp only [Blk.drew_iff]); repeat (first | with_reducible assumption | with_reducible exact Blk.new _ _ _ (by first | rfl | (simp; done) | (simp; omega)) | with_reducible refine Blk.alloc ?_ _ | with_reducible refine Blk.far ?_ (by first | (simp; done) | (simp; omega) | omega) _))) hb1
  obtain ⟨f1, f2, f3, f4⟩ := L1.two
  obtain ⟨f5, f6, f7, f8⟩ := L2.two
  clear hb1
  go_wp2
  refine bodyPost_ret (v := .tuple #[v2 0 0, v2 0 0, .int .i64 e0]) ?_ rfl ⟨rfl, ?_⟩
  · simp [results, Try.results15, go_sem, *]
  · exact (by (repeat (first | with_reducible assumption | with_reducible exact Below.refl _ _ | simp only [Below.drew_iff] | simp only [Below.drewN_iff] | with_reducible refine Below.setCell ?_ (by first | omega | (simp; done) | (simp; omega)) _ | with_reducible refine Below.alloc ?_ (by first | omega | (simp; done) | (simp; omega)) _)))

set_option maxRecDepth 100000 in
set_option maxHeartbeats 12800000 in
theorem pBounds_any (A : Option Addr) (n c : Nat) (xs : List P2) (w : World) (h : Row w w.heap.size A n xs) (hn : n ≤ 2000) (he : chk xs [] = 0) :
    Calls Try.prog 15 #[.slice A n c] w fun e w' => e = .returned (.tuple #[v2 (loTo xs n).1 (loTo xs n).2, v2 (hiTo xs n).1 (hiTo xs n).2, .int .i64 0]) ∧ Below w.heap.size w w' := by
  obtain ⟨g1, g2, _, _⟩ := chk_ok he
  have hl := h.len
  obtain ⟨b, off, x0, y0, rfl, hbB, hx0, hc1, hc2⟩ := h.at_ (show 0 < n by omega)
  have i0 : (0 : Int) < (n : Int) := by omega
  have hz : cor xs 0 = (x0, y0) := cor_eq hx0
  have hl0 : loTo xs 0 = (x0, y0) := hz
  have hh0 : hiTo xs 0 = (x0, y0) := hz
  have Hl := Lib.hid hl0
  have Hh := Lib.hid hh0
  have Hrow := Lib.hid h
  have He := Lib.hid he
  rw [Nat.zero_mul, Nat.add_zero] at hc1 hc2
  have HC := Lib.hid (show ∀ W, Below w.heap.size w W → W.cell? ⟨b, off, none⟩ = some (.int .i64 x0) ∧ W.cell? ⟨b, off + 1, none⟩ = some (.int .i64 y0) from fun W hb => ⟨(hb.cell (p := ⟨b, _, none⟩) hbB).trans hc1, (hb.cell (p := ⟨b, _, none⟩) hbB).trans hc2⟩)
  clear hz hl0 hh0 hx0 h he g1 g2 hl hc1 hc2
  go_enter Try.func15, Try.ntmps15
  go_wp2_with fail
  refine (checkE_any _ n c xs none 0 0 [] 0 _ (Hrow.out.in_ (by (repeat (first | with_reducible assumption | with_reducible exact Below.refl _ _ | simp only [Below.drew_iff] | simp only [Below.drewN_iff] | with_reducible refine Below.setCell ?_ (by first | omega | (simp; done) | (simp; omega)) _ | with_reducible refine Below.alloc ?_ (by first | omega | (simp; done) | (simp; omega)) _))) (by simp; omega)) hn Row.nil (by omega) He.out).mono ?_
  rintro e w1 ⟨rfl, hb1⟩
  have acc1 : Below w.heap.size w w1 := below_step (by (repeat (first | with_reducible assumption | with_reducible exact Below.refl _ _ | simp only [Below.drew_iff] | simp only [Below.drewN_iff] | with_reducible refine Below.setCell ?_ (by first | omega | (simp; done) | (simp; omega)) _ | with_reducible refine Below.alloc ?_ (by first | omega | (simp; done) | (simp; omega)) _))) hb1
  have zz1 := acc1.size
  have L1 : Blk w1 w.heap.size [.int .i64 0, .int .i64 0] PTT := Blk.kept (by ((try simp only [Blk.drew_iff]); (try simp only [Blk.drewN_iff]); (try simp only [Blk.drew_iff]); repeat (first | with_reducible assumption | with_reducible exact Blk.new _ _ _ (by first | rfl | (simp; done) | (simp; omega)) | with_reducible refine Blk.alloc ?_ _ | with_reducible refine Blk.far ?_ (by first | (simp; done) | (simp; omega) | omega) _))) hb1
  have L2 : Blk w1 (w.heap.size + 1) [.int .i64 0, .int .i64 0] PTT := Blk.kept (by ((try simp only [Blk.drew_iff]); (try simp only [Blk.drewN_iff]); (try simp only [Blk.drew_iff]); repeat (first | with_reducible assumption | with_reducible exact Blk.new _ _ _ (by first | rfl | (simp; done) | (simp; omega)) | with_reducible refine Blk.alloc ?_ _ | with_reducible refine Blk.far ?_ (by first | (simp; done) | (simp; omega) | omega) _))) hb1
  obtain ⟨f1, f2, f3, f4⟩ := L1.two
  obtain ⟨f5, f6, f7, f8⟩ := L2.two
  have l1 := L1.lt
  have l2 := L2.lt
  have hbz : b < w1.heap.size := by omega
  obtain ⟨c1, c2⟩ := HC.out _ acc1
  clear hb1
  go_wp2
  go_region
  · go_wp2
    go_loopw [25] (fun i wr => ∃ k : Nat, k ≤ n ∧ i = .int .i64 k ∧ Blk wr (w1.heap.size) [.int .i64 (loTo xs k).1, .int .i64 (loTo xs k).2] PTT ∧ Blk wr (w1.heap.size + 1) [.int .i64 (hiTo xs k).1, .int .i64 (hiTo xs k).2] PTT ∧ Blk wr w.heap.size [.int .i64 0, .int .i64 0] PTT ∧ Blk wr (w.heap.size + 1) [.int .i64 0, .int .i64 0] PTT ∧ Below w.heap.size w wr) (fun i _ => n - (intOf i).toNat)
    case atStart =>
      refine ⟨0, Nat.zero_le _, rfl, ?_, ?_, (by ((try simp only [Blk.drew_iff]); (try simp only [Blk.drewN_iff]); (try simp only [Blk.drew_iff]); repeat (first | with_reducible assumption | with_reducible exact Blk.new _ _ _ (by first | rfl | (simp; done) | (simp; omega)) | with_reducible refine Blk.alloc ?_ _ | with_reducible refine Blk.far ?_ (by first | (simp; done) | (simp; omega) | omega) _))), (by ((try simp only [Blk.drew_iff]); (try simp only [Blk.drewN_iff]); (try simp only [Blk.drew_iff]); repeat (first | with_reducible assumption | with_reducible exact Blk.new _ _ _ (by first | rfl | (simp; done) | (simp; omega)) | with_reducible refine Blk.alloc ?_ _ | with_reducible refine Blk.far ?_ (by first | (simp; done) | (simp; omega) | omega) _))), (by (repeat (first | with_reducible assumption | with_reducible exact Below.refl _ _ | simp only [Below.drew_iff] | simp only [Below.drewN_iff] | with_reducible refine Below.setCell ?_ (by first | omega | (simp; done) | (simp; omega)) _ | with_reducible refine Below.alloc ?_ (by first | omega | (simp; done) | (simp; omega)) _)))⟩
      · rw [Hl.out]; exact (by ((try simp only [Blk.drew_iff]); (try simp only [Blk.drewN_iff]); (try simp only [Blk.drew_iff]); repeat (first | with_reducible assumption | with_reducible exact Blk.new _ _ _ (by first | rfl | (simp; done) | (simp; omega)) | with_reducible refine Blk.alloc ?_ _ | with_reducible refine Blk.far ?_ (by first | (simp; done) | (simp; omega) | omega) _)))
      · rw [Hh.out]; exact (by ((try simp only [Blk.drew_iff]); (try simp only [Blk.drewN_iff]); (try simp only [Blk.drew_iff]); repeat (first | with_reducible assumption | with_reducible exact Blk.new _ _ _ (by first | rfl | (simp; done) | (simp; omega)) | with_reducible refine Blk.alloc ?_ _ | with_reducible refine Blk.far ?_ (by first | (simp; done) | (simp; omega) | omega) _)))
    case round =>
      obtain ⟨k, hk, rfl, b1, b2, b3, b4, hbel⟩ := hrel
      obtain ⟨⟨lx, ly⟩, hlo⟩ : ∃ p, loTo xs k = p := ⟨_, rfl⟩
      obtain ⟨⟨ux, uy⟩, hhi⟩ : ∃ p, hiTo xs k = p := ⟨_, rfl⟩
      rw [hlo] at b1
      rw [hhi] at b2
      clear f1 f2 f3 f4 f5 f6 f7 f8 c1 c2 L1 L2
      obtain ⟨f1, f2, f3, f4⟩ := b1.two
      obtain ⟨f5, f6, f7, f8⟩ := b2.two
      obtain ⟨f9, f10, f11, f12⟩ := b3.two
      obtain ⟨f13, f14, f15, f16⟩ := b4.two
      have t1 := b1.lt
      have t2 := b2.lt
      have hsz := hbel.size
      by_cases hlt : k < n
      · obtain ⟨b', off', x, y, hA, _, hx, hc1, hc2⟩ := (Hrow.out.below hbel).at_ hlt
        obtain ⟨rfl, rfl⟩ : b' = b ∧ off' = off := by simpa [eq_comm] using hA
        have hnl : loTo xs (k + 1) = (if x < lx then x else lx, if y < ly then y else ly) := by rw [loTo_next, hlo, cor_eq hx]
        have hnh : hiTo xs (k + 1) = (if ux < x then x else ux, if uy < y then y else uy) := by rw [hiTo_next, hhi, cor_eq hx]
        have Hnl := Lib.hid hnl
        have Hnh := Lib.hid hnh
        have i1 : (0 : Int) ≤ (k : Int) := by omega
        have i2 : (k : Int) < (n : Int) := by omega
        clear hx hA hnl hnh hlo hhi
        go_wp2
        go_roundw
        case rel =>
          rw [show (k : Int) + 1 = ((k + 1 : Nat) : Int) from by omega]
          refine ⟨k + 1, by omega, rfl, ?_, ?_, ?_, ?_, (by (repeat (first | with_reducible assumption | with_reducible exact Below.refl _ _ | simp only [Below.drew_iff] | simp only [Below.drewN_iff] | with_reducible refine Below.setCell ?_ (by first | omega | (simp; done) | (simp; omega)) _ | with_reducible refine Below.alloc ?_ (by first | omega | (simp; done) | (simp; omega)) _)))⟩
          · rw [Hnl.out]; exact (by (repeat (first | with_reducible assumption | with_reducible refine Blk.far ?_ (by first | (simp; done) | (simp; omega) | omega) _ | with_reducible refine Blk.alloc ?_ _ | with_reducible refine Blk.set2 (u := .int .i64 lx) (v := .int .i64 ly) ?_ _ _)))
          · rw [Hnh.out]; exact (by (repeat (first | with_reducible assumption | with_reducible refine Blk.far ?_ (by first | (simp; done) | (simp; omega) | omega) _ | with_reducible refine Blk.alloc ?_ _ | with_reducible refine Blk.set2 (u := .int .i64 ux) (v := .int .i64 uy) ?_ _ _)))
          · exact (by ((try simp only [Blk.drew_iff]); (try simp only [Blk.drewN_iff]); (try simp only [Blk.drew_iff]); repeat (first | with_reducible assumption | with_reducible exact Blk.new _ _ _ (by first | rfl | (simp; done) | (simp; omega)) | with_reducible refine Blk.alloc ?_ _ | with_reducible refine Blk.far ?_ (by first | (simp; done) | (simp; omega) | omega) _)))
          · exact (by ((try simp only [Blk.drew_iff]); (try simp only [Blk.drewN_iff]); (try simp only [Blk.drew_iff]); repeat (first | with_reducible assumption | with_reducible exact Blk.new _ _ _ (by first | rfl | (simp; done) | (simp; omega)) | with_reducible refine Blk.alloc ?_ _ | with_reducible refine Blk.far ?_ (by first | (simp; done) | (simp; omega) | omega) _)))
        case measure => simp [intOf]; omega
      · have e : k = n := by omega
        subst e
        have Hlo := Lib.hid hlo
        have Hhi := Lib.hid hhi
        clear hlo hhi
        go_wp2
        go_region
        all_goals
          go_wp2
          refine bodyPost_ret (v := .tuple #[v2 lx ly, v2 ux uy, .int .i64 0]) ?_ rfl ⟨?_, ?_⟩
          · simp [results, Try.results15, go_sem, *]
          · rw [Hlo.out, Hhi.out]
          · exact (by (repeat (first | with_reducible assumption | with_reducible exact Below.refl _ _ | simp only [Below.drew_iff] | simp only [Below.drewN_iff] | with_reducible refine Below.setCell ?_ (by first | omega | (simp; done) | (simp; omega)) _ | with_reducible refine Below.alloc ?_ (by first | omega | (simp; done) | (simp; omega)) _)))
  · go_wp2
    go_loopw [25] (fun i wr => ∃ k : Nat, k ≤ n ∧ i = .int .i64 k ∧ Blk wr (w1.heap.size + 1) [.int .i64 (loTo xs k).1, .int .i64 (loTo xs k).2] PTT ∧ Blk wr (w1.heap.size) [.int .i64 (hiTo xs k).1, .int .i64 (hiTo xs k).2] PTT ∧ Blk wr w.heap.size [.int .i64 0, .int .i64 0] PTT ∧ Blk wr (w.heap.size + 1) [.int .i64 0, .int .i64 0] PTT ∧ Below w.heap.size w wr) (fun i _ => n - (intOf i).toNat)
    case atStart =>
      refine ⟨0, Nat.zero_le _, rfl, ?_, ?_, (by ((try simp only [Blk.drew_iff]); (try simp only [Blk.drewN_iff]); (try simp only [Blk.drew_iff]); repeat (first | with_reducible assumption | with_reducible exact Blk.new _ _ _ (by first | rfl | (simp; done) | (simp; omega)) | with_reducible refine Blk.alloc ?_ _ | with_reducible refine Blk.far ?_ (by first | (simp; done) | (simp; omega) | omega) _))), (by ((try simp only [Blk.drew_iff]); (try simp only [Blk.drewN_iff]); (try simp only [Blk.drew_iff]); repeat (first | with_reducible assumption | with_reducible exact Blk.new _ _ _ (by first | rfl | (simp; done) | (simp; omega)) | with_reducible refine Blk.alloc ?_ _ | with_reducible refine Blk.far ?_ (by first | (simp; done) | (simp; omega) | omega) _))), (by (repeat (first | with_reducible assumption | with_reducible exact Below.refl _ _ | simp only [Below.drew_iff] | simp only [Below.drewN_iff] | with_reducible refine Below.setCell ?_ (by first | omega | (simp; done) | (simp; omega)) _ | with_reducible refine Below.alloc ?_ (by first | omega | (simp; done) | (simp; omega)) _)))⟩
      · rw [Hl.out]; exact (by ((try simp only [Blk.drew_iff]); (try simp only [Blk.drewN_iff]); (try simp only [Blk.drew_iff]); repeat (first | with_reducible assumption | with_reducible exact Blk.new _ _ _ (by first | rfl | (simp; done) | (simp; omega)) | with_reducible refine Blk.alloc ?_ _ | with_reducible refine Blk.far ?_ (by first | (simp; done) | (simp; omega) | omega) _)))
      · rw [Hh.out]; exact (by ((try simp only [Blk.drew_iff]); (try simp only [Blk.drewN_iff]); (try simp only [Blk.drew_iff]); repeat (first | with_reducible assumption | with_reducible exact Blk.new _ _ _ (by first | rfl | (simp; done) | (simp; omega)) | with_reducible refine Blk.alloc ?_ _ | with_reducible refine Blk.far ?_ (by first | (simp; done) | (simp; omega) | omega) _)))
    case round =>
      obtain ⟨k, hk, rfl, b1, b2, b3, b4, hbel⟩ := hrel
      obtain ⟨⟨lx, ly⟩, hlo⟩ : ∃ p, loTo xs k = p := ⟨_, rfl⟩
      obtain ⟨⟨ux, uy⟩, hhi⟩ : ∃ p, hiTo xs k = p := ⟨_, rfl⟩
      rw [hlo] at b1
      rw [hhi] at b2
      clear f1 f2 f3 f4 f5 f6 f7 f8 c1 c2 L1 L2
      obtain ⟨f1, f2, f3, f4⟩ := b1.two
      obtain ⟨f5, f6, f7, f8⟩ := b2.two
      obtain ⟨f9, f10, f11, f12⟩ := b3.two
      obtain ⟨f13, f14, f15, f16⟩ := b4.two
      have t1 := b1.lt
      have t2 := b2.lt
      have hsz := hbel.size
      by_cases hlt : k < n
      · obtain ⟨b', off', x, y, hA, _, hx, hc1, hc2⟩ := (Hrow.out.below hbel).at_ hlt
        obtain ⟨rfl, rfl⟩ : b' = b ∧ off' = off := by simpa [eq_comm] using hA
        have hnl : loTo xs (k + 1) = (if x < lx then x else lx, if y < ly then y else ly) := by rw [loTo_next, hlo, cor_eq hx]
        have hnh : hiTo xs (k + 1) = (if ux < x then x else ux, if uy < y then y else uy) := by rw [hiTo_next, hhi, cor_eq hx]
        have Hnl := Lib.hid hnl
        have Hnh := Lib.hid hnh
        have i1 : (0 : Int) ≤ (k : Int) := by omega
        have i2 : (k : Int) < (n : Int) := by omega
        clear hx hA hnl hnh hlo hhi
        go_wp2
        go_roundw
        case rel =>
          rw [show (k : Int) + 1 = ((k + 1 : Nat) : Int) from by omega]
          refine ⟨k + 1, by omega, rfl, ?_, ?_, ?_, ?_, (by (repeat (first | with_reducible assumption | with_reducible exact Below.refl _ _ | simp only [Below.drew_iff] | simp only [Below.drewN_iff] | with_reducible refine Below.setCell ?_ (by first | omega | (simp; done) | (simp; omega)) _ | with_reducible refine Below.alloc ?_ (by first | omega | (simp; done) | (simp; omega)) _)))⟩
          · rw [Hnl.out]; exact (by (repeat (first | with_reducible assumption | with_reducible refine Blk.far ?_ (by first | (simp; done) | (simp; omega) | omega) _ | with_reducible refine Blk.alloc ?_ _ | with_reducible refine Blk.set2 (u := .int .i64 lx) (v := .int .i64 ly) ?_ _ _)))
          · rw [Hnh.out]; exact (by (repeat (first | with_reducible assumption | with_reducible refine Blk.far ?_ (by first | (simp; done) | (simp; omega) | omega) _ | with_reducible refine Blk.alloc ?_ _ | with_reducible refine Blk.set2 (u := .int .i64 ux) (v := .int .i64 uy) ?_ _ _)))
          · exact (by ((try simp only [Blk.drew_iff]); (try simp only [Blk.drewN_iff]); (try simp only [Blk.drew_iff]); repeat (first | with_reducible assumption | with_reducible exact Blk.new _ _ _ (by first | rfl | (simp; done) | (simp; omega)) | with_reducible refine Blk.alloc ?_ _ | with_reducible refine Blk.far ?_ (by first | (simp; done) | (simp; omega) | omega) _)))
          · exact (by ((try simp only [Blk.drew_iff]); (try simp only [Blk.drewN_iff]); (try simp only [Blk.drew_iff]); repeat (first | with_reducible assumption | with_reducible exact Blk.new _ _ _ (by first | rfl | (simp; done) | (simp; omega)) | with_reducible refine Blk.alloc ?_ _ | with_reducible refine Blk.far ?_ (by first | (simp; done) | (simp; omega) | omega) _)))
        case measure => simp [intOf]; omega
      · have e : k = n := by omega
        subst e
        have Hlo := Lib.hid hlo
        have Hhi := Lib.hid hhi
        clear hlo hhi
        go_wp2
        go_region
        all_goals
          go_wp2
          refine bodyPost_ret (v := .tuple #[v2 lx ly, v2 ux uy, .int .i64 0]) ?_ rfl ⟨?_, ?_⟩
          · simp [results, Try.results15, go_sem, *]
          · rw [Hlo.out, Hhi.out]
          · exact (by (repeat (first | with_reducible assumption | with_reducible exact Below.refl _ _ | simp only [Below.drew_iff] | simp only [Below.drewN_iff] | with_reducible refine Below.setCell ?_ (by first | omega | (simp; done) | (simp; omega)) _ | with_reducible refine Below.alloc ?_ (by first | omega | (simp; done) | (simp; omega)) _)))
end Go.Proofs.Ytklkkehhmmipeaa
