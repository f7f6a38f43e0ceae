/- Package polygon: convex. -/
import Derived.Test.YtklkkehhmmipeaaPD
namespace Go.Proofs.Ytklkkehhmmipeaa
open Go.RowKit
attribute [local go_sem ↓] Go.wp_at_zero Go.wp_at_succ

def leftAt (xs : List P2) (k : Nat) : Bool := decide (turnM (cor xs k) (nxt xs k) (nxt xs (k + 1)) = 1)
def leftM (xs : List P2) : Bool := (List.range xs.length).all (leftAt xs)
def convexM (xs : List P2) : Bool := leftM xs && simpleM xs

set_option maxRecDepth 100000 in
set_option maxHeartbeats 3200000 in
theorem pConvex_any (A : Option Addr) (n c : Nat) (xs : List P2) (w : World) (h : Row w w.heap.size A n xs) (hn : n ≤ 2000) (he : chk xs [] = 0) :
    Calls Try.prog 26 #[.slice A n c] w fun e w' => e = .returned (.tuple #[.bool (convexM xs), .int .i64 0]) ∧ Below w.heap.size w w' := by
  obtain ⟨h1, h2, h3, _⟩ := chk_ok he
  have hl := h.len
  have hn64 : n ≤ 64 := by omega
  have He := Lib.hid he
  have Hall := Lib.hid h3
  have Hl := Lib.hid hl
  clear h1 h2 h3 he hl
  go_enter Try.func26, Try.ntmps26
  go_wp2_with fail
  refine (checkE_any A n c xs none 0 0 [] 0 _ h hn Row.nil (by omega) He.out).mono ?_
  rintro e w0 ⟨rfl, hb0⟩
  go_wp2
  go_loopw [14] (fun i wr => ∃ k : Nat, k ≤ n ∧ i = .int .i64 k ∧ (List.range k).all (leftAt xs) = true ∧ Below w.heap.size w wr) (fun i _ => n - (intOf i).toNat)
  case atStart => exact ⟨0, Nat.zero_le _, rfl, rfl, hb0⟩
  case round =>
    obtain ⟨k, hk, rfl, hno, hbel⟩ := hrel
    have Hno := Lib.hid hno
    clear hno hb0
    by_cases hlt : k < n
    · have hrow := h.below hbel
      obtain ⟨b, off, x, y, hA, hbB, hx, hc1, hc2⟩ := hrow.at_ hlt
      obtain ⟨m, x2, y2, hm, _, hml, hx2, hnx⟩ := next_is (k := k) Hl.out (by omega)
      obtain ⟨m', x3, y3, hm', _, hml', hx3, hnx3⟩ := next_is2 (k := k) Hl.out (by omega)
      have hsz := hbel.size
      have hwr : IntKind.i64.wrap ((k : Int) + 1) = (k : Int) + 1 := IntWalk.i64_in _ (by omega)
      have hq : leftAt xs k = decide (turnM (x, y) (x2, y2) (x3, y3) = 1) := by unfold leftAt; rw [cor_eq hx, hnx, hnx3]
      obtain ⟨q, hqe⟩ : ∃ q, turnM (x, y) (x2, y2) (x3, y3) = q := ⟨_, rfl⟩
      have hor : ∀ W, Calls Try.prog 23 #[v2 x y, v2 x2 y2, v2 x3 y3] W fun e w' => e = .returned (.int .i64 q) ∧ Below W.heap.size W w' := fun W => orient_any (x, y) (x2, y2) (x3, y3) q W (by rw [orient_ok (inP_at' Hall.out hx) (inP_at' Hall.out hx2) (inP_at' Hall.out hx3), hqe])
      rw [hqe] at hq
      have hcs : (q = 1 ∧ leftAt xs k = true) ∨ ((q != 1) = true ∧ leftAt xs k = false) := by
        rw [hq]
        by_cases g : q = 1
        · exact .inl ⟨g, by simp [g]⟩
        · exact .inr ⟨by simp [g], by simp [g]⟩
      have Hor := Lib.hid hor
      have Hm := Lib.hid hm
      have Hm' := Lib.hid hm'
      have Hx2 := Lib.hid hx2
      have Hx3 := Lib.hid hx3
      have Hrow := Lib.hid h
      subst hA
      clear hx hx2 hx3 hm hm' hnx hnx3 hor hq hqe hrow h
      rcases hcs with ⟨rfl, hd⟩ | ⟨g1, hd⟩
      · have Hd := Lib.hid hd
        clear hd
        go_wp2_with fail
        go_region_held3 (fun w' => w'.cell? ⟨wr.heap.size, 0, none⟩ = some (.int .i64 x) ∧ w'.cell? ⟨wr.heap.size, 1, none⟩ = some (.int .i64 y))
          (first | (refine ⟨?_, ?_⟩ <;> with_reducible assumption) | (refine ⟨Blk.cell (cs := [.int .i64 x, .int .i64 y]) (t := 31) ?_ 0 rfl, Blk.cell (cs := [.int .i64 x, .int .i64 y]) (t := 31) ?_ 1 rfl⟩ <;> ((try simp only [Blk.drew_iff]); (try simp only [Blk.drewN_iff]); (try simp only [Blk.drew_iff]); repeat (first | with_reducible assumption | with_reducible exact Blk.new _ _ _ (by first | rfl | (simp; done) | (simp; omega)) | with_reducible refine Blk.alloc ?_ _ | with_reducible refine Blk.far ?_ (by first | (simp; done) | (simp; omega) | omega) _))) | go_keep | (refine ⟨?_, ?_⟩ <;> go_keep))
          (first
            | (go_at_call 23; (have tok := hb2; clear tok); (fail_if_success (have tok := hb3)); refine (Hor.out _).mono ?_; rintro e w3 ⟨rfl, hb3⟩; have acc3 : Below w.heap.size w w3 := below_step (by (repeat (first | with_reducible assumption | with_reducible exact Below.refl _ _ | simp only [Below.drew_iff] | simp only [Below.drewN_iff] | with_reducible refine Below.setCell ?_ (by first | omega | (simp; done) | (simp; omega)) _ | with_reducible refine Below.alloc ?_ (by first | omega | (simp; done) | (simp; omega)) _))) hb3; have zz3 := acc3.size; have A0_3 : Blk w3 (wr.heap.size) [.int .i64 x, .int .i64 y] 31 := Blk.kept (by ((try simp only [Blk.drew_iff]); (try simp only [Blk.drewN_iff]); (try simp only [Blk.drew_iff]); first | with_reducible assumption | with_reducible exact Blk.new _ _ _ (by first | rfl | (simp; done) | (simp; omega)) | (with_reducible refine Blk.alloc ?_ _; first | with_reducible assumption | with_reducible exact Blk.new _ _ _ (by first | rfl | (simp; done) | (simp; omega)) | (with_reducible refine Blk.alloc ?_ _; with_reducible assumption)))) hb3; obtain ⟨a0_3_0, a0_3_1, a0_3_2, a0_3_3⟩ := A0_3.two; have lA0_3 := A0_3.lt)
            | (go_at_call 44; (have tok := hb1; clear tok); (fail_if_success (have tok := hb2)); refine (next_any _ _ _ xs ((k : Int) + 1) m' x3 y3 _ w.heap.size (Row.below Hrow.out (by (repeat (first | with_reducible assumption | with_reducible exact Below.refl _ _ | simp only [Below.drew_iff] | simp only [Below.drewN_iff] | with_reducible refine Below.setCell ?_ (by first | omega | (simp; done) | (simp; omega)) _ | with_reducible refine Below.alloc ?_ (by first | omega | (simp; done) | (simp; omega)) _)))) (by first | omega | (simp; done) | (simp; omega)) (by omega) (by omega) (by omega) Hm'.out Hx3.out).mono ?_; rintro e w2 ⟨rfl, hb2⟩; have acc2 : Below w.heap.size w w2 := below_step (by (repeat (first | with_reducible assumption | with_reducible exact Below.refl _ _ | simp only [Below.drew_iff] | simp only [Below.drewN_iff] | with_reducible refine Below.setCell ?_ (by first | omega | (simp; done) | (simp; omega)) _ | with_reducible refine Below.alloc ?_ (by first | omega | (simp; done) | (simp; omega)) _))) hb2; have zz2 := acc2.size; have A0_2 : Blk w2 (wr.heap.size) [.int .i64 x, .int .i64 y] 31 := Blk.kept (by ((try simp only [Blk.drew_iff]); (try simp only [Blk.drewN_iff]); (try simp only [Blk.drew_iff]); first | with_reducible assumption | with_reducible exact Blk.new _ _ _ (by first | rfl | (simp; done) | (simp; omega)) | (with_reducible refine Blk.alloc ?_ _; first | with_reducible assumption | with_reducible exact Blk.new _ _ _ (by first | rfl | (simp; done) | (simp; omega)) | (with_reducible refine Blk.alloc ?_ _; with_reducible assumption)))) hb2; obtain ⟨a0_2_0, a0_2_1, a0_2_2, a0_2_3⟩ := A0_2.two; have lA0_2 := A0_2.lt)
            | (go_at_call 44; (fail_if_success (have tok := hb1)); refine (next_any _ _ _ xs ((k : Int)) m x2 y2 _ w.heap.size (Row.below Hrow.out (by (repeat (first | with_reducible assumption | with_reducible exact Below.refl _ _ | simp only [Below.drew_iff] | simp only [Below.drewN_iff] | with_reducible refine Below.setCell ?_ (by first | omega | (simp; done) | (simp; omega)) _ | with_reducible refine Below.alloc ?_ (by first | omega | (simp; done) | (simp; omega)) _)))) (by first | omega | (simp; done) | (simp; omega)) (by omega) (by omega) (by omega) Hm.out Hx2.out).mono ?_; rintro e w1 ⟨rfl, hb1⟩; have acc1 : Below w.heap.size w w1 := below_step (by (repeat (first | with_reducible assumption | with_reducible exact Below.refl _ _ | simp only [Below.drew_iff] | simp only [Below.drewN_iff] | with_reducible refine Below.setCell ?_ (by first | omega | (simp; done) | (simp; omega)) _ | with_reducible refine Below.alloc ?_ (by first | omega | (simp; done) | (simp; omega)) _))) hb1; have zz1 := acc1.size; have A0_1 : Blk w1 (wr.heap.size) [.int .i64 x, .int .i64 y] 31 := Blk.kept (by ((try simp only [Blk.drew_iff]); (try simp only [Blk.drewN_iff]); (try simp only [Blk.drew_iff]); first | with_reducible assumption | with_reducible exact Blk.new _ _ _ (by first | rfl | (simp; done) | (simp; omega)) | (with_reducible refine Blk.alloc ?_ _; first | with_reducible assumption | with_reducible exact Blk.new _ _ _ (by first | rfl | (simp; done) | (simp; omega)) | (with_reducible refine Blk.alloc ?_ _; with_reducible assumption)))) hb1; obtain ⟨a0_1_0, a0_1_1, a0_1_2, a0_1_3⟩ := A0_1.two; have lA0_1 := A0_1.lt))
        go_wp2
        go_roundw
        case rel => exact ⟨k + 1, by omega, by go_num, all_range_succ Hno.out Hd.out, (by (repeat (first | with_reducible assumption | with_reducible exact Below.refl _ _ | simp only [Below.drew_iff] | simp only [Below.drewN_iff] | with_reducible refine Below.setCell ?_ (by first | omega | (simp; done) | (simp; omega)) _ | with_reducible refine Below.alloc ?_ (by first | omega | (simp; done) | (simp; omega)) _)))⟩
        case measure => simp [intOf]; omega
      · have Hd := Lib.hid hd
        clear hd
        go_wp2_with fail
        go_region_held3 (fun w' => w'.cell? ⟨wr.heap.size, 0, none⟩ = some (.int .i64 x) ∧ w'.cell? ⟨wr.heap.size, 1, none⟩ = some (.int .i64 y))
          (first | (refine ⟨?_, ?_⟩ <;> with_reducible assumption) | (refine ⟨Blk.cell (cs := [.int .i64 x, .int .i64 y]) (t := 31) ?_ 0 rfl, Blk.cell (cs := [.int .i64 x, .int .i64 y]) (t := 31) ?_ 1 rfl⟩ <;> ((try simp only [Blk.drew_iff]); (try simp only [Blk.drewN_iff]); (try simp only [Blk.drew_iff]); repeat (first | with_reducible assumption | with_reducible exact Blk.new _ _ _ (by first | rfl | (simp; done) | (simp; omega)) | with_reducible refine Blk.alloc ?_ _ | with_reducible refine Blk.far ?_ (by first | (simp; done) | (simp; omega) | omega) _))) | go_keep | (refine ⟨?_, ?_⟩ <;> go_keep))
          (first
            | (go_at_call 23; (have tok := hb2; clear tok); (fail_if_success (have tok := hb3)); refine (Hor.out _).mono ?_; rintro e w3 ⟨rfl, hb3⟩; have acc3 : Below w.heap.size w w3 := below_step (by (repeat (first | with_reducible assumption | with_reducible exact Below.refl _ _ | simp only [Below.drew_iff] | simp only [Below.drewN_iff] | with_reducible refine Below.setCell ?_ (by first | omega | (simp; done) | (simp; omega)) _ | with_reducible refine Below.alloc ?_ (by first | omega | (simp; done) | (simp; omega)) _))) hb3; have zz3 := acc3.size; have A0_3 : Blk w3 (wr.heap.size) [.int .i64 x, .int .i64 y] 31 := Blk.kept (by ((try simp only [Blk.drew_iff]); (try simp only [Blk.drewN_iff]); (try simp only [Blk.drew_iff]); first | with_reducible assumption | with_reducible exact Blk.new _ _ _ (by first | rfl | (simp; done) | (simp; omega)) | (with_reducible refine Blk.alloc ?_ _; first | with_reducible assumption | with_reducible exact Blk.new _ _ _ (by first | rfl | (simp; done) | (simp; omega)) | (with_reducible refine Blk.alloc ?_ _; with_reducible assumption)))) hb3; obtain ⟨a0_3_0, a0_3_1, a0_3_2, a0_3_3⟩ := A0_3.two; have lA0_3 := A0_3.lt)
            | (go_at_call 44; (have tok := hb1; clear tok); (fail_if_success (have tok := hb2)); refine (next_any _ _ _ xs ((k : Int) + 1) m' x3 y3 _ w.heap.size (Row.below Hrow.out (by (repeat (first | with_reducible assumption | with_reducible exact Below.refl _ _ | simp only [Below.drew_iff] | simp only [Below.drewN_iff] | with_reducible refine Below.setCell ?_ (by first | omega | (simp; done) | (simp; omega)) _ | with_reducible refine Below.alloc ?_ (by first | omega | (simp; done) | (simp; omega)) _)))) (by first | omega | (simp; done) | (simp; omega)) (by omega) (by omega) (by omega) Hm'.out Hx3.out).mono ?_; rintro e w2 ⟨rfl, hb2⟩; have acc2 : Below w.heap.size w w2 := below_step (by (repeat (first | with_reducible assumption | with_reducible exact Below.refl _ _ | simp only [Below.drew_iff] | simp only [Below.drewN_iff] | with_reducible refine Below.setCell ?_ (by first | omega | (simp; done) | (simp; omega)) _ | with_reducible refine Below.alloc ?_ (by first | omega | (simp; done) | (simp; omega)) _))) hb2; have zz2 := acc2.size; have A0_2 : Blk w2 (wr.heap.size) [.int .i64 x, .int .i64 y] 31 := Blk.kept (by ((try simp only [Blk.drew_iff]); (try simp only [Blk.drewN_iff]); (try simp only [Blk.drew_iff]); first | with_reducible assumption | with_reducible exact Blk.new _ _ _ (by first | rfl | (simp; done) | (simp; omega)) | (with_reducible refine Blk.alloc ?_ _; first | with_reducible assumption | with_reducible exact Blk.new _ _ _ (by first | rfl | (simp; done) | (simp; omega)) | (with_reducible refine Blk.alloc ?_ _; with_reducible assumption)))) hb2; obtain ⟨a0_2_0, a0_2_1, a0_2_2, a0_2_3⟩ := A0_2.two; have lA0_2 := A0_2.lt)
            | (go_at_call 44; (fail_if_success (have tok := hb1)); refine (next_any _ _ _ xs ((k : Int)) m x2 y2 _ w.heap.size (Row.below Hrow.out (by (repeat (first | with_reducible assumption | with_reducible exact Below.refl _ _ | simp only [Below.drew_iff] | simp only [Below.drewN_iff] | with_reducible refine Below.setCell ?_ (by first | omega | (simp; done) | (simp; omega)) _ | with_reducible refine Below.alloc ?_ (by first | omega | (simp; done) | (simp; omega)) _)))) (by first | omega | (simp; done) | (simp; omega)) (by omega) (by omega) (by omega) Hm.out Hx2.out).mono ?_; rintro e w1 ⟨rfl, hb1⟩; have acc1 : Below w.heap.size w w1 := below_step (by (repeat (first | with_reducible assumption | with_reducible exact Below.refl _ _ | simp only [Below.drew_iff] | simp only [Below.drewN_iff] | with_reducible refine Below.setCell ?_ (by first | omega | (simp; done) | (simp; omega)) _ | with_reducible refine Below.alloc ?_ (by first | omega | (simp; done) | (simp; omega)) _))) hb1; have zz1 := acc1.size; have A0_1 : Blk w1 (wr.heap.size) [.int .i64 x, .int .i64 y] 31 := Blk.kept (by ((try simp only [Blk.drew_iff]); (try simp only [Blk.drewN_iff]); (try simp only [Blk.drew_iff]); first | with_reducible assumption | with_reducible exact Blk.new _ _ _ (by first | rfl | (simp; done) | (simp; omega)) | (with_reducible refine Blk.alloc ?_ _; first | with_reducible assumption | with_reducible exact Blk.new _ _ _ (by first | rfl | (simp; done) | (simp; omega)) | (with_reducible refine Blk.alloc ?_ _; with_reducible assumption)))) hb1; obtain ⟨a0_1_0, a0_1_1, a0_1_2, a0_1_3⟩ := A0_1.two; have lA0_1 := A0_1.lt))
        go_wp2
        go_ret2
        refine ⟨?_, (by (repeat (first | with_reducible assumption | with_reducible exact Below.refl _ _ | simp only [Below.drew_iff] | simp only [Below.drewN_iff] | with_reducible refine Below.setCell ?_ (by first | omega | (simp; done) | (simp; omega)) _ | with_reducible refine Below.alloc ?_ (by first | omega | (simp; done) | (simp; omega)) _)))⟩
        have e : convexM xs = false := by unfold convexM leftM; rw [all_range_not (show k < xs.length by rw [Hl.out]; exact hlt) Hd.out]; rfl
        rw [e]; rfl
    · have e : k = n := by omega
      subst e
      go_wp2_with fail
      refine (simple_any A k c xs _ (h.in_ hbel hbel.size) hn64 Hall.out).mono ?_
      rintro e w1 ⟨rfl, hb1⟩
      go_wp2
      go_ret2
      refine ⟨?_, below_step hbel hb1⟩
      have e : convexM xs = simpleM xs := by unfold convexM leftM; rw [Hl.out, Hno.out]; rfl
      rw [e]; rfl
end Go.Proofs.Ytklkkehhmmipeaa
