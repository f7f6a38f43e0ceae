/- Package polygon: which corners are a polygon, the doubled area, the orientation of three points. -/
import Derived.Test.YtklkkehhmmipeaaPA
import Derived.Deep.RegionHeld3
import Derived.Deep.DrawnRows
import Derived.Deep.DeepCutAuto
namespace Go.Proofs.Ytklkkehhmmipeaa
open Go.RowKit
attribute [local go_sem ↓] Go.wp_at_zero Go.wp_at_succ

/-- The corner k, the one behind it. -/
def cor (xs : List P2) (k : Nat) : P2 := xs.getD k (0, 0)
def nxt (xs : List P2) (k : Nat) : P2 := cor xs ((k + 1) % xs.length)
theorem cor_eq {xs : List P2} {k : Nat} {x y : Int} (h : xs[k]? = some (x, y)) : cor xs k = (x, y) := by unfold cor; rw [List.getD_eq_getElem?_getD, h]; rfl
theorem nxt_eq {xs : List P2} {k m n : Nat} {x y : Int} (hn : xs.length = n) (hm : (k + 1) % n = m) (h : xs[m]? = some (x, y)) : nxt xs k = (x, y) := by
  unfold nxt; rw [hn, hm]; exact cor_eq h
/-- Of each corner of a list that is not empty, the next one. -/
theorem next_is {xs : List P2} {k n : Nat} (hn : xs.length = n) (h0 : 0 < n) : ∃ (m : Nat) (x y : Int), ((k : Int) + 1).tmod n = m ∧ (k + 1) % n = m ∧ m < n ∧ xs[m]? = some (x, y) ∧ nxt xs k = (x, y) := by
  have hlt : (k + 1) % n < n := Nat.mod_lt _ h0
  have hx : xs[(k + 1) % n]? = some xs[(k + 1) % n] := List.getElem?_eq_getElem (by omega)
  refine ⟨(k + 1) % n, xs[(k + 1) % n].1, xs[(k + 1) % n].2, ?_, rfl, hlt, hx, nxt_eq hn rfl hx⟩
  rw [Int.tmod_eq_emod_of_nonneg (by omega)]
  push_cast
  rfl
theorem next_is2 {xs : List P2} {k n : Nat} (hn : xs.length = n) (h0 : 0 < n) : ∃ (m : Nat) (x y : Int), ((k : Int) + 1 + 1).tmod n = m ∧ (k + 1 + 1) % n = m ∧ m < n ∧ xs[m]? = some (x, y) ∧ nxt xs (k + 1) = (x, y) := by
  obtain ⟨m, x, y, h1, h2⟩ := next_is (xs := xs) (k := k + 1) hn h0
  exact ⟨m, x, y, by simpa using h1, h2⟩
/-- Corner k is the one behind it. -/
def dupAt (xs : List P2) (k : Nat) : Bool := decide (cor xs k = nxt xs k)
def dup (xs : List P2) : Bool := (List.range xs.length).any (dupAt xs)
/-- The error of a polygon, and of points of the same call. -/
def chk (xs ys : List P2) : Int := if 64 < xs.length then 7 else if xs.length < 3 then 1 else if (allP xs && allP ys) = false then 6 else if dup xs = true then 5 else 0
theorem any_range_succ {f : Nat → Bool} {k : Nat} (h : (List.range k).any f = false) (hk : f k = false) : (List.range (k + 1)).any f = false := by
  rw [List.range_succ, List.any_append, h]; simp [hk]
theorem any_range_at {f : Nat → Bool} {k n : Nat} (hk : k < n) (h : f k = true) : (List.range n).any f = true := List.any_eq_true.2 ⟨k, List.mem_range.2 hk, h⟩

set_option maxRecDepth 100000 in
set_option maxHeartbeats 3200000 in
theorem check_any (A : Option Addr) (n c : Nat) (xs : List P2) (A' : Option Addr) (n' c' : Nat) (ys : List P2) (w : World) (h : Row w w.heap.size A n xs) (hn : n ≤ 2000) (h' : Row w w.heap.size A' n' ys) (hn' : n' ≤ 2000) :
    Calls Try.prog 38 #[.slice A n c, .slice A' n' c'] w fun e w' => e = .returned (.int .i64 (chk xs ys)) ∧ Below w.heap.size w w' := by
  have hl := h.len
  by_cases h1 : 64 < n
  · have e : chk xs ys = 7 := by unfold chk; rw [if_pos (by omega)]
    have He := Lib.hid e
    clear e h h' hl
    go_enter Try.func38, Try.ntmps38
    go_wp2
    go_ret
    exact ⟨ret_int He.out.symm, Below.refl _ _⟩
  by_cases h2 : n < 3
  · have e : chk xs ys = 1 := by unfold chk; rw [if_neg (by omega), if_pos (by omega)]
    have He := Lib.hid e
    clear e h h' hl
    go_enter Try.func38, Try.ntmps38
    go_wp2
    go_ret
    exact ⟨ret_int He.out.symm, Below.refl _ _⟩
  have e0 : chk xs ys = if (allP xs && allP ys) = false then 6 else if dup xs = true then 5 else 0 := by unfold chk; rw [if_neg (by omega), if_neg (by omega)]
  obtain ⟨v, hv⟩ : ∃ v, allP xs = v := ⟨_, rfl⟩
  obtain ⟨v', hv'⟩ : ∃ v, allP ys = v := ⟨_, rfl⟩
  rw [hv, hv'] at e0
  have Hv := Lib.hid hv
  have Hv' := Lib.hid hv'
  have Hl := Lib.hid hl
  clear hv hv' hl
  cases v
  · have He := Lib.hid e0
    clear e0
    go_enter Try.func38, Try.ntmps38
    go_wp2_with fail
    refine (allowed_any A n c xs false _ h hn Hv.out).mono ?_
    rintro e w1 ⟨rfl, hb1⟩
    go_wp2
    go_ret
    exact ⟨ret_int He.out.symm, hb1⟩
  cases v'
  · have He := Lib.hid e0
    clear e0
    go_enter Try.func38, Try.ntmps38
    go_wp2_with fail
    refine (allowed_any A n c xs true _ h hn Hv.out).mono ?_
    rintro e w1 ⟨rfl, hb1⟩
    go_wp2_with fail
    refine (allowed_any A' n' c' ys false _ (h'.in_ hb1 hb1.size) hn' Hv'.out).mono ?_
    rintro e w2 ⟨rfl, hb2⟩
    go_wp2
    go_ret
    exact ⟨ret_int He.out.symm, below_step hb1 hb2⟩
  have He := Lib.hid e0
  clear e0
  go_enter Try.func38, Try.ntmps38
  go_wp2_with fail
  refine (allowed_any A n c xs true _ h hn Hv.out).mono ?_
  rintro e w1 ⟨rfl, hb1⟩
  go_wp2_with fail
  refine (allowed_any A' n' c' ys true _ (h'.in_ hb1 hb1.size) hn' Hv'.out).mono ?_
  rintro e w2 ⟨rfl, hb2⟩
  have hbel0 : Below w.heap.size w w2 := below_step hb1 hb2
  clear hb1 hb2 Hv Hv'
  go_wp2
  go_loopw [23] (fun i wr => ∃ k : Nat, k ≤ n ∧ i = .int .i64 k ∧ (List.range k).any (dupAt xs) = false ∧ Below w.heap.size w wr) (fun i _ => n - (intOf i).toNat)
  case atStart => exact ⟨0, Nat.zero_le _, rfl, rfl, hbel0⟩
  case round =>
    obtain ⟨k, hk, rfl, hno, hbel⟩ := hrel
    have Hno := Lib.hid hno
    clear hno
    by_cases hlt : k < n
    · have hrow := h.below hbel
      obtain ⟨b, off, x, y, hA, hbB, hx, hc1, hc2⟩ := hrow.at_ hlt
      obtain ⟨m, x2, y2, hm, hm', hml, hx2, hnx⟩ := next_is (k := k) Hl.out (by omega)
      have hsz := hbel.size
      have hd : dupAt xs k = decide ((x, y) = (x2, y2)) := by unfold dupAt; rw [cor_eq hx, hnx]
      have Hd := Lib.hid hd
      have Hm := Lib.hid hm
      have Hx2 := Lib.hid hx2
      have Hrow := Lib.hid hrow
      subst hA
      clear hx hx2 hm hm' hnx hd h' h hrow
      have hcs : ((x = x2) = True ∧ (y = y2) = True) ∨ ¬ x = x2 ∨ ((x = x2) = True ∧ ¬ y = y2) := by simp only [eq_iff_iff, iff_true]; omega
      have hcd : (((x = x2) = True ∧ (y = y2) = True) ∧ dupAt xs k = true) ∨ ((¬ x = x2 ∨ ((x = x2) = True ∧ ¬ y = y2)) ∧ dupAt xs k = false) := by
        rcases hcs with ⟨g1, g2⟩ | g1 | ⟨g1, g2⟩
        · exact .inl ⟨⟨g1, g2⟩, by rw [Hd.out]; simp [g1, g2]⟩
        · exact .inr ⟨.inl g1, by rw [Hd.out]; simp [g1]⟩
        · exact .inr ⟨.inr ⟨g1, g2⟩, by rw [Hd.out]; simp [g2]⟩
      clear hcs Hd
      rcases hcd with ⟨⟨g1, g2⟩, hd⟩ | ⟨g1, hd⟩
      · have Hd := Lib.hid hd
        clear hd
        go_wp2_with fail
        go_region_held3 (fun w' => w'.cell? ⟨wr.heap.size, 0, none⟩ = some (.int .i64 x) ∧ w'.cell? ⟨wr.heap.size, 1, none⟩ = some (.int .i64 y))
          (first | (refine ⟨?_, ?_⟩ <;> with_reducible assumption) | (refine ⟨Blk.cell (cs := [.int .i64 x, .int .i64 y]) (t := 31) ?_ 0 rfl, Blk.cell (cs := [.int .i64 x, .int .i64 y]) (t := 31) ?_ 1 rfl⟩ <;> ((try simp only [Blk.drew_iff]); (try simp only [Blk.drewN_iff]); (try simp only [Blk.drew_iff]); repeat (first | with_reducible assumption | with_reducible exact Blk.new _ _ _ (by first | rfl | (simp; done) | (simp; omega)) | with_reducible refine Blk.alloc ?_ _ | with_reducible refine Blk.far ?_ (by first | (simp; done) | (simp; omega) | omega) _))) | go_keep | (refine ⟨?_, ?_⟩ <;> go_keep))
          (first
            | (go_at_call 44; (fail_if_success (have tok := hb1)); refine (next_any _ _ _ xs k m x2 y2 _ w.heap.size (Row.below Hrow.out (by (repeat (first | with_reducible assumption | with_reducible exact Below.refl _ _ | simp only [Below.drew_iff] | simp only [Below.drewN_iff] | with_reducible refine Below.setCell ?_ (by first | omega | (simp; done) | (simp; omega)) _ | with_reducible refine Below.alloc ?_ (by first | omega | (simp; done) | (simp; omega)) _)))) (by first | omega | (simp; done) | (simp; omega)) (by omega) (by omega) (by omega) Hm.out Hx2.out).mono ?_; rintro e w1 ⟨rfl, hb1⟩; have acc1 : Below w.heap.size w w1 := below_step (by (repeat (first | with_reducible assumption | with_reducible exact Below.refl _ _ | simp only [Below.drew_iff] | simp only [Below.drewN_iff] | with_reducible refine Below.setCell ?_ (by first | omega | (simp; done) | (simp; omega)) _ | with_reducible refine Below.alloc ?_ (by first | omega | (simp; done) | (simp; omega)) _))) hb1; have zz1 := acc1.size; have A0_1 : Blk w1 (wr.heap.size) [.int .i64 x, .int .i64 y] 31 := Blk.kept (by ((try simp only [Blk.drew_iff]); (try simp only [Blk.drewN_iff]); (try simp only [Blk.drew_iff]); first | with_reducible assumption | with_reducible exact Blk.new _ _ _ (by first | rfl | (simp; done) | (simp; omega)) | (with_reducible refine Blk.alloc ?_ _; first | with_reducible assumption | with_reducible exact Blk.new _ _ _ (by first | rfl | (simp; done) | (simp; omega)) | (with_reducible refine Blk.alloc ?_ _; with_reducible assumption)))) hb1; obtain ⟨a0_1_0, a0_1_1, a0_1_2, a0_1_3⟩ := A0_1.two; have lA0_1 := A0_1.lt))
        go_wp2
        go_ret
        exact ⟨ret_int (by rw [He.out]; simp [dup, any_range_at (show k < xs.length by rw [Hl.out]; exact hlt) Hd.out]), (by (repeat (first | with_reducible assumption | with_reducible exact Below.refl _ _ | simp only [Below.drew_iff] | simp only [Below.drewN_iff] | with_reducible refine Below.setCell ?_ (by first | omega | (simp; done) | (simp; omega)) _ | with_reducible refine Below.alloc ?_ (by first | omega | (simp; done) | (simp; omega)) _)))⟩
      · have Hd := Lib.hid hd
        clear hd
        rcases g1 with g1 | ⟨g1, g2⟩
        · go_wp2_with fail
          go_region_held3 (fun w' => w'.cell? ⟨wr.heap.size, 0, none⟩ = some (.int .i64 x) ∧ w'.cell? ⟨wr.heap.size, 1, none⟩ = some (.int .i64 y))
            (first | (refine ⟨?_, ?_⟩ <;> with_reducible assumption) | (refine ⟨Blk.cell (cs := [.int .i64 x, .int .i64 y]) (t := 31) ?_ 0 rfl, Blk.cell (cs := [.int .i64 x, .int .i64 y]) (t := 31) ?_ 1 rfl⟩ <;> ((try simp only [Blk.drew_iff]); (try simp only [Blk.drewN_iff]); (try simp only [Blk.drew_iff]); repeat (first | with_reducible assumption | with_reducible exact Blk.new _ _ _ (by first | rfl | (simp; done) | (simp; omega)) | with_reducible refine Blk.alloc ?_ _ | with_reducible refine Blk.far ?_ (by first | (simp; done) | (simp; omega) | omega) _))) | go_keep | (refine ⟨?_, ?_⟩ <;> go_keep))
            (first
              | (go_at_call 44; (fail_if_success (have tok := hb1)); refine (next_any _ _ _ xs k m x2 y2 _ w.heap.size (Row.below Hrow.out (by (repeat (first | with_reducible assumption | with_reducible exact Below.refl _ _ | simp only [Below.drew_iff] | simp only [Below.drewN_iff] | with_reducible refine Below.setCell ?_ (by first | omega | (simp; done) | (simp; omega)) _ | with_reducible refine Below.alloc ?_ (by first | omega | (simp; done) | (simp; omega)) _)))) (by first | omega | (simp; done) | (simp; omega)) (by omega) (by omega) (by omega) Hm.out Hx2.out).mono ?_; rintro e w1 ⟨rfl, hb1⟩; have acc1 : Below w.heap.size w w1 := below_step (by (repeat (first | with_reducible assumption | with_reducible exact Below.refl _ _ | simp only [Below.drew_iff] | simp only [Below.drewN_iff] | with_reducible refine Below.setCell ?_ (by first | omega | (simp; done) | (simp; omega)) _ | with_reducible refine Below.alloc ?_ (by first | omega | (simp; done) | (simp; omega)) _))) hb1; have zz1 := acc1.size; have A0_1 : Blk w1 (wr.heap.size) [.int .i64 x, .int .i64 y] 31 := Blk.kept (by ((try simp only [Blk.drew_iff]); (try simp only [Blk.drewN_iff]); (try simp only [Blk.drew_iff]); first | with_reducible assumption | with_reducible exact Blk.new _ _ _ (by first | rfl | (simp; done) | (simp; omega)) | (with_reducible refine Blk.alloc ?_ _; first | with_reducible assumption | with_reducible exact Blk.new _ _ _ (by first | rfl | (simp; done) | (simp; omega)) | (with_reducible refine Blk.alloc ?_ _; with_reducible assumption)))) hb1; obtain ⟨a0_1_0, a0_1_1, a0_1_2, a0_1_3⟩ := A0_1.two; have lA0_1 := A0_1.lt))
          go_wp2
          go_roundw
          case rel => exact ⟨k + 1, by omega, by go_num, any_range_succ Hno.out Hd.out, (by (repeat (first | with_reducible assumption | with_reducible exact Below.refl _ _ | simp only [Below.drew_iff] | simp only [Below.drewN_iff] | with_reducible refine Below.setCell ?_ (by first | omega | (simp; done) | (simp; omega)) _ | with_reducible refine Below.alloc ?_ (by first | omega | (simp; done) | (simp; omega)) _)))⟩
          case measure => simp [intOf]; omega
        · go_wp2_with fail
          go_region_held3 (fun w' => w'.cell? ⟨wr.heap.size, 0, none⟩ = some (.int .i64 x) ∧ w'.cell? ⟨wr.heap.size, 1, none⟩ = some (.int .i64 y))
            (first | (refine ⟨?_, ?_⟩ <;> with_reducible assumption) | (refine ⟨Blk.cell (cs := [.int .i64 x, .int .i64 y]) (t := 31) ?_ 0 rfl, Blk.cell (cs := [.int .i64 x, .int .i64 y]) (t := 31) ?_ 1 rfl⟩ <;> ((try simp only [Blk.drew_iff]); (try simp only [Blk.drewN_iff]); (try simp only [Blk.drew_iff]); repeat (first | with_reducible assumption | with_reducible exact Blk.new _ _ _ (by first | rfl | (simp; done) | (simp; omega)) | with_reducible refine Blk.alloc ?_ _ | with_reducible refine Blk.far ?_ (by first | (simp; done) | (simp; omega) | omega) _))) | go_keep | (refine ⟨?_, ?_⟩ <;> go_keep))
            (first
              | (go_at_call 44; (fail_if_success (have tok := hb1)); refine (next_any _ _ _ xs k m x2 y2 _ w.heap.size (Row.below Hrow.out (by (repeat (first | with_reducible assumption | with_reducible exact Below.refl _ _ | simp only [Below.drew_iff] | simp only [Below.drewN_iff] | with_reducible refine Below.setCell ?_ (by first | omega | (simp; done) | (simp; omega)) _ | with_reducible refine Below.alloc ?_ (by first | omega | (simp; done) | (simp; omega)) _)))) (by first | omega | (simp; done) | (simp; omega)) (by omega) (by omega) (by omega) Hm.out Hx2.out).mono ?_; rintro e w1 ⟨rfl, hb1⟩; have acc1 : Below w.heap.size w w1 := below_step (by (repeat (first | with_reducible assumption | with_reducible exact Below.refl _ _ | simp only [Below.drew_iff] | simp only [Below.drewN_iff] | with_reducible refine Below.setCell ?_ (by first | omega | (simp; done) | (simp; omega)) _ | with_reducible refine Below.alloc ?_ (by first | omega | (simp; done) | (simp; omega)) _))) hb1; have zz1 := acc1.size; have A0_1 : Blk w1 (wr.heap.size) [.int .i64 x, .int .i64 y] 31 := Blk.kept (by ((try simp only [Blk.drew_iff]); (try simp only [Blk.drewN_iff]); (try simp only [Blk.drew_iff]); first | with_reducible assumption | with_reducible exact Blk.new _ _ _ (by first | rfl | (simp; done) | (simp; omega)) | (with_reducible refine Blk.alloc ?_ _; first | with_reducible assumption | with_reducible exact Blk.new _ _ _ (by first | rfl | (simp; done) | (simp; omega)) | (with_reducible refine Blk.alloc ?_ _; with_reducible assumption)))) hb1; obtain ⟨a0_1_0, a0_1_1, a0_1_2, a0_1_3⟩ := A0_1.two; have lA0_1 := A0_1.lt))
          go_wp2
          go_roundw
          case rel => exact ⟨k + 1, by omega, by go_num, any_range_succ Hno.out Hd.out, (by (repeat (first | with_reducible assumption | with_reducible exact Below.refl _ _ | simp only [Below.drew_iff] | simp only [Below.drewN_iff] | with_reducible refine Below.setCell ?_ (by first | omega | (simp; done) | (simp; omega)) _ | with_reducible refine Below.alloc ?_ (by first | omega | (simp; done) | (simp; omega)) _)))⟩
          case measure => simp [intOf]; omega
    · have e : k = n := by omega
      subst e
      have hno := Hno.out
      go_wp2
      go_ret
      exact ⟨ret_int (by rw [He.out]; unfold dup; rw [Hl.out, hno]; rfl), hbel⟩
end Go.Proofs.Ytklkkehhmmipeaa
