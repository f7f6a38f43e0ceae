/- Package polygon: the doubled area, and the orientation of three points. -/
import Derived.Test.YtklkkehhmmipeaaPB
namespace Go.Proofs.Ytklkkehhmmipeaa
open Go.RowKit
attribute [local go_sem ↓] Go.wp_at_zero Go.wp_at_succ

/-- The doubled area, up to corner k. -/
def areaTo (xs : List P2) : Nat → Int
  | 0 => 0
  | k + 1 => areaTo xs k + ((cor xs k).1 * (nxt xs k).2 - (nxt xs k).1 * (cor xs k).2)
theorem inP_at {xs : List P2} (h : allP xs = true) {k : Nat} {x y : Int} (hx : xs[k]? = some (x, y)) : (-1000000 ≤ x ∧ x ≤ 1000000) ∧ (-1000000 ≤ y ∧ y ≤ 1000000) := by
  have := (List.all_eq_true.1 h) (x, y) (List.mem_of_getElem? hx)
  exact inP_true this
theorem inP_at' {xs : List P2} (h : allP xs = true) {k : Nat} {x y : Int} (hx : xs[k]? = some (x, y)) : inP x y = true := (List.all_eq_true.1 h) (x, y) (List.mem_of_getElem? hx)
theorem areaTo_bd (xs : List P2) (h : allP xs = true) (h0 : 0 < xs.length) : ∀ k, k ≤ xs.length → -(k * 2000000000000 : Int) ≤ areaTo xs k ∧ areaTo xs k ≤ k * 2000000000000
  | 0, _ => by simp [areaTo]
  | k + 1, hk => by
    obtain ⟨l, u⟩ := areaTo_bd xs h h0 k (by omega)
    obtain ⟨m, x2, y2, _, _, hml, hx2, hn⟩ := next_is (xs := xs) (k := k) rfl h0
    have hx : xs[k]? = some xs[k] := List.getElem?_eq_getElem (by omega)
    obtain ⟨b1, b2⟩ := inP_at h (x := xs[k].1) (y := xs[k].2) hx
    obtain ⟨b3, b4⟩ := inP_at h hx2
    have m1 := mul_in b1.1 b1.2 b4.1 b4.2
    have m2 := mul_in b3.1 b3.2 b2.1 b2.2
    have hc : cor xs k = (xs[k].1, xs[k].2) := cor_eq hx
    unfold areaTo
    rw [hc, hn]
    dsimp only
    push_cast
    omega

set_option maxRecDepth 100000 in
set_option maxHeartbeats 1600000 in
theorem area2_any (A : Option Addr) (n c : Nat) (xs : List P2) (w : World) (h : Row w w.heap.size A n xs) (hn : n ≤ 64) (hall : allP xs = true) :
    Calls Try.prog 39 #[.slice A n c] w fun e w' => e = .returned (.int .i64 (areaTo xs n)) ∧ Below w.heap.size w w' := by
  have hl := h.len
  have Hall := Lib.hid hall
  have Hl := Lib.hid hl
  clear hall hl
  go_enter Try.func39, Try.ntmps39
  go_wp2
  go_loopw [3, 9] (fun s i wr => ∃ k : Nat, k ≤ n ∧ i = .int .i64 k ∧ s = .int .i64 (areaTo xs k) ∧ Below w.heap.size w wr) (fun _ i _ => n - (intOf i).toNat)
  case atStart => exact ⟨0, Nat.zero_le _, rfl, rfl, Below.refl _ _⟩
  case round =>
    obtain ⟨k, hk, rfl, rfl, hbel⟩ := hrel
    by_cases hlt : k < n
    · have hrow := h.below hbel
      obtain ⟨b, off, x, y, hA, hbB, hx, hc1, hc2⟩ := hrow.at_ hlt
      obtain ⟨m, x2, y2, hm, hm', hml, hx2, hnx⟩ := next_is (k := k) Hl.out (by omega)
      have hsz := hbel.size
      obtain ⟨b1, b2⟩ := inP_at Hall.out hx
      obtain ⟨b3, b4⟩ := inP_at Hall.out hx2
      obtain ⟨m1, m1'⟩ := mul_in b1.1 b1.2 b4.1 b4.2
      obtain ⟨m2, m2'⟩ := mul_in b3.1 b3.2 b2.1 b2.2
      obtain ⟨bd, bd'⟩ := areaTo_bd xs Hall.out (by rw [Hl.out]; omega) k (by rw [Hl.out]; omega)
      have hs : areaTo xs (k + 1) = areaTo xs k + (x * y2 - x2 * y) := by show areaTo xs k + _ = _; rw [cor_eq hx, hnx]
      obtain ⟨s, hS⟩ : ∃ s, areaTo xs k = s := ⟨_, rfl⟩
      rw [hS] at bd bd' hs
      have Hs := Lib.hid hs
      have HS := Lib.hid hS
      have Hm := Lib.hid hm
      have Hx2 := Lib.hid hx2
      have Hrow := Lib.hid hrow
      subst hA
      rw [hS]
      clear hx hx2 hm hm' hnx h hrow hs hS b1 b2 b3 b4
      go_wp2_with fail
      refine (next_any _ _ _ xs k m x2 y2 _ w.heap.size (Row.below Hrow.out (by (repeat (first | with_reducible assumption | with_reducible exact Below.refl _ _ | simp only [Below.drew_iff] | simp only [Below.drewN_iff] | with_reducible refine Below.setCell ?_ (by first | omega | (simp; done) | (simp; omega)) _ | with_reducible refine Below.alloc ?_ (by first | omega | (simp; done) | (simp; omega)) _)))) (by simp; omega) (by omega) (by omega) (by omega) Hm.out Hx2.out).mono ?_
      rintro e w1 ⟨rfl, hb1⟩
      have acc1 : Below w.heap.size w w1 := below_step (by (repeat (first | with_reducible assumption | with_reducible exact Below.refl _ _ | simp only [Below.drew_iff] | simp only [Below.drewN_iff] | with_reducible refine Below.setCell ?_ (by first | omega | (simp; done) | (simp; omega)) _ | with_reducible refine Below.alloc ?_ (by first | omega | (simp; done) | (simp; omega)) _))) hb1
      have L : Blk w1 wr.heap.size [.int .i64 x, .int .i64 y] 31 := Blk.kept (by ((try simp only [Blk.drew_iff]); (try simp only [Blk.drewN_iff]); (try simp only [Blk.drew_iff]); repeat (first | with_reducible assumption | with_reducible exact Blk.new _ _ _ (by first | rfl | (simp; done) | (simp; omega)) | with_reducible refine Blk.alloc ?_ _ | with_reducible refine Blk.far ?_ (by first | (simp; done) | (simp; omega) | omega) _))) hb1
      have zz := acc1.size
      have ll := L.lt
      obtain ⟨f1, f2, f3, f4⟩ := L.two
      clear hb1
      go_wp2
      go_roundw
      case rel => exact ⟨k + 1, by omega, by go_num, by rw [Hs.out], (by (repeat (first | with_reducible assumption | with_reducible exact Below.refl _ _ | simp only [Below.drew_iff] | simp only [Below.drewN_iff] | with_reducible refine Below.setCell ?_ (by first | omega | (simp; done) | (simp; omega)) _ | with_reducible refine Below.alloc ?_ (by first | omega | (simp; done) | (simp; omega)) _)))⟩
      case measure => simp [intOf]; omega
    · have e : k = n := by omega
      subst e
      go_wp2
      go_ret
      exact ⟨rfl, hbel⟩

theorem chk_ok {xs ys : List P2} (h : chk xs ys = 0) : xs.length ≤ 64 ∧ 3 ≤ xs.length ∧ allP xs = true ∧ allP ys = true := by
  unfold chk at h
  split at h
  · omega
  split at h
  · omega
  split at h
  · omega
  rename_i h3
  simp at h3
  exact ⟨by omega, by omega, h3⟩

theorem checkE_any (A : Option Addr) (n c : Nat) (xs : List P2) (A' : Option Addr) (n' c' : Nat) (ys : List P2) (e0 : Int) (w : World) (h : Row w w.heap.size A n xs) (hn : n ≤ 2000) (h' : Row w w.heap.size A' n' ys) (hn' : n' ≤ 2000) (he : chk xs ys = e0) :
    Calls Try.prog 38 #[.slice A n c, .slice A' n' c'] w fun e w' => e = .returned (.int .i64 e0) ∧ Below w.heap.size w w' := he ▸ check_any A n c xs A' n' c' ys w h hn h' hn'

theorem pCheck_any (A : Option Addr) (n c : Nat) (xs : List P2) (e0 : Int) (w : World) (h : Row w w.heap.size A n xs) (hn : n ≤ 2000) (he : chk xs [] = e0) :
    Calls Try.prog 16 #[.slice A n c] w fun e w' => e = .returned (.int .i64 e0) ∧ Below w.heap.size w w' := by
  go_enter Try.func16, Try.ntmps16
  go_wp2_with fail
  refine (checkE_any A n c xs none 0 0 [] e0 _ h hn Row.nil (by omega) he).mono ?_
  rintro e w1 ⟨rfl, hb1⟩
  go_wp2
  go_ret
  exact ⟨rfl, hb1⟩

theorem pArea2_any (A : Option Addr) (n c : Nat) (xs : List P2) (w : World) (h : Row w w.heap.size A n xs) (hn : n ≤ 2000) (he : chk xs [] = 0) :
    Calls Try.prog 14 #[.slice A n c] w fun e w' => e = .returned (.tuple #[.int .i64 (areaTo xs n), .int .i64 0]) ∧ Below w.heap.size w w' := by
  obtain ⟨h1, h2, h3, _⟩ := chk_ok he
  have hl := h.len
  have Hn : Hid (n ≤ 64) := Lib.hid (by omega)
  have He := Lib.hid he
  have H3 := Lib.hid h3
  clear h1 h2 h3 he hl
  go_enter Try.func14, Try.ntmps14
  go_wp2_with fail
  refine (checkE_any A n c xs none 0 0 [] 0 _ h hn Row.nil (by omega) He.out).mono ?_
  rintro e w1 ⟨rfl, hb1⟩
  go_wp2_with fail
  refine (area2_any A n c xs _ (h.in_ hb1 hb1.size) Hn.out H3.out).mono ?_
  rintro e w2 ⟨rfl, hb2⟩
  go_wp2
  go_ret2
  exact ⟨rfl, below_step hb1 hb2⟩

theorem pArea2_no (A : Option Addr) (n c : Nat) (xs : List P2) (e0 : Int) (w : World) (h : Row w w.heap.size A n xs) (hn : n ≤ 2000) (he : chk xs [] = e0) (h0 : (e0 != 0) = true) :
    Calls Try.prog 14 #[.slice A n c] w fun e w' => e = .returned (.tuple #[.int .i64 0, .int .i64 e0]) ∧ Below w.heap.size w w' := by
  have He := Lib.hid he
  clear he
  go_enter Try.func14, Try.ntmps14
  go_wp2_with fail
  refine (checkE_any A n c xs none 0 0 [] e0 _ h hn Row.nil (by omega) He.out).mono ?_
  rintro e w1 ⟨rfl, hb1⟩
  go_wp2
  go_ret2
  exact ⟨rfl, hb1⟩

/-- What Orient returns: the turn, if the points are allowed. -/
def orV (a b c : P2) : Int := if (inP a.1 a.2 && inP b.1 b.2 && inP c.1 c.2) = true then turnM a b c else 0
theorem orient_any (a b c : P2) (v : Int) (w : World) (hv : orV a b c = v) :
    Calls Try.prog 23 #[v2 a.1 a.2, v2 b.1 b.2, v2 c.1 c.2] w fun e w' => e = .returned (.int .i64 v) ∧ Below w.heap.size w w' := by
  have key : ∃ e0, turnV a.1 a.2 b.1 b.2 c.1 c.2 = .tuple #[.int .i64 v, .int .i64 e0] := by
    subst hv
    unfold turnV orV
    by_cases h : (inP a.1 a.2 && inP b.1 b.2 && inP c.1 c.2) = true
    · exact ⟨0, by rw [if_pos h, if_pos h]⟩
    · exact ⟨6, by rw [if_neg h, if_neg h]⟩
  obtain ⟨e0, key⟩ := key
  have hc := fun W => vturn_any a.1 a.2 b.1 b.2 c.1 c.2 W
  rw [key] at hc
  have Hc := Lib.hid hc
  clear hc key hv
  generalize a.1 = ax at *
  generalize a.2 = ay at *
  generalize b.1 = bx at *
  generalize b.2 = by' at *
  generalize c.1 = cx at *
  generalize c.2 = cy at *
  go_enter Try.func23, Try.ntmps23
  go_wp2_with fail
  refine (Hc.out _).mono ?_
  rintro e w1 ⟨rfl, hb1⟩
  go_wp2
  go_ret
  exact ⟨rfl, below_step (by (repeat (first | with_reducible assumption | with_reducible exact Below.refl _ _ | simp only [Below.drew_iff] | simp only [Below.drewN_iff] | with_reducible refine Below.setCell ?_ (by first | omega | (simp; done) | (simp; omega)) _ | with_reducible refine Below.alloc ?_ (by first | omega | (simp; done) | (simp; omega)) _))) hb1⟩
theorem orient_ok {a b c : P2} (h1 : inP a.1 a.2 = true) (h2 : inP b.1 b.2 = true) (h3 : inP c.1 c.2 = true) : orV a b c = turnM a b c := by unfold orV; rw [h1, h2, h3]; rfl
end Go.Proofs.Ytklkkehhmmipeaa
