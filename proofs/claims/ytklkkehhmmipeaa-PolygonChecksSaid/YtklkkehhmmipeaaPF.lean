/- Package polygon: on which side of a polygon a point lies. -/
import Derived.Test.YtklkkehhmmipeaaPE
namespace Go.Proofs.Ytklkkehhmmipeaa
open Go.RowKit
attribute [local go_sem ↓] Go.wp_at_zero Go.wp_at_succ

def crossUp (a b q : P2) : Bool := decide (a.2 ≤ q.2) && decide (q.2 < b.2) && decide (turnM a b q = 1)
/-- The ray from q to greater x crosses the side from a to b. -/
def crossM (a b q : P2) : Bool := if b.2 < a.2 then crossUp b a q else crossUp a b q

set_option maxRecDepth 100000 in
set_option maxHeartbeats 3200000 in
theorem crosses_any (a b q : P2) (v : Bool) (w : World) (h1 : inP a.1 a.2 = true) (h2 : inP b.1 b.2 = true) (h3 : inP q.1 q.2 = true) (hv : crossM a b q = v) :
    Calls Try.prog 53 #[v2 a.1 a.2, v2 b.1 b.2, v2 q.1 q.2] w fun e w' => e = .returned (.bool v) ∧ Below w.heap.size w w' := by
  obtain ⟨ax, ay⟩ := a
  obtain ⟨bx, by'⟩ := b
  obtain ⟨qx, qy⟩ := q
  subst hv
  unfold crossM crossUp
  dsimp only at h1 h2 h3 ⊢
  obtain ⟨s, hs⟩ : ∃ s, turnM (ax, ay) (bx, by') (qx, qy) = s := ⟨_, rfl⟩
  obtain ⟨t, ht⟩ : ∃ s, turnM (bx, by') (ax, ay) (qx, qy) = s := ⟨_, rfl⟩
  have hor : ∀ W, Calls Try.prog 23 #[v2 ax ay, v2 bx by', v2 qx qy] W fun e w' => e = .returned (.int .i64 s) ∧ Below W.heap.size W w' := fun W => orient_any (ax, ay) (bx, by') (qx, qy) s W (by rw [orient_ok h1 h2 h3, hs])
  have hor' : ∀ W, Calls Try.prog 23 #[v2 bx by', v2 ax ay, v2 qx qy] W fun e w' => e = .returned (.int .i64 t) ∧ Below W.heap.size W w' := fun W => orient_any (bx, by') (ax, ay) (qx, qy) t W (by rw [orient_ok h2 h1 h3, ht])
  rw [hs, ht]
  have Hor := Lib.hid hor
  have Hor' := Lib.hid hor'
  clear hor hor' hs ht h1 h2 h3
  by_cases g : by' < ay
  · rw [if_pos g]
    by_cases g1 : by' ≤ qy
    · by_cases g2 : qy < ay
      · go_enter Try.func53, Try.ntmps53
        go_wp2_with fail
        refine (Hor'.out _).mono ?_
        rintro e w1 ⟨rfl, hb1⟩
        go_wp2
        go_ret
        exact ⟨ret_bool (by rw [Bool.eq_iff_iff]; simp [g1, g2]), below_step (by (repeat (first | with_reducible assumption | with_reducible exact Below.refl _ _ | simp only [Below.drew_iff] | simp only [Below.drewN_iff] | with_reducible refine Below.setCell ?_ (by first | omega | (simp; done) | (simp; omega)) _ | with_reducible refine Below.alloc ?_ (by first | omega | (simp; done) | (simp; omega)) _))) hb1⟩
      · go_enter Try.func53, Try.ntmps53
        go_wp2
        go_ret
        exact ⟨ret_bool (by rw [Bool.eq_iff_iff]; simp; omega), (by (repeat (first | with_reducible assumption | with_reducible exact Below.refl _ _ | simp only [Below.drew_iff] | simp only [Below.drewN_iff] | with_reducible refine Below.setCell ?_ (by first | omega | (simp; done) | (simp; omega)) _ | with_reducible refine Below.alloc ?_ (by first | omega | (simp; done) | (simp; omega)) _)))⟩
    · go_enter Try.func53, Try.ntmps53
      go_wp2
      go_ret
      exact ⟨ret_bool (by rw [Bool.eq_iff_iff]; simp; omega), (by (repeat (first | with_reducible assumption | with_reducible exact Below.refl _ _ | simp only [Below.drew_iff] | simp only [Below.drewN_iff] | with_reducible refine Below.setCell ?_ (by first | omega | (simp; done) | (simp; omega)) _ | with_reducible refine Below.alloc ?_ (by first | omega | (simp; done) | (simp; omega)) _)))⟩
  · rw [if_neg g]
    by_cases g1 : ay ≤ qy
    · by_cases g2 : qy < by'
      · go_enter Try.func53, Try.ntmps53
        go_wp2_with fail
        refine (Hor.out _).mono ?_
        rintro e w1 ⟨rfl, hb1⟩
        go_wp2
        go_ret
        exact ⟨ret_bool (by rw [Bool.eq_iff_iff]; simp [g1, g2]), below_step (by (repeat (first | with_reducible assumption | with_reducible exact Below.refl _ _ | simp only [Below.drew_iff] | simp only [Below.drewN_iff] | with_reducible refine Below.setCell ?_ (by first | omega | (simp; done) | (simp; omega)) _ | with_reducible refine Below.alloc ?_ (by first | omega | (simp; done) | (simp; omega)) _))) hb1⟩
      · go_enter Try.func53, Try.ntmps53
        go_wp2
        go_ret
        exact ⟨ret_bool (by rw [Bool.eq_iff_iff]; simp; omega), (by (repeat (first | with_reducible assumption | with_reducible exact Below.refl _ _ | simp only [Below.drew_iff] | simp only [Below.drewN_iff] | with_reducible refine Below.setCell ?_ (by first | omega | (simp; done) | (simp; omega)) _ | with_reducible refine Below.alloc ?_ (by first | omega | (simp; done) | (simp; omega)) _)))⟩
    · go_enter Try.func53, Try.ntmps53
      go_wp2
      go_ret
      exact ⟨ret_bool (by rw [Bool.eq_iff_iff]; simp; omega), (by (repeat (first | with_reducible assumption | with_reducible exact Below.refl _ _ | simp only [Below.drew_iff] | simp only [Below.drewN_iff] | with_reducible refine Below.setCell ?_ (by first | omega | (simp; done) | (simp; omega)) _ | with_reducible refine Below.alloc ?_ (by first | omega | (simp; done) | (simp; omega)) _)))⟩

/-- Of the sides before k: q lies on one; the way in and out of the polygon. -/
def onAt (xs : List P2) (q : P2) (k : Nat) : Bool := onB (cor xs k) (nxt xs k) q
def sideTo (xs : List P2) (q : P2) : Nat → Int
  | 0 => -1
  | k + 1 => if crossM (cor xs k) (nxt xs k) q = true then - sideTo xs q k else sideTo xs q k
def sideM (xs : List P2) (q : P2) : Int := if (List.range xs.length).any (onAt xs q) = true then 0 else sideTo xs q xs.length
theorem sideTo_bd (xs : List P2) (q : P2) : ∀ k, sideTo xs q k = 1 ∨ sideTo xs q k = -1
  | 0 => .inr rfl
  | k + 1 => by
    have := sideTo_bd xs q k
    unfold sideTo
    split <;> omega
theorem on_ok {a b c : P2} (h1 : inP a.1 a.2 = true) (h2 : inP b.1 b.2 = true) (h3 : inP c.1 c.2 = true) : onV a.1 a.2 b.1 b.2 c.1 c.2 = .tuple #[.bool (onB a b c), .int .i64 0] := by
  unfold onV; rw [h1, h2, h3]; rfl
theorem row_one {g B : Nat} (w : World) (a b : Int) (t : TypeId) (hg : w.heap.size = g) (hB : g < B) : Row (w.alloc (.cells #[.int .i64 a, .int .i64 b] t)) B (some ⟨g, 0, none⟩) 1 [(a, b)] := row_lit w [(a, b)] t hg hB

set_option maxRecDepth 100000 in
set_option maxHeartbeats 6400000 in
theorem pSide_any (A : Option Addr) (n c : Nat) (xs : List P2) (qx qy : Int) (w : World) (h : Row w w.heap.size A n xs) (hn : n ≤ 2000) (he : chk xs [(qx, qy)] = 0) (hs : simpleM xs = true) :
    Calls Try.prog 31 #[.slice A n c, v2 qx qy] w fun e w' => e = .returned (.tuple #[.int .i64 (sideM xs (qx, qy)), .int .i64 0]) ∧ Below w.heap.size w w' := by
  obtain ⟨h1, h2, h3, h4⟩ := chk_ok he
  have hq : inP qx qy = true := by simpa [allP] using h4
  have hl := h.len
  have hn64 : n ≤ 64 := by omega
  have He := Lib.hid he
  have Hall := Lib.hid h3
  have Hl := Lib.hid hl
  have Hq := Lib.hid hq
  have Hs := Lib.hid hs
  clear h1 h2 h3 h4 he hl hq hs
  go_enter Try.func31, Try.ntmps31
  go_wp2_with fail
  refine (checkE_any A n c xs _ 1 _ [(qx, qy)] 0 _ (h.in_ (by (repeat (first | with_reducible assumption | with_reducible exact Below.refl _ _ | simp only [Below.drew_iff] | simp only [Below.drewN_iff] | with_reducible refine Below.setCell ?_ (by first | omega | (simp; done) | (simp; omega)) _ | with_reducible refine Below.alloc ?_ (by first | omega | (simp; done) | (simp; omega)) _))) (by simp; omega)) hn (row_one _ qx qy _ (by simp) (by simp)) (by omega) He.out).mono ?_
  rintro e w0 ⟨rfl, hb0⟩
  have acc0 : Below w.heap.size w w0 := below_step (by (repeat (first | with_reducible assumption | with_reducible exact Below.refl _ _ | simp only [Below.drew_iff] | simp only [Below.drewN_iff] | with_reducible refine Below.setCell ?_ (by first | omega | (simp; done) | (simp; omega)) _ | with_reducible refine Below.alloc ?_ (by first | omega | (simp; done) | (simp; omega)) _))) hb0
  have Q0 : Blk w0 w.heap.size [.int .i64 qx, .int .i64 qy] 31 := Blk.kept (by ((try simp only [Blk.drew_iff]); (try simp only [Blk.drewN_iff]); (try simp only [Blk.drew_iff]); repeat (first | with_reducible assumption | with_reducible exact Blk.new _ _ _ (by first | rfl | (simp; done) | (simp; omega)) | with_reducible refine Blk.alloc ?_ _ | with_reducible refine Blk.far ?_ (by first | (simp; done) | (simp; omega) | omega) _))) hb0
  have ql0 := Q0.lt
  obtain ⟨qf0, qf1, qf2, qf3⟩ := Q0.two
  clear hb0
  go_wp2_with fail
  refine (simple_any A n c xs _ (h.in_ acc0 acc0.size) hn64 Hall.out).mono ?_
  rw [Hs.out]
  rintro e w1 ⟨rfl, hb1⟩
  have acc1 : Below w.heap.size w w1 := below_step acc0 hb1
  have Q1 : Blk w1 w.heap.size [.int .i64 qx, .int .i64 qy] 31 := Blk.kept Q0 hb1
  clear hb1 acc0 Q0 ql0 qf0 qf1 qf2 qf3
  go_wp2
  go_loopw [7, 24] (fun s i wr => ∃ k : Nat, k ≤ n ∧ i = .int .i64 k ∧ s = .int .i64 (sideTo xs (qx, qy) k) ∧ (List.range k).any (onAt xs (qx, qy)) = false ∧ Blk wr w.heap.size [.int .i64 qx, .int .i64 qy] 31 ∧ Below w.heap.size w wr) (fun _ i _ => n - (intOf i).toNat)
  case atStart => exact ⟨0, Nat.zero_le _, rfl, rfl, rfl, Q1, acc1⟩
  case round =>
    obtain ⟨k, hk, rfl, rfl, hno, Q, hbel⟩ := hrel
    have Hno := Lib.hid hno
    clear hno acc1 Q1
    by_cases hlt : k < n
    · have hrow := h.below hbel
      obtain ⟨b, off, x, y, hA, hbB, hx, hc1, hc2⟩ := hrow.at_ hlt
      obtain ⟨m, x2, y2, hm, _, hml, hx2, hnx⟩ := next_is (k := k) Hl.out (by omega)
      have hsz := hbel.size
      have ql := Q.lt
      obtain ⟨qf0, qf1, qf2, qf3⟩ := Q.two
      have hon := fun W => von_any x y x2 y2 qx qy W
      rw [on_ok (a := (x, y)) (b := (x2, y2)) (c := (qx, qy)) (inP_at' Hall.out hx) (inP_at' Hall.out hx2) Hq.out] at hon
      have ho : onAt xs (qx, qy) k = onB (x, y) (x2, y2) (qx, qy) := by unfold onAt; rw [cor_eq hx, hnx]
      rw [← ho] at hon
      obtain ⟨v, hv⟩ : ∃ v, crossM (x, y) (x2, y2) (qx, qy) = v := ⟨_, rfl⟩
      have hcr : ∀ W, Calls Try.prog 53 #[v2 x y, v2 x2 y2, v2 qx qy] W fun e w' => e = .returned (.bool v) ∧ Below W.heap.size W w' := fun W => crosses_any (x, y) (x2, y2) (qx, qy) v W (inP_at' Hall.out hx) (inP_at' Hall.out hx2) Hq.out hv
      have hst : sideTo xs (qx, qy) (k + 1) = if v = true then - sideTo xs (qx, qy) k else sideTo xs (qx, qy) k := by
        show (if crossM (cor xs k) (nxt xs k) (qx, qy) = true then _ else _) = _
        rw [cor_eq hx, hnx, hv]
      have hbd := sideTo_bd xs (qx, qy) k
      obtain ⟨s, hs⟩ : ∃ s, sideTo xs (qx, qy) k = s := ⟨_, rfl⟩
      obtain ⟨o, hoo⟩ : ∃ o, onAt xs (qx, qy) k = o := ⟨_, rfl⟩
      rw [hoo] at hon
      rw [hs] at hbd hst ⊢
      have Hon := Lib.hid hon
      have Ho := Lib.hid hoo
      have Hcr := Lib.hid hcr
      have Hst := Lib.hid hst
      have Hm := Lib.hid hm
      have Hx2 := Lib.hid hx2
      have Hrow := Lib.hid h
      subst hA
      clear hx hx2 hm hnx hon ho hcr hst hv hrow h hs hoo
      cases o
      · cases v
        · go_wp2_with fail
          go_region_held3 (fun w' => w'.cell? ⟨w.heap.size, 0, none⟩ = some (.int .i64 qx) ∧ w'.cell? ⟨w.heap.size, 1, none⟩ = some (.int .i64 qy) ∧ w'.cell? ⟨wr.heap.size, 0, none⟩ = some (.int .i64 x) ∧ w'.cell? ⟨wr.heap.size, 1, none⟩ = some (.int .i64 y))
            (first | (refine ⟨?_, ?_, ?_, ?_⟩ <;> with_reducible assumption) | (refine ⟨Blk.cell (cs := [.int .i64 qx, .int .i64 qy]) (t := 31) ?_ 0 rfl, Blk.cell (cs := [.int .i64 qx, .int .i64 qy]) (t := 31) ?_ 1 rfl, Blk.cell (cs := [.int .i64 x, .int .i64 y]) (t := 31) ?_ 0 rfl, Blk.cell (cs := [.int .i64 x, .int .i64 y]) (t := 31) ?_ 1 rfl⟩ <;> ((try simp only [Blk.drew_iff]); (try simp only [Blk.drewN_iff]); (try simp only [Blk.drew_iff]); repeat (first | with_reducible assumption | with_reducible exact Blk.new _ _ _ (by first | rfl | (simp; done) | (simp; omega)) | with_reducible refine Blk.alloc ?_ _ | with_reducible refine Blk.far ?_ (by first | (simp; done) | (simp; omega) | omega) _))) | go_keep | (refine ⟨?_, ?_, ?_, ?_⟩ <;> go_keep))
            (first
              | (go_at_call 52; (have tok := hb1; clear tok); (fail_if_success (have tok := hb2)); refine (Hon.out _).mono ?_; rintro e w2 ⟨rfl, hb2⟩; have acc2 : Below w.heap.size w w2 := below_step (by (repeat (first | with_reducible assumption | with_reducible exact Below.refl _ _ | simp only [Below.drew_iff] | simp only [Below.drewN_iff] | with_reducible refine Below.setCell ?_ (by first | omega | (simp; done) | (simp; omega)) _ | with_reducible refine Below.alloc ?_ (by first | omega | (simp; done) | (simp; omega)) _))) hb2; have zz2 := acc2.size; have A0_2 : Blk w2 (w.heap.size) [.int .i64 qx, .int .i64 qy] 31 := Blk.kept (by ((try simp only [Blk.drew_iff]); (try simp only [Blk.drewN_iff]); (try simp only [Blk.drew_iff]); first | with_reducible assumption | with_reducible exact Blk.new _ _ _ (by first | rfl | (simp; done) | (simp; omega)) | (with_reducible refine Blk.alloc ?_ _; first | with_reducible assumption | with_reducible exact Blk.new _ _ _ (by first | rfl | (simp; done) | (simp; omega)) | (with_reducible refine Blk.alloc ?_ _; with_reducible assumption)))) hb2; obtain ⟨a0_2_0, a0_2_1, a0_2_2, a0_2_3⟩ := A0_2.two; have lA0_2 := A0_2.lt; have A1_2 : Blk w2 (wr.heap.size) [.int .i64 x, .int .i64 y] 31 := Blk.kept (by ((try simp only [Blk.drew_iff]); (try simp only [Blk.drewN_iff]); (try simp only [Blk.drew_iff]); first | with_reducible assumption | with_reducible exact Blk.new _ _ _ (by first | rfl | (simp; done) | (simp; omega)) | (with_reducible refine Blk.alloc ?_ _; first | with_reducible assumption | with_reducible exact Blk.new _ _ _ (by first | rfl | (simp; done) | (simp; omega)) | (with_reducible refine Blk.alloc ?_ _; with_reducible assumption)))) hb2; obtain ⟨a1_2_0, a1_2_1, a1_2_2, a1_2_3⟩ := A1_2.two; have lA1_2 := A1_2.lt)
              | (go_at_call 44; (fail_if_success (have tok := hb1)); refine (next_any _ _ _ xs ((k : Int)) m x2 y2 _ w.heap.size (Row.below Hrow.out (by (repeat (first | with_reducible assumption | with_reducible exact Below.refl _ _ | simp only [Below.drew_iff] | simp only [Below.drewN_iff] | with_reducible refine Below.setCell ?_ (by first | omega | (simp; done) | (simp; omega)) _ | with_reducible refine Below.alloc ?_ (by first | omega | (simp; done) | (simp; omega)) _)))) (by first | omega | (simp; done) | (simp; omega)) (by omega) (by omega) (by omega) Hm.out Hx2.out).mono ?_; rintro e w1 ⟨rfl, hb1⟩; have acc1 : Below w.heap.size w w1 := below_step (by (repeat (first | with_reducible assumption | with_reducible exact Below.refl _ _ | simp only [Below.drew_iff] | simp only [Below.drewN_iff] | with_reducible refine Below.setCell ?_ (by first | omega | (simp; done) | (simp; omega)) _ | with_reducible refine Below.alloc ?_ (by first | omega | (simp; done) | (simp; omega)) _))) hb1; have zz1 := acc1.size; have A0_1 : Blk w1 (w.heap.size) [.int .i64 qx, .int .i64 qy] 31 := Blk.kept (by ((try simp only [Blk.drew_iff]); (try simp only [Blk.drewN_iff]); (try simp only [Blk.drew_iff]); first | with_reducible assumption | with_reducible exact Blk.new _ _ _ (by first | rfl | (simp; done) | (simp; omega)) | (with_reducible refine Blk.alloc ?_ _; first | with_reducible assumption | with_reducible exact Blk.new _ _ _ (by first | rfl | (simp; done) | (simp; omega)) | (with_reducible refine Blk.alloc ?_ _; with_reducible assumption)))) hb1; obtain ⟨a0_1_0, a0_1_1, a0_1_2, a0_1_3⟩ := A0_1.two; have lA0_1 := A0_1.lt; have A1_1 : Blk w1 (wr.heap.size) [.int .i64 x, .int .i64 y] 31 := Blk.kept (by ((try simp only [Blk.drew_iff]); (try simp only [Blk.drewN_iff]); (try simp only [Blk.drew_iff]); first | with_reducible assumption | with_reducible exact Blk.new _ _ _ (by first | rfl | (simp; done) | (simp; omega)) | (with_reducible refine Blk.alloc ?_ _; first | with_reducible assumption | with_reducible exact Blk.new _ _ _ (by first | rfl | (simp; done) | (simp; omega)) | (with_reducible refine Blk.alloc ?_ _; with_reducible assumption)))) hb1; obtain ⟨a1_1_0, a1_1_1, a1_1_2, a1_1_3⟩ := A1_1.two; have lA1_1 := A1_1.lt))
          go_wp2_with fail
          go_region_held3 (fun w' => w'.cell? ⟨w.heap.size, 0, none⟩ = some (.int .i64 qx) ∧ w'.cell? ⟨w.heap.size, 1, none⟩ = some (.int .i64 qy) ∧ w'.cell? ⟨wr.heap.size, 0, none⟩ = some (.int .i64 x) ∧ w'.cell? ⟨wr.heap.size, 1, none⟩ = some (.int .i64 y))
            (first | (refine ⟨?_, ?_, ?_, ?_⟩ <;> with_reducible assumption) | (refine ⟨Blk.cell (cs := [.int .i64 qx, .int .i64 qy]) (t := 31) ?_ 0 rfl, Blk.cell (cs := [.int .i64 qx, .int .i64 qy]) (t := 31) ?_ 1 rfl, Blk.cell (cs := [.int .i64 x, .int .i64 y]) (t := 31) ?_ 0 rfl, Blk.cell (cs := [.int .i64 x, .int .i64 y]) (t := 31) ?_ 1 rfl⟩ <;> ((try simp only [Blk.drew_iff]); (try simp only [Blk.drewN_iff]); (try simp only [Blk.drew_iff]); repeat (first | with_reducible assumption | with_reducible exact Blk.new _ _ _ (by first | rfl | (simp; done) | (simp; omega)) | with_reducible refine Blk.alloc ?_ _ | with_reducible refine Blk.far ?_ (by first | (simp; done) | (simp; omega) | omega) _))) | go_keep | (refine ⟨?_, ?_, ?_, ?_⟩ <;> go_keep))
            (first
              | (go_at_call 53; (have tok := hbq1; clear tok); (fail_if_success (have tok := hbq2)); refine (Hcr.out _).mono ?_; rintro e wq2 ⟨rfl, hbq2⟩; have accq2 : Below w.heap.size w wq2 := below_step (by (repeat (first | with_reducible assumption | with_reducible exact Below.refl _ _ | simp only [Below.drew_iff] | simp only [Below.drewN_iff] | with_reducible refine Below.setCell ?_ (by first | omega | (simp; done) | (simp; omega)) _ | with_reducible refine Below.alloc ?_ (by first | omega | (simp; done) | (simp; omega)) _))) hbq2; have zzq2 := accq2.size; have Aq0_2 : Blk wq2 (w.heap.size) [.int .i64 qx, .int .i64 qy] 31 := Blk.kept (by ((try simp only [Blk.drew_iff]); (try simp only [Blk.drewN_iff]); (try simp only [Blk.drew_iff]); first | with_reducible assumption | with_reducible exact Blk.new _ _ _ (by first | rfl | (simp; done) | (simp; omega)) | (with_reducible refine Blk.alloc ?_ _; first | with_reducible assumption | with_reducible exact Blk.new _ _ _ (by first | rfl | (simp; done) | (simp; omega)) | (with_reducible refine Blk.alloc ?_ _; with_reducible assumption)))) hbq2; obtain ⟨aq0_2_0, aq0_2_1, aq0_2_2, aq0_2_3⟩ := Aq0_2.two; have lAq0_2 := Aq0_2.lt; have Aq1_2 : Blk wq2 (wr.heap.size) [.int .i64 x, .int .i64 y] 31 := Blk.kept (by ((try simp only [Blk.drew_iff]); (try simp only [Blk.drewN_iff]); (try simp only [Blk.drew_iff]); first | with_reducible assumption | with_reducible exact Blk.new _ _ _ (by first | rfl | (simp; done) | (simp; omega)) | (with_reducible refine Blk.alloc ?_ _; first | with_reducible assumption | with_reducible exact Blk.new _ _ _ (by first | rfl | (simp; done) | (simp; omega)) | (with_reducible refine Blk.alloc ?_ _; with_reducible assumption)))) hbq2; obtain ⟨aq1_2_0, aq1_2_1, aq1_2_2, aq1_2_3⟩ := Aq1_2.two; have lAq1_2 := Aq1_2.lt)
              | (go_at_call 44; (fail_if_success (have tok := hbq1)); refine (next_any _ _ _ xs ((k : Int)) m x2 y2 _ w.heap.size (Row.below Hrow.out (by (repeat (first | with_reducible assumption | with_reducible exact Below.refl _ _ | simp only [Below.drew_iff] | simp only [Below.drewN_iff] | with_reducible refine Below.setCell ?_ (by first | omega | (simp; done) | (simp; omega)) _ | with_reducible refine Below.alloc ?_ (by first | omega | (simp; done) | (simp; omega)) _)))) (by first | omega | (simp; done) | (simp; omega)) (by omega) (by omega) (by omega) Hm.out Hx2.out).mono ?_; rintro e wq1 ⟨rfl, hbq1⟩; have accq1 : Below w.heap.size w wq1 := below_step (by (repeat (first | with_reducible assumption | with_reducible exact Below.refl _ _ | simp only [Below.drew_iff] | simp only [Below.drewN_iff] | with_reducible refine Below.setCell ?_ (by first | omega | (simp; done) | (simp; omega)) _ | with_reducible refine Below.alloc ?_ (by first | omega | (simp; done) | (simp; omega)) _))) hbq1; have zzq1 := accq1.size; have Aq0_1 : Blk wq1 (w.heap.size) [.int .i64 qx, .int .i64 qy] 31 := Blk.kept (by ((try simp only [Blk.drew_iff]); (try simp only [Blk.drewN_iff]); (try simp only [Blk.drew_iff]); first | with_reducible assumption | with_reducible exact Blk.new _ _ _ (by first | rfl | (simp; done) | (simp; omega)) | (with_reducible refine Blk.alloc ?_ _; first | with_reducible assumption | with_reducible exact Blk.new _ _ _ (by first | rfl | (simp; done) | (simp; omega)) | (with_reducible refine Blk.alloc ?_ _; with_reducible assumption)))) hbq1; obtain ⟨aq0_1_0, aq0_1_1, aq0_1_2, aq0_1_3⟩ := Aq0_1.two; have lAq0_1 := Aq0_1.lt; have Aq1_1 : Blk wq1 (wr.heap.size) [.int .i64 x, .int .i64 y] 31 := Blk.kept (by ((try simp only [Blk.drew_iff]); (try simp only [Blk.drewN_iff]); (try simp only [Blk.drew_iff]); first | with_reducible assumption | with_reducible exact Blk.new _ _ _ (by first | rfl | (simp; done) | (simp; omega)) | (with_reducible refine Blk.alloc ?_ _; first | with_reducible assumption | with_reducible exact Blk.new _ _ _ (by first | rfl | (simp; done) | (simp; omega)) | (with_reducible refine Blk.alloc ?_ _; with_reducible assumption)))) hbq1; obtain ⟨aq1_1_0, aq1_1_1, aq1_1_2, aq1_1_3⟩ := Aq1_1.two; have lAq1_1 := Aq1_1.lt))
          go_wp2
          go_roundw
          case rel => exact ⟨k + 1, by omega, by go_num, by rw [Hst.out]; rfl, any_range_succ Hno.out Ho.out, (by ((try simp only [Blk.drew_iff]); (try simp only [Blk.drewN_iff]); (try simp only [Blk.drew_iff]); repeat (first | with_reducible assumption | with_reducible exact Blk.new _ _ _ (by first | rfl | (simp; done) | (simp; omega)) | with_reducible refine Blk.alloc ?_ _ | with_reducible refine Blk.far ?_ (by first | (simp; done) | (simp; omega) | omega) _))), (by (repeat (first | with_reducible assumption | with_reducible exact Below.refl _ _ | simp only [Below.drew_iff] | simp only [Below.drewN_iff] | with_reducible refine Below.setCell ?_ (by first | omega | (simp; done) | (simp; omega)) _ | with_reducible refine Below.alloc ?_ (by first | omega | (simp; done) | (simp; omega)) _)))⟩
          case measure => simp [intOf]; omega
        · go_wp2_with fail
          go_region_held3 (fun w' => w'.cell? ⟨w.heap.size, 0, none⟩ = some (.int .i64 qx) ∧ w'.cell? ⟨w.heap.size, 1, none⟩ = some (.int .i64 qy) ∧ w'.cell? ⟨wr.heap.size, 0, none⟩ = some (.int .i64 x) ∧ w'.cell? ⟨wr.heap.size, 1, none⟩ = some (.int .i64 y))
            (first | (refine ⟨?_, ?_, ?_, ?_⟩ <;> with_reducible assumption) | (refine ⟨Blk.cell (cs := [.int .i64 qx, .int .i64 qy]) (t := 31) ?_ 0 rfl, Blk.cell (cs := [.int .i64 qx, .int .i64 qy]) (t := 31) ?_ 1 rfl, Blk.cell (cs := [.int .i64 x, .int .i64 y]) (t := 31) ?_ 0 rfl, Blk.cell (cs := [.int .i64 x, .int .i64 y]) (t := 31) ?_ 1 rfl⟩ <;> ((try simp only [Blk.drew_iff]); (try simp only [Blk.drewN_iff]); (try simp only [Blk.drew_iff]); repeat (first | with_reducible assumption | with_reducible exact Blk.new _ _ _ (by first | rfl | (simp; done) | (simp; omega)) | with_reducible refine Blk.alloc ?_ _ | with_reducible refine Blk.far ?_ (by first | (simp; done) | (simp; omega) | omega) _))) | go_keep | (refine ⟨?_, ?_, ?_, ?_⟩ <;> go_keep))
            (first
              | (go_at_call 52; (have tok := hb1; clear tok); (fail_if_success (have tok := hb2)); refine (Hon.out _).mono ?_; rintro e w2 ⟨rfl, hb2⟩; have acc2 : Below w.heap.size w w2 := below_step (by (repeat (first | with_reducible assumption | with_reducible exact Below.refl _ _ | simp only [Below.drew_iff] | simp only [Below.drewN_iff] | with_reducible refine Below.setCell ?_ (by first | omega | (simp; done) | (simp; omega)) _ | with_reducible refine Below.alloc ?_ (by first | omega | (simp; done) | (simp; omega)) _))) hb2; have zz2 := acc2.size; have A0_2 : Blk w2 (w.heap.size) [.int .i64 qx, .int .i64 qy] 31 := Blk.kept (by ((try simp only [Blk.drew_iff]); (try simp only [Blk.drewN_iff]); (try simp only [Blk.drew_iff]); first | with_reducible assumption | with_reducible exact Blk.new _ _ _ (by first | rfl | (simp; done) | (simp; omega)) | (with_reducible refine Blk.alloc ?_ _; first | with_reducible assumption | with_reducible exact Blk.new _ _ _ (by first | rfl | (simp; done) | (simp; omega)) | (with_reducible refine Blk.alloc ?_ _; with_reducible assumption)))) hb2; obtain ⟨a0_2_0, a0_2_1, a0_2_2, a0_2_3⟩ := A0_2.two; have lA0_2 := A0_2.lt; have A1_2 : Blk w2 (wr.heap.size) [.int .i64 x, .int .i64 y] 31 := Blk.kept (by ((try simp only [Blk.drew_iff]); (try simp only [Blk.drewN_iff]); (try simp only [Blk.drew_iff]); first | with_reducible assumption | with_reducible exact Blk.new _ _ _ (by first | rfl | (simp; done) | (simp; omega)) | (with_reducible refine Blk.alloc ?_ _; first | with_reducible assumption | with_reducible exact Blk.new _ _ _ (by first | rfl | (simp; done) | (simp; omega)) | (with_reducible refine Blk.alloc ?_ _; with_reducible assumption)))) hb2; obtain ⟨a1_2_0, a1_2_1, a1_2_2, a1_2_3⟩ := A1_2.two; have lA1_2 := A1_2.lt)
              | (go_at_call 44; (fail_if_success (have tok := hb1)); refine (next_any _ _ _ xs ((k : Int)) m x2 y2 _ w.heap.size (Row.below Hrow.out (by (repeat (first | with_reducible assumption | with_reducible exact Below.refl _ _ | simp only [Below.drew_iff] | simp only [Below.drewN_iff] | with_reducible refine Below.setCell ?_ (by first | omega | (simp; done) | (simp; omega)) _ | with_reducible refine Below.alloc ?_ (by first | omega | (simp; done) | (simp; omega)) _)))) (by first | omega | (simp; done) | (simp; omega)) (by omega) (by omega) (by omega) Hm.out Hx2.out).mono ?_; rintro e w1 ⟨rfl, hb1⟩; have acc1 : Below w.heap.size w w1 := below_step (by (repeat (first | with_reducible assumption | with_reducible exact Below.refl _ _ | simp only [Below.drew_iff] | simp only [Below.drewN_iff] | with_reducible refine Below.setCell ?_ (by first | omega | (simp; done) | (simp; omega)) _ | with_reducible refine Below.alloc ?_ (by first | omega | (simp; done) | (simp; omega)) _))) hb1; have zz1 := acc1.size; have A0_1 : Blk w1 (w.heap.size) [.int .i64 qx, .int .i64 qy] 31 := Blk.kept (by ((try simp only [Blk.drew_iff]); (try simp only [Blk.drewN_iff]); (try simp only [Blk.drew_iff]); first | with_reducible assumption | with_reducible exact Blk.new _ _ _ (by first | rfl | (simp; done) | (simp; omega)) | (with_reducible refine Blk.alloc ?_ _; first | with_reducible assumption | with_reducible exact Blk.new _ _ _ (by first | rfl | (simp; done) | (simp; omega)) | (with_reducible refine Blk.alloc ?_ _; with_reducible assumption)))) hb1; obtain ⟨a0_1_0, a0_1_1, a0_1_2, a0_1_3⟩ := A0_1.two; have lA0_1 := A0_1.lt; have A1_1 : Blk w1 (wr.heap.size) [.int .i64 x, .int .i64 y] 31 := Blk.kept (by ((try simp only [Blk.drew_iff]); (try simp only [Blk.drewN_iff]); (try simp only [Blk.drew_iff]); first | with_reducible assumption | with_reducible exact Blk.new _ _ _ (by first | rfl | (simp; done) | (simp; omega)) | (with_reducible refine Blk.alloc ?_ _; first | with_reducible assumption | with_reducible exact Blk.new _ _ _ (by first | rfl | (simp; done) | (simp; omega)) | (with_reducible refine Blk.alloc ?_ _; with_reducible assumption)))) hb1; obtain ⟨a1_1_0, a1_1_1, a1_1_2, a1_1_3⟩ := A1_1.two; have lA1_1 := A1_1.lt))
          go_wp2_with fail
          go_region_held3 (fun w' => w'.cell? ⟨w.heap.size, 0, none⟩ = some (.int .i64 qx) ∧ w'.cell? ⟨w.heap.size, 1, none⟩ = some (.int .i64 qy) ∧ w'.cell? ⟨wr.heap.size, 0, none⟩ = some (.int .i64 x) ∧ w'.cell? ⟨wr.heap.size, 1, none⟩ = some (.int .i64 y))
            (first | (refine ⟨?_, ?_, ?_, ?_⟩ <;> with_reducible assumption) | (refine ⟨Blk.cell (cs := [.int .i64 qx, .int .i64 qy]) (t := 31) ?_ 0 rfl, Blk.cell (cs := [.int .i64 qx, .int .i64 qy]) (t := 31) ?_ 1 rfl, Blk.cell (cs := [.int .i64 x, .int .i64 y]) (t := 31) ?_ 0 rfl, Blk.cell (cs := [.int .i64 x, .int .i64 y]) (t := 31) ?_ 1 rfl⟩ <;> ((try simp only [Blk.drew_iff]); (try simp only [Blk.drewN_iff]); (try simp only [Blk.drew_iff]); repeat (first | with_reducible assumption | with_reducible exact Blk.new _ _ _ (by first | rfl | (simp; done) | (simp; omega)) | with_reducible refine Blk.alloc ?_ _ | with_reducible refine Blk.far ?_ (by first | (simp; done) | (simp; omega) | omega) _))) | go_keep | (refine ⟨?_, ?_, ?_, ?_⟩ <;> go_keep))
            (first
              | (go_at_call 53; (have tok := hbq1; clear tok); (fail_if_success (have tok := hbq2)); refine (Hcr.out _).mono ?_; rintro e wq2 ⟨rfl, hbq2⟩; have accq2 : Below w.heap.size w wq2 := below_step (by (repeat (first | with_reducible assumption | with_reducible exact Below.refl _ _ | simp only [Below.drew_iff] | simp only [Below.drewN_iff] | with_reducible refine Below.setCell ?_ (by first | omega | (simp; done) | (simp; omega)) _ | with_reducible refine Below.alloc ?_ (by first | omega | (simp; done) | (simp; omega)) _))) hbq2; have zzq2 := accq2.size; have Aq0_2 : Blk wq2 (w.heap.size) [.int .i64 qx, .int .i64 qy] 31 := Blk.kept (by ((try simp only [Blk.drew_iff]); (try simp only [Blk.drewN_iff]); (try simp only [Blk.drew_iff]); first | with_reducible assumption | with_reducible exact Blk.new _ _ _ (by first | rfl | (simp; done) | (simp; omega)) | (with_reducible refine Blk.alloc ?_ _; first | with_reducible assumption | with_reducible exact Blk.new _ _ _ (by first | rfl | (simp; done) | (simp; omega)) | (with_reducible refine Blk.alloc ?_ _; with_reducible assumption)))) hbq2; obtain ⟨aq0_2_0, aq0_2_1, aq0_2_2, aq0_2_3⟩ := Aq0_2.two; have lAq0_2 := Aq0_2.lt; have Aq1_2 : Blk wq2 (wr.heap.size) [.int .i64 x, .int .i64 y] 31 := Blk.kept (by ((try simp only [Blk.drew_iff]); (try simp only [Blk.drewN_iff]); (try simp only [Blk.drew_iff]); first | with_reducible assumption | with_reducible exact Blk.new _ _ _ (by first | rfl | (simp; done) | (simp; omega)) | (with_reducible refine Blk.alloc ?_ _; first | with_reducible assumption | with_reducible exact Blk.new _ _ _ (by first | rfl | (simp; done) | (simp; omega)) | (with_reducible refine Blk.alloc ?_ _; with_reducible assumption)))) hbq2; obtain ⟨aq1_2_0, aq1_2_1, aq1_2_2, aq1_2_3⟩ := Aq1_2.two; have lAq1_2 := Aq1_2.lt)
              | (go_at_call 44; (fail_if_success (have tok := hbq1)); refine (next_any _ _ _ xs ((k : Int)) m x2 y2 _ w.heap.size (Row.below Hrow.out (by (repeat (first | with_reducible assumption | with_reducible exact Below.refl _ _ | simp only [Below.drew_iff] | simp only [Below.drewN_iff] | with_reducible refine Below.setCell ?_ (by first | omega | (simp; done) | (simp; omega)) _ | with_reducible refine Below.alloc ?_ (by first | omega | (simp; done) | (simp; omega)) _)))) (by first | omega | (simp; done) | (simp; omega)) (by omega) (by omega) (by omega) Hm.out Hx2.out).mono ?_; rintro e wq1 ⟨rfl, hbq1⟩; have accq1 : Below w.heap.size w wq1 := below_step (by (repeat (first | with_reducible assumption | with_reducible exact Below.refl _ _ | simp only [Below.drew_iff] | simp only [Below.drewN_iff] | with_reducible refine Below.setCell ?_ (by first | omega | (simp; done) | (simp; omega)) _ | with_reducible refine Below.alloc ?_ (by first | omega | (simp; done) | (simp; omega)) _))) hbq1; have zzq1 := accq1.size; have Aq0_1 : Blk wq1 (w.heap.size) [.int .i64 qx, .int .i64 qy] 31 := Blk.kept (by ((try simp only [Blk.drew_iff]); (try simp only [Blk.drewN_iff]); (try simp only [Blk.drew_iff]); first | with_reducible assumption | with_reducible exact Blk.new _ _ _ (by first | rfl | (simp; done) | (simp; omega)) | (with_reducible refine Blk.alloc ?_ _; first | with_reducible assumption | with_reducible exact Blk.new _ _ _ (by first | rfl | (simp; done) | (simp; omega)) | (with_reducible refine Blk.alloc ?_ _; with_reducible assumption)))) hbq1; obtain ⟨aq0_1_0, aq0_1_1, aq0_1_2, aq0_1_3⟩ := Aq0_1.two; have lAq0_1 := Aq0_1.lt; have Aq1_1 : Blk wq1 (wr.heap.size) [.int .i64 x, .int .i64 y] 31 := Blk.kept (by ((try simp only [Blk.drew_iff]); (try simp only [Blk.drewN_iff]); (try simp only [Blk.drew_iff]); first | with_reducible assumption | with_reducible exact Blk.new _ _ _ (by first | rfl | (simp; done) | (simp; omega)) | (with_reducible refine Blk.alloc ?_ _; first | with_reducible assumption | with_reducible exact Blk.new _ _ _ (by first | rfl | (simp; done) | (simp; omega)) | (with_reducible refine Blk.alloc ?_ _; with_reducible assumption)))) hbq1; obtain ⟨aq1_1_0, aq1_1_1, aq1_1_2, aq1_1_3⟩ := Aq1_1.two; have lAq1_1 := Aq1_1.lt))
          go_wp2
          go_roundw
          case rel => exact ⟨k + 1, by omega, by go_num, by rw [Hst.out]; rfl, any_range_succ Hno.out Ho.out, (by ((try simp only [Blk.drew_iff]); (try simp only [Blk.drewN_iff]); (try simp only [Blk.drew_iff]); repeat (first | with_reducible assumption | with_reducible exact Blk.new _ _ _ (by first | rfl | (simp; done) | (simp; omega)) | with_reducible refine Blk.alloc ?_ _ | with_reducible refine Blk.far ?_ (by first | (simp; done) | (simp; omega) | omega) _))), (by (repeat (first | with_reducible assumption | with_reducible exact Below.refl _ _ | simp only [Below.drew_iff] | simp only [Below.drewN_iff] | with_reducible refine Below.setCell ?_ (by first | omega | (simp; done) | (simp; omega)) _ | with_reducible refine Below.alloc ?_ (by first | omega | (simp; done) | (simp; omega)) _)))⟩
          case measure => simp [intOf]; omega
      · go_wp2_with fail
        go_region_held3 (fun w' => w'.cell? ⟨w.heap.size, 0, none⟩ = some (.int .i64 qx) ∧ w'.cell? ⟨w.heap.size, 1, none⟩ = some (.int .i64 qy) ∧ w'.cell? ⟨wr.heap.size, 0, none⟩ = some (.int .i64 x) ∧ w'.cell? ⟨wr.heap.size, 1, none⟩ = some (.int .i64 y))
          (first | (refine ⟨?_, ?_, ?_, ?_⟩ <;> with_reducible assumption) | (refine ⟨Blk.cell (cs := [.int .i64 qx, .int .i64 qy]) (t := 31) ?_ 0 rfl, Blk.cell (cs := [.int .i64 qx, .int .i64 qy]) (t := 31) ?_ 1 rfl, Blk.cell (cs := [.int .i64 x, .int .i64 y]) (t := 31) ?_ 0 rfl, Blk.cell (cs := [.int .i64 x, .int .i64 y]) (t := 31) ?_ 1 rfl⟩ <;> ((try simp only [Blk.drew_iff]); (try simp only [Blk.drewN_iff]); (try simp only [Blk.drew_iff]); repeat (first | with_reducible assumption | with_reducible exact Blk.new _ _ _ (by first | rfl | (simp; done) | (simp; omega)) | with_reducible refine Blk.alloc ?_ _ | with_reducible refine Blk.far ?_ (by first | (simp; done) | (simp; omega) | omega) _))) | go_keep | (refine ⟨?_, ?_, ?_, ?_⟩ <;> go_keep))
          (first
            | (go_at_call 52; (have tok := hb1; clear tok); (fail_if_success (have tok := hb2)); refine (Hon.out _).mono ?_; rintro e w2 ⟨rfl, hb2⟩; have acc2 : Below w.heap.size w w2 := below_step (by (repeat (first | with_reducible assumption | with_reducible exact Below.refl _ _ | simp only [Below.drew_iff] | simp only [Below.drewN_iff] | with_reducible refine Below.setCell ?_ (by first | omega | (simp; done) | (simp; omega)) _ | with_reducible refine Below.alloc ?_ (by first | omega | (simp; done) | (simp; omega)) _))) hb2; have zz2 := acc2.size; have A0_2 : Blk w2 (w.heap.size) [.int .i64 qx, .int .i64 qy] 31 := Blk.kept (by ((try simp only [Blk.drew_iff]); (try simp only [Blk.drewN_iff]); (try simp only [Blk.drew_iff]); first | with_reducible assumption | with_reducible exact Blk.new _ _ _ (by first | rfl | (simp; done) | (simp; omega)) | (with_reducible refine Blk.alloc ?_ _; first | with_reducible assumption | with_reducible exact Blk.new _ _ _ (by first | rfl | (simp; done) | (simp; omega)) | (with_reducible refine Blk.alloc ?_ _; with_reducible assumption)))) hb2; obtain ⟨a0_2_0, a0_2_1, a0_2_2, a0_2_3⟩ := A0_2.two; have lA0_2 := A0_2.lt; have A1_2 : Blk w2 (wr.heap.size) [.int .i64 x, .int .i64 y] 31 := Blk.kept (by ((try simp only [Blk.drew_iff]); (try simp only [Blk.drewN_iff]); (try simp only [Blk.drew_iff]); first | with_reducible assumption | with_reducible exact Blk.new _ _ _ (by first | rfl | (simp; done) | (simp; omega)) | (with_reducible refine Blk.alloc ?_ _; first | with_reducible assumption | with_reducible exact Blk.new _ _ _ (by first | rfl | (simp; done) | (simp; omega)) | (with_reducible refine Blk.alloc ?_ _; with_reducible assumption)))) hb2; obtain ⟨a1_2_0, a1_2_1, a1_2_2, a1_2_3⟩ := A1_2.two; have lA1_2 := A1_2.lt)
            | (go_at_call 44; (fail_if_success (have tok := hb1)); refine (next_any _ _ _ xs ((k : Int)) m x2 y2 _ w.heap.size (Row.below Hrow.out (by (repeat (first | with_reducible assumption | with_reducible exact Below.refl _ _ | simp only [Below.drew_iff] | simp only [Below.drewN_iff] | with_reducible refine Below.setCell ?_ (by first | omega | (simp; done) | (simp; omega)) _ | with_reducible refine Below.alloc ?_ (by first | omega | (simp; done) | (simp; omega)) _)))) (by first | omega | (simp; done) | (simp; omega)) (by omega) (by omega) (by omega) Hm.out Hx2.out).mono ?_; rintro e w1 ⟨rfl, hb1⟩; have acc1 : Below w.heap.size w w1 := below_step (by (repeat (first | with_reducible assumption | with_reducible exact Below.refl _ _ | simp only [Below.drew_iff] | simp only [Below.drewN_iff] | with_reducible refine Below.setCell ?_ (by first | omega | (simp; done) | (simp; omega)) _ | with_reducible refine Below.alloc ?_ (by first | omega | (simp; done) | (simp; omega)) _))) hb1; have zz1 := acc1.size; have A0_1 : Blk w1 (w.heap.size) [.int .i64 qx, .int .i64 qy] 31 := Blk.kept (by ((try simp only [Blk.drew_iff]); (try simp only [Blk.drewN_iff]); (try simp only [Blk.drew_iff]); first | with_reducible assumption | with_reducible exact Blk.new _ _ _ (by first | rfl | (simp; done) | (simp; omega)) | (with_reducible refine Blk.alloc ?_ _; first | with_reducible assumption | with_reducible exact Blk.new _ _ _ (by first | rfl | (simp; done) | (simp; omega)) | (with_reducible refine Blk.alloc ?_ _; with_reducible assumption)))) hb1; obtain ⟨a0_1_0, a0_1_1, a0_1_2, a0_1_3⟩ := A0_1.two; have lA0_1 := A0_1.lt; have A1_1 : Blk w1 (wr.heap.size) [.int .i64 x, .int .i64 y] 31 := Blk.kept (by ((try simp only [Blk.drew_iff]); (try simp only [Blk.drewN_iff]); (try simp only [Blk.drew_iff]); first | with_reducible assumption | with_reducible exact Blk.new _ _ _ (by first | rfl | (simp; done) | (simp; omega)) | (with_reducible refine Blk.alloc ?_ _; first | with_reducible assumption | with_reducible exact Blk.new _ _ _ (by first | rfl | (simp; done) | (simp; omega)) | (with_reducible refine Blk.alloc ?_ _; with_reducible assumption)))) hb1; obtain ⟨a1_1_0, a1_1_1, a1_1_2, a1_1_3⟩ := A1_1.two; have lA1_1 := A1_1.lt))
        go_wp2
        go_ret2
        refine ⟨?_, (by (repeat (first | with_reducible assumption | with_reducible exact Below.refl _ _ | simp only [Below.drew_iff] | simp only [Below.drewN_iff] | with_reducible refine Below.setCell ?_ (by first | omega | (simp; done) | (simp; omega)) _ | with_reducible refine Below.alloc ?_ (by first | omega | (simp; done) | (simp; omega)) _)))⟩
        have e : sideM xs (qx, qy) = 0 := by unfold sideM; rw [if_pos (any_range_at (show k < xs.length by rw [Hl.out]; exact hlt) Ho.out)]
        rw [e]; rfl
    · have e : k = n := by omega
      subst e
      go_wp2
      go_ret2
      refine ⟨?_, hbel⟩
      have e : sideM xs (qx, qy) = sideTo xs (qx, qy) k := by unfold sideM; rw [Hl.out, if_neg (by rw [Hno.out]; decide)]
      rw [e]; rfl
end Go.Proofs.Ytklkkehhmmipeaa
