/- Two points in their order, as the reference sorts them. -/
import Derived.Test.YtnhoabehemnpnaaVR1
import Derived.Test.YtnhoabehemnpnaaVT4
import Derived.Deep.DeepCutAuto
namespace Go.Proofs.Ytnhoabehemnpnaa
open Go.RowKit
attribute [local go_sem ↓] Go.wp_at_zero Go.wp_at_succ

set_option maxHeartbeats 8000000 in
theorem sorted_if (ax ay bx by' : Int) (v : Bool) (w : World) (hv : decide (bef (bx, by') (ax, ay)) = v) :
    Calls Try.prog 51 #[v2 ax ay, v2 bx by'] w fun e w' => e = .returned (if v = true then .tuple #[v2 bx by', v2 ax ay] else .tuple #[v2 ax ay, v2 bx by']) ∧ Below w.heap.size w w' := by
  have hb : ∀ W, Calls Try.prog 52 #[v2 bx by', v2 ax ay] W fun e w' => e = .returned (.bool v) ∧ Below W.heap.size W w' := fun W => before_e (bx, by') (ax, ay) v W hv
  have Hb := Lib.hid hb
  clear hb hv
  cases v
  · rw [if_neg (by simp)]
    go_enter Try.func51, Try.ntmps51
    go_wp2_with fail
    refine (Hb.out _).mono ?_
    rintro e w1 ⟨rfl, hb1⟩
    have acc1 : Below w.heap.size w w1 := below_step (by (repeat (first | with_reducible assumption | with_reducible exact Below.refl _ _ | simp only [Below.drew_iff] | simp only [Below.drewN_iff] | with_reducible refine Below.setCell ?_ (by first | omega | (simp; done) | (simp; omega)) _ | with_reducible refine Below.alloc ?_ (by first | omega | (simp; done) | (simp; omega)) _))) hb1
    have b0 : Blk w1 w.heap.size [.int .i64 ax, .int .i64 ay] 46 := Blk.kept (by ((try simp only [Blk.drew_iff]); (try simp only [Blk.drewN_iff]); (try simp only [Blk.drew_iff]); repeat (first | with_reducible assumption | with_reducible exact Blk.new _ _ _ (by first | rfl | (simp; done) | (simp; omega)) | with_reducible refine Blk.alloc ?_ _ | with_reducible refine Blk.far ?_ (by first | (simp; done) | (simp; omega) | omega) _))) hb1
    have b1 : Blk w1 (w.heap.size + 1) [.int .i64 bx, .int .i64 by'] 46 := Blk.kept (by ((try simp only [Blk.drew_iff]); (try simp only [Blk.drewN_iff]); (try simp only [Blk.drew_iff]); repeat (first | with_reducible assumption | with_reducible exact Blk.new _ _ _ (by first | rfl | (simp; done) | (simp; omega)) | with_reducible refine Blk.alloc ?_ _ | with_reducible refine Blk.far ?_ (by first | (simp; done) | (simp; omega) | omega) _))) hb1
    have b2 : Blk w1 (w.heap.size + 1 + 1) [.int .i64 0, .int .i64 0] 46 := Blk.kept (by ((try simp only [Blk.drew_iff]); (try simp only [Blk.drewN_iff]); (try simp only [Blk.drew_iff]); repeat (first | with_reducible assumption | with_reducible exact Blk.new _ _ _ (by first | rfl | (simp; done) | (simp; omega)) | with_reducible refine Blk.alloc ?_ _ | with_reducible refine Blk.far ?_ (by first | (simp; done) | (simp; omega) | omega) _))) hb1
    have b3 : Blk w1 (w.heap.size + 1 + 1 + 1) [.int .i64 0, .int .i64 0] 46 := Blk.kept (by ((try simp only [Blk.drew_iff]); (try simp only [Blk.drewN_iff]); (try simp only [Blk.drew_iff]); repeat (first | with_reducible assumption | with_reducible exact Blk.new _ _ _ (by first | rfl | (simp; done) | (simp; omega)) | with_reducible refine Blk.alloc ?_ _ | with_reducible refine Blk.far ?_ (by first | (simp; done) | (simp; omega) | omega) _))) hb1
    have l3 := b3.lt
    have z1 := acc1.size
    clear hb1
    obtain ⟨u0, u1, _, _⟩ := b0.two
    obtain ⟨u2, u3, _, _⟩ := b1.two
    obtain ⟨u4, u5, u6, u7⟩ := b2.two
    obtain ⟨u8, u9, u10, u11⟩ := b3.two
    go_wp2_with fail
    go_region_held3 (fun w' => w'.cell? ⟨w.heap.size, 0, none⟩ = some (.int .i64 ax) ∧ w'.cell? ⟨w.heap.size, 1, none⟩ = some (.int .i64 ay) ∧ w'.cell? ⟨w.heap.size + 1, 0, none⟩ = some (.int .i64 bx) ∧ w'.cell? ⟨w.heap.size + 1, 1, none⟩ = some (.int .i64 by'))
      (first | (refine ⟨?_, ?_, ?_, ?_⟩ <;> with_reducible assumption) | (refine ⟨Blk.cell (cs := [.int .i64 ax, .int .i64 ay]) (t := 46) ?_ 0 rfl, Blk.cell (cs := [.int .i64 ax, .int .i64 ay]) (t := 46) ?_ 1 rfl, Blk.cell (cs := [.int .i64 bx, .int .i64 by']) (t := 46) ?_ 0 rfl, Blk.cell (cs := [.int .i64 bx, .int .i64 by']) (t := 46) ?_ 1 rfl⟩ <;> ((try simp only [Blk.drew_iff]); (try simp only [Blk.drewN_iff]); (try simp only [Blk.drew_iff]); repeat (first | with_reducible assumption | with_reducible exact Blk.new _ _ _ (by first | rfl | (simp; done) | (simp; omega)) | with_reducible refine Blk.alloc ?_ _ | with_reducible refine Blk.far ?_ (by first | (simp; done) | (simp; omega) | omega) _))) | go_keep | (refine ⟨?_, ?_, ?_, ?_⟩ <;> go_keep))
      (fail)
    go_wp2
    refine bodyPost_ret (v := .tuple #[v2 ax ay, v2 bx by']) ?_ rfl ⟨rfl, ?_⟩
    · simp [results, Try.results51, go_sem, *]
    · exact (by (repeat (first | with_reducible assumption | with_reducible exact Below.refl _ _ | simp only [Below.drew_iff] | simp only [Below.drewN_iff] | with_reducible refine Below.setCell ?_ (by first | omega | (simp; done) | (simp; omega)) _ | with_reducible refine Below.alloc ?_ (by first | omega | (simp; done) | (simp; omega)) _)))
  · rw [if_pos rfl]
    go_enter Try.func51, Try.ntmps51
    go_wp2_with fail
    refine (Hb.out _).mono ?_
    rintro e w1 ⟨rfl, hb1⟩
    have acc1 : Below w.heap.size w w1 := below_step (by (repeat (first | with_reducible assumption | with_reducible exact Below.refl _ _ | simp only [Below.drew_iff] | simp only [Below.drewN_iff] | with_reducible refine Below.setCell ?_ (by first | omega | (simp; done) | (simp; omega)) _ | with_reducible refine Below.alloc ?_ (by first | omega | (simp; done) | (simp; omega)) _))) hb1
    have b0 : Blk w1 w.heap.size [.int .i64 ax, .int .i64 ay] 46 := Blk.kept (by ((try simp only [Blk.drew_iff]); (try simp only [Blk.drewN_iff]); (try simp only [Blk.drew_iff]); repeat (first | with_reducible assumption | with_reducible exact Blk.new _ _ _ (by first | rfl | (simp; done) | (simp; omega)) | with_reducible refine Blk.alloc ?_ _ | with_reducible refine Blk.far ?_ (by first | (simp; done) | (simp; omega) | omega) _))) hb1
    have b1 : Blk w1 (w.heap.size + 1) [.int .i64 bx, .int .i64 by'] 46 := Blk.kept (by ((try simp only [Blk.drew_iff]); (try simp only [Blk.drewN_iff]); (try simp only [Blk.drew_iff]); repeat (first | with_reducible assumption | with_reducible exact Blk.new _ _ _ (by first | rfl | (simp; done) | (simp; omega)) | with_reducible refine Blk.alloc ?_ _ | with_reducible refine Blk.far ?_ (by first | (simp; done) | (simp; omega) | omega) _))) hb1
    have b2 : Blk w1 (w.heap.size + 1 + 1) [.int .i64 0, .int .i64 0] 46 := Blk.kept (by ((try simp only [Blk.drew_iff]); (try simp only [Blk.drewN_iff]); (try simp only [Blk.drew_iff]); repeat (first | with_reducible assumption | with_reducible exact Blk.new _ _ _ (by first | rfl | (simp; done) | (simp; omega)) | with_reducible refine Blk.alloc ?_ _ | with_reducible refine Blk.far ?_ (by first | (simp; done) | (simp; omega) | omega) _))) hb1
    have b3 : Blk w1 (w.heap.size + 1 + 1 + 1) [.int .i64 0, .int .i64 0] 46 := Blk.kept (by ((try simp only [Blk.drew_iff]); (try simp only [Blk.drewN_iff]); (try simp only [Blk.drew_iff]); repeat (first | with_reducible assumption | with_reducible exact Blk.new _ _ _ (by first | rfl | (simp; done) | (simp; omega)) | with_reducible refine Blk.alloc ?_ _ | with_reducible refine Blk.far ?_ (by first | (simp; done) | (simp; omega) | omega) _))) hb1
    have l3 := b3.lt
    have z1 := acc1.size
    clear hb1
    obtain ⟨u0, u1, _, _⟩ := b0.two
    obtain ⟨u2, u3, _, _⟩ := b1.two
    obtain ⟨u4, u5, u6, u7⟩ := b2.two
    obtain ⟨u8, u9, u10, u11⟩ := b3.two
    go_wp2_with fail
    go_region_held3 (fun w' => w'.cell? ⟨w.heap.size, 0, none⟩ = some (.int .i64 ax) ∧ w'.cell? ⟨w.heap.size, 1, none⟩ = some (.int .i64 ay) ∧ w'.cell? ⟨w.heap.size + 1, 0, none⟩ = some (.int .i64 bx) ∧ w'.cell? ⟨w.heap.size + 1, 1, none⟩ = some (.int .i64 by'))
      (first | (refine ⟨?_, ?_, ?_, ?_⟩ <;> with_reducible assumption) | (refine ⟨Blk.cell (cs := [.int .i64 ax, .int .i64 ay]) (t := 46) ?_ 0 rfl, Blk.cell (cs := [.int .i64 ax, .int .i64 ay]) (t := 46) ?_ 1 rfl, Blk.cell (cs := [.int .i64 bx, .int .i64 by']) (t := 46) ?_ 0 rfl, Blk.cell (cs := [.int .i64 bx, .int .i64 by']) (t := 46) ?_ 1 rfl⟩ <;> ((try simp only [Blk.drew_iff]); (try simp only [Blk.drewN_iff]); (try simp only [Blk.drew_iff]); repeat (first | with_reducible assumption | with_reducible exact Blk.new _ _ _ (by first | rfl | (simp; done) | (simp; omega)) | with_reducible refine Blk.alloc ?_ _ | with_reducible refine Blk.far ?_ (by first | (simp; done) | (simp; omega) | omega) _))) | go_keep | (refine ⟨?_, ?_, ?_, ?_⟩ <;> go_keep))
      (fail)
    go_wp2
    refine bodyPost_ret (v := .tuple #[v2 bx by', v2 ax ay]) ?_ rfl ⟨rfl, ?_⟩
    · simp [results, Try.results51, go_sem, *]
    · exact (by (repeat (first | with_reducible assumption | with_reducible exact Below.refl _ _ | simp only [Below.drew_iff] | simp only [Below.drewN_iff] | with_reducible refine Below.setCell ?_ (by first | omega | (simp; done) | (simp; omega)) _ | with_reducible refine Below.alloc ?_ (by first | omega | (simp; done) | (simp; omega)) _)))
theorem sorted_any (a b : P2) (w : World) :
    Calls Try.prog 51 #[v2 a.1 a.2, v2 b.1 b.2] w fun e w' => e = .returned (.tuple #[v2 (minP a b).1 (minP a b).2, v2 (maxP a b).1 (maxP a b).2]) ∧ Below w.heap.size w w' := by
  have h := sorted_if a.1 a.2 b.1 b.2 _ w rfl
  have e : (if decide (bef (b.1, b.2) (a.1, a.2)) = true then (.tuple #[v2 b.1 b.2, v2 a.1 a.2] : Value) else .tuple #[v2 a.1 a.2, v2 b.1 b.2]) = .tuple #[v2 (minP a b).1 (minP a b).2, v2 (maxP a b).1 (maxP a b).2] := by
    unfold minP maxP
    by_cases k : bef b a
    · have k' : decide (bef (b.1, b.2) (a.1, a.2)) = true := decide_eq_true k
      rw [k', if_pos rfl, if_pos k, if_pos k]
    · have k' : decide (bef (b.1, b.2) (a.1, a.2)) = false := decide_eq_false k
      rw [k', if_neg (by simp), if_neg k, if_neg k]
  rw [e] at h
  exact h

/-- The greater of the lower ends and the lower of the upper ends, as the reference finds them. -/
theorem over_ref (a b c d : P2) : overM a b c d = if bef (if bef (minP a b) (minP c d) then minP c d else minP a b) (if bef (maxP c d) (maxP a b) then maxP c d else maxP a b) then 2 else if (if bef (minP a b) (minP c d) then minP c d else minP a b) = (if bef (maxP c d) (maxP a b) then maxP c d else maxP a b) then 1 else 0 := by
  have e1 : (if bef (minP a b) (minP c d) then minP c d else minP a b) = maxP (minP a b) (minP c d) := by rw [maxP_comm]; rfl
  have e2 : (if bef (maxP c d) (maxP a b) then maxP c d else maxP a b) = minP (maxP a b) (maxP c d) := rfl
  rw [e1, e2]
  unfold overM
  generalize maxP (minP a b) (minP c d) = L
  generalize minP (maxP a b) (maxP c d) = U
  rcases cmpP_cases U L with ⟨h, e⟩ | ⟨h, e⟩ | ⟨h, e⟩
  · rw [e, if_neg (bef_asym h), if_neg (fun k => bef_irr _ (k ▸ h))]; rfl
  · rw [e, h, if_neg (bef_irr _), if_pos rfl]; rfl
  · rw [e, if_pos h]; rfl
end Go.Proofs.Ytnhoabehemnpnaa
