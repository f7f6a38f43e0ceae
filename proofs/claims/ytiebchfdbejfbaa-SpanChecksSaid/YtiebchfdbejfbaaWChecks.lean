/- The walk of the statement SpanChecks, given that the sort sorts. -/
import Derived.Test.YtiebchfdbejfbaaAwake
import Derived.Deep.RegionHeld3
import Derived.Deep.DrawnRows
namespace Go.Proofs.Ytiebchfdbejfbaa
open Go.RowKit
attribute [local go_sem ↓] Go.wp_at_zero Go.wp_at_succ

theorem cell_kept {W w1 : World} (hb : Below W.heap.size W w1) {g o : Nat} {v : Value} (h : W.cell? ⟨g, o, none⟩ = some v) : w1.cell? ⟨g, o, none⟩ = some v :=
  (hb.cell (p := ⟨g, o, none⟩) (World.block_lt_of_cell? _ _ h)).trans h

theorem acc_next {w W w1 : World} (h : Below w.heap.size w W) (hb : Below W.heap.size W w1) : Below w.heap.size w w1 := h.trans (hb.mono h.size)

set_option maxHeartbeats 1000000 in
theorem spanChecks_any (hsort : SortSaid) (lo hi lo' hi' n : Int) (w : World) :
    Calls Try.prog 3 #[.agg #[.int .i64 lo, .int .i64 hi], .agg #[.int .i64 lo', .int .i64 hi'], .int .i64 n] w fun e w' => e = .returned (.bool true) ∧ Below w.heap.size w w' := by
  go_enter Try.func3, Try.ntmps3
  go_wp2_with fail
  refine (awake_any hsort _).mono ?_
  rintro e w1 ⟨rfl, hb⟩
  have ha := (((IvBox.new' w lo hi rfl).alloc _)).kept hb
  have hb' := ((IvBox.new' _ lo' hi' (g := w.heap.size + 1) (by simp))).kept hb
  have hbw : Below w.heap.size w w1 := by (repeat (first | exact Below.refl _ _ | (refine Below.setCell ?_ (by first | omega | (simp; done) | (simp; omega)) _) | (refine Below.alloc ?_ (by first | omega | (simp; done) | (simp; omega)) _) | (refine Below.trans ?_ (Below.mono hb (by first | omega | (simp; done) | (simp; omega))))))
  have hz := hb.size
  simp at hz
  clear hb
  have Ha := Lib.hid ha
  have Hb := Lib.hid hb'
  obtain ⟨s0, s1, _, _⟩ := ha.facts
  obtain ⟨t0, t1, _, _⟩ := hb'.facts
  clear ha hb'
  have hacc : Below w.heap.size w w1.drew := hbw.drew
  go_wp2_with fail
  go_region_held3 (fun w' => w'.cell? ⟨w.heap.size, 0, none⟩ = some (.int .i64 lo) ∧ w'.cell? ⟨w.heap.size, 1, none⟩ = some (.int .i64 hi) ∧ w'.cell? ⟨w.heap.size + 1, 0, none⟩ = some (.int .i64 lo') ∧ w'.cell? ⟨w.heap.size + 1, 1, none⟩ = some (.int .i64 hi'))
    (first | go_keep | exact ⟨by assumption, by assumption, by assumption, by assumption⟩)
    (first
      | (go_at_call 11; refine (check_any lo hi _).mono ?_; rintro e w2 ⟨rfl, hb2⟩; have acc2 : Below w.heap.size w w2 := acc_next (by assumption) hb2; have q0 : w2.cell? ⟨w.heap.size, 0, none⟩ = some (.int .i64 lo) := cell_kept hb2 (by assumption); have q1 : w2.cell? ⟨w.heap.size, 1, none⟩ = some (.int .i64 hi) := cell_kept hb2 (by assumption); have q2 : w2.cell? ⟨w.heap.size + 1, 0, none⟩ = some (.int .i64 lo') := cell_kept hb2 (by assumption); have q3 : w2.cell? ⟨w.heap.size + 1, 1, none⟩ = some (.int .i64 hi') := cell_kept hb2 (by assumption))
      | (go_at_call 12; refine (ref_check_any lo hi _).mono ?_; rintro e w2 ⟨rfl, hb2⟩; have acc2 : Below w.heap.size w w2 := acc_next (by assumption) hb2; have q0 : w2.cell? ⟨w.heap.size, 0, none⟩ = some (.int .i64 lo) := cell_kept hb2 (by assumption); have q1 : w2.cell? ⟨w.heap.size, 1, none⟩ = some (.int .i64 hi) := cell_kept hb2 (by assumption); have q2 : w2.cell? ⟨w.heap.size + 1, 0, none⟩ = some (.int .i64 lo') := cell_kept hb2 (by assumption); have q3 : w2.cell? ⟨w.heap.size + 1, 1, none⟩ = some (.int .i64 hi') := cell_kept hb2 (by assumption))
      | (go_at_call 13; refine (contains_any lo hi n _).mono ?_; rintro e w2 ⟨rfl, hb2⟩; have acc2 : Below w.heap.size w w2 := acc_next (by assumption) hb2; have q0 : w2.cell? ⟨w.heap.size, 0, none⟩ = some (.int .i64 lo) := cell_kept hb2 (by assumption); have q1 : w2.cell? ⟨w.heap.size, 1, none⟩ = some (.int .i64 hi) := cell_kept hb2 (by assumption); have q2 : w2.cell? ⟨w.heap.size + 1, 0, none⟩ = some (.int .i64 lo') := cell_kept hb2 (by assumption); have q3 : w2.cell? ⟨w.heap.size + 1, 1, none⟩ = some (.int .i64 hi') := cell_kept hb2 (by assumption))
      | (go_at_call 14; refine (ref_contains_any lo hi n _).mono ?_; rintro e w2 ⟨rfl, hb2⟩; have acc2 : Below w.heap.size w w2 := acc_next (by assumption) hb2; have q0 : w2.cell? ⟨w.heap.size, 0, none⟩ = some (.int .i64 lo) := cell_kept hb2 (by assumption); have q1 : w2.cell? ⟨w.heap.size, 1, none⟩ = some (.int .i64 hi) := cell_kept hb2 (by assumption); have q2 : w2.cell? ⟨w.heap.size + 1, 0, none⟩ = some (.int .i64 lo') := cell_kept hb2 (by assumption); have q3 : w2.cell? ⟨w.heap.size + 1, 1, none⟩ = some (.int .i64 hi') := cell_kept hb2 (by assumption))
      | (go_at_call 15; refine (within_any lo hi lo' hi' _).mono ?_; rintro e w2 ⟨rfl, hb2⟩; have acc2 : Below w.heap.size w w2 := acc_next (by assumption) hb2; have q0 : w2.cell? ⟨w.heap.size, 0, none⟩ = some (.int .i64 lo) := cell_kept hb2 (by assumption); have q1 : w2.cell? ⟨w.heap.size, 1, none⟩ = some (.int .i64 hi) := cell_kept hb2 (by assumption); have q2 : w2.cell? ⟨w.heap.size + 1, 0, none⟩ = some (.int .i64 lo') := cell_kept hb2 (by assumption); have q3 : w2.cell? ⟨w.heap.size + 1, 1, none⟩ = some (.int .i64 hi') := cell_kept hb2 (by assumption))
      | (go_at_call 16; refine (ref_within_any lo hi lo' hi' _).mono ?_; rintro e w2 ⟨rfl, hb2⟩; have acc2 : Below w.heap.size w w2 := acc_next (by assumption) hb2; have q0 : w2.cell? ⟨w.heap.size, 0, none⟩ = some (.int .i64 lo) := cell_kept hb2 (by assumption); have q1 : w2.cell? ⟨w.heap.size, 1, none⟩ = some (.int .i64 hi) := cell_kept hb2 (by assumption); have q2 : w2.cell? ⟨w.heap.size + 1, 0, none⟩ = some (.int .i64 lo') := cell_kept hb2 (by assumption); have q3 : w2.cell? ⟨w.heap.size + 1, 1, none⟩ = some (.int .i64 hi') := cell_kept hb2 (by assumption))
      | (go_at_call 17; refine (length_any lo hi _).mono ?_; rintro e w2 ⟨rfl, hb2⟩; have acc2 : Below w.heap.size w w2 := acc_next (by assumption) hb2; have q0 : w2.cell? ⟨w.heap.size, 0, none⟩ = some (.int .i64 lo) := cell_kept hb2 (by assumption); have q1 : w2.cell? ⟨w.heap.size, 1, none⟩ = some (.int .i64 hi) := cell_kept hb2 (by assumption); have q2 : w2.cell? ⟨w.heap.size + 1, 0, none⟩ = some (.int .i64 lo') := cell_kept hb2 (by assumption); have q3 : w2.cell? ⟨w.heap.size + 1, 1, none⟩ = some (.int .i64 hi') := cell_kept hb2 (by assumption))
      | (go_at_call 18; refine (ref_length_any lo hi _).mono ?_; rintro e w2 ⟨rfl, hb2⟩; have acc2 : Below w.heap.size w w2 := acc_next (by assumption) hb2; have q0 : w2.cell? ⟨w.heap.size, 0, none⟩ = some (.int .i64 lo) := cell_kept hb2 (by assumption); have q1 : w2.cell? ⟨w.heap.size, 1, none⟩ = some (.int .i64 hi) := cell_kept hb2 (by assumption); have q2 : w2.cell? ⟨w.heap.size + 1, 0, none⟩ = some (.int .i64 lo') := cell_kept hb2 (by assumption); have q3 : w2.cell? ⟨w.heap.size + 1, 1, none⟩ = some (.int .i64 hi') := cell_kept hb2 (by assumption)))
  go_wp2
  go_ret
  exact ⟨rfl, by assumption⟩
end Go.Proofs.Ytiebchfdbejfbaa
