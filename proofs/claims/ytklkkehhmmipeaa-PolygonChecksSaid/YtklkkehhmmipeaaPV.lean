/- Package slices: the sort of five points. -/
import Derived.Test.YtklkkehhmmipeaaPU
namespace Go.Proofs.Ytklkkehhmmipeaa
open Go.RowKit
attribute [local go_sem ↓] Go.wp_at_zero Go.wp_at_succ

set_option maxRecDepth 100000 in
set_option maxHeartbeats 3200000 in
theorem pdq5_any (g c : Nat) (l : Int) (xs : List P2) (w : World) (hm : Mem w g xs) (hn : xs.length = 5) (hg : g < w.heap.size) :
    Calls Try.prog 71 #[.slice (some ⟨g, 0, none⟩) 5 c, .int .i64 0, .int .i64 5, .int .i64 l, .func (.func 47) #[] #[]] w fun e w' => e = .returned (.tuple #[]) ∧ ∃ ys, ys.Perm xs ∧ SortedTo ys 5 ∧ Mem w' g ys ∧ But g w w' := by
  have Hn := Lib.hid hn
  clear hn
  go_enter Try.func71, Try.ntmps71
  go_wp2
  refine wp_loop_rounds 1 ?_
  rw [rounds_succ]
  go_wp2_with fail
  refine (inssort_any g 5 c xs _ hm Hn.out (by omega) (by omega) hg).mono ?_
  rintro e w1 ⟨rfl, ys, h1, h2, h3, h4⟩
  go_wp2
  refine bodyPost_ret (results_none rfl _ _ _) rfl ?_
  exact ⟨rfl, ys, h1, h2, h3, h4⟩

set_option maxRecDepth 100000 in
set_option maxHeartbeats 3200000 in
theorem len5_any (w : World) : Calls Try.prog 89 #[.int .u64 5] w fun e w' => (∃ v, e = .returned (.int .i64 v)) ∧ w = w' := by
  go_enter Try.func89, Try.ntmps89
  go_wp2
  go_ret
  exact ⟨⟨_, rfl⟩, rfl⟩

set_option maxRecDepth 100000 in
set_option maxHeartbeats 3200000 in
theorem sort5_any (g c : Nat) (xs : List P2) (w : World) (hm : Mem w g xs) (hn : xs.length = 5) (hg : g < w.heap.size) :
    Calls Try.prog 57 #[.slice (some ⟨g, 0, none⟩) 5 c, .func (.func 47) #[] #[]] w fun e w' => e = .returned (.tuple #[]) ∧ ∃ ys, ys.Perm xs ∧ SortedTo ys 5 ∧ Mem w' g ys ∧ But g w w' := by
  have Hn := Lib.hid hn
  clear hn
  go_enter Try.func57, Try.ntmps57
  go_wp2_with (first
    | (go_at_call 71; refine (pdq5_any g c _ xs _ hm Hn.out hg).mono ?_; rintro e w1 ⟨rfl, ys, h1, h2, h3, h4⟩)
    | (go_at_call 89; refine (len5_any _).mono ?_; rintro e w1 ⟨⟨v, rfl⟩, rfl⟩)
    | go_in)
  go_end0
  exact ⟨rfl, ys, h1, h2, h3, h4⟩
end Go.Proofs.Ytklkkehhmmipeaa
