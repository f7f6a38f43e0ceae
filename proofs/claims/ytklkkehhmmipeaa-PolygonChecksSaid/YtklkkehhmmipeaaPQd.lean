/- The bounds of a polygon, up to corner k. -/
import Derived.Test.YtklkkehhmmipeaaPC
namespace Go.Proofs.Ytklkkehhmmipeaa
open Go.RowKit
attribute [local go_sem ↓] Go.wp_at_zero Go.wp_at_succ

def loTo (xs : List P2) : Nat → P2
  | 0 => cor xs 0
  | k + 1 => (if (cor xs k).1 < (loTo xs k).1 then (cor xs k).1 else (loTo xs k).1, if (cor xs k).2 < (loTo xs k).2 then (cor xs k).2 else (loTo xs k).2)
def hiTo (xs : List P2) : Nat → P2
  | 0 => cor xs 0
  | k + 1 => (if (hiTo xs k).1 < (cor xs k).1 then (cor xs k).1 else (hiTo xs k).1, if (hiTo xs k).2 < (cor xs k).2 then (cor xs k).2 else (hiTo xs k).2)

theorem loTo_next (xs : List P2) (k : Nat) : loTo xs (k + 1) = (if (cor xs k).1 < (loTo xs k).1 then (cor xs k).1 else (loTo xs k).1, if (cor xs k).2 < (loTo xs k).2 then (cor xs k).2 else (loTo xs k).2) := rfl
theorem hiTo_next (xs : List P2) (k : Nat) : hiTo xs (k + 1) = (if (hiTo xs k).1 < (cor xs k).1 then (cor xs k).1 else (hiTo xs k).1, if (hiTo xs k).2 < (cor xs k).2 then (cor xs k).2 else (hiTo xs k).2) := rfl
end Go.Proofs.Ytklkkehhmmipeaa
