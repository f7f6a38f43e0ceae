/- The examples of the chapter: the statements' first test, run over named blocks by the kernel. -/
import Derived.Test.YtdbdoagljioijaaX17
import Derived.Test.YtdbdoagljioijaaProg
namespace Go.Proofs.Ytdbdoagljioijaa.Vx
open Go Go.RowKit Go.Proofs
theorem mixed : Try.prog.follows .mixedOrders = true := by kernel_rfl
theorem awake_true : isTrue (evCall Try.prog 1000 100 12 #[] []) = true := by kernel_rfl
theorem awake_any (w : World) : Calls Try.prog 12 #[] w fun e w' => e = .returned (.bool true) ∧ Below w.heap.size w w' := true_ok mixed awake_true w
end Go.Proofs.Ytdbdoagljioijaa.Vx
