/- The examples of the chapter: the statements' first test, run over named blocks by the kernel, the greater calls in it one by one. -/
import Derived.Test.YtkllldhkikmbbaaX17
import Derived.Test.YtkllldhkikmbbaaProg
namespace Go.Proofs.Ytkllldhkikmbbaa.Vx
open Go Go.RowKit Go.Proofs
set_option maxRecDepth 100000
theorem mixed : Try.prog.follows .mixedOrders = true := by kernel_rfl
/- gangsaw/plane.Side -/
def k0 : Known := ⟨19, #[.agg #[.int .i64 1, .int .i64 0, .int .i64 2, .int .i64 10], .agg #[.int .i64 0, .int .i64 0, .int .i64 0, .int .i64 4, .int .i64 1, .int .i64 3]], [], .tuple #[.int .i64 1, .int .i64 0], []⟩
def memo0 : Memo := k0 :: []
theorem ok0 : MemoOk Try.prog memo0 := memo_cons memo_nil k0 (by decide) (evCall_ok mixed memo_nil 10000 100) (keep := none) (by kernel_rfl)
/- gangsaw/plane.Side -/
def k1 : Known := ⟨19, #[.agg #[.int .i64 1, .int .i64 0, .int .i64 2, .int .i64 10], .agg #[.int .i64 0, .int .i64 0, .int .i64 0, .int .i64 5, .int .i64 1, .int .i64 3]], [], .tuple #[.int .i64 3, .int .i64 0], []⟩
def memo1 : Memo := k1 :: memo0
theorem ok1 : MemoOk Try.prog memo1 := memo_cons ok0 k1 (by decide) (evCall_ok mixed ok0 10000 100) (keep := none) (by kernel_rfl)
/- gangsaw/plane.Side -/
def k2 : Known := ⟨19, #[.agg #[.int .i64 1, .int .i64 0, .int .i64 2, .int .i64 10], .agg #[.int .i64 10, .int .i64 0, .int .i64 0, .int .i64 11, .int .i64 1, .int .i64 1]], [], .tuple #[.int .i64 2, .int .i64 0], []⟩
def memo2 : Memo := k2 :: memo1
theorem ok2 : MemoOk Try.prog memo2 := memo_cons ok1 k2 (by decide) (evCall_ok mixed ok1 10000 100) (keep := none) (by kernel_rfl)
/- gangsaw/plane.Normal -/
def k3 : Known := ⟨23, #[.agg #[.int .i64 2, .int .i64 0, .int .i64 4, .int .i64 7]], [], .tuple #[.agg #[.int .i64 1, .int .i64 0, .int .i64 2, .int .i64 3], .int .i64 0], []⟩
def memo3 : Memo := k3 :: memo2
theorem ok3 : MemoOk Try.prog memo3 := memo_cons ok2 k3 (by decide) (evCall_ok mixed ok2 10000 100) (keep := none) (by kernel_rfl)
/- gangsaw/plane.Hull -/
def k4 : Known := ⟨28, #[.agg #[.int .i64 1, .int .i64 0, .int .i64 2, .int .i64 10], .agg #[.int .i64 0, .int .i64 0, .int .i64 0, .int .i64 20, .int .i64 1, .int .i64 20]], [], .tuple #[.agg #[.int .i64 0, .int .i64 0, .int .i64 0, .int .i64 8, .int .i64 1, .int .i64 4], .int .i64 0], []⟩
def memo4 : Memo := k4 :: memo3
theorem ok4 : MemoOk Try.prog memo4 := memo_cons ok3 k4 (by decide) (evCall_ok mixed ok3 10000 100) (keep := none) (by kernel_rfl)
/- gangsaw/plane.Depth -/
def k5 : Known := ⟨30, #[.agg #[.int .i64 1, .int .i64 0, .int .i64 2, .int .i64 10], .agg #[.int .i64 0, .int .i64 0, .int .i64 0, .int .i64 4, .int .i64 1, .int .i64 3], .int .i64 1, .int .i64 9], [], .tuple #[.int .i64 9, .int .i64 0], []⟩
def memo5 : Memo := k5 :: memo4
theorem ok5 : MemoOk Try.prog memo5 := memo_cons ok4 k5 (by decide) (evCall_ok mixed ok4 10000 100) (keep := none) (by kernel_rfl)
/- gangsaw/plane.Value -/
def k6 : Known := ⟨13, #[.agg #[.int .i64 1, .int .i64 0, .int .i64 2, .int .i64 10], .agg #[.int .i64 1, .int .i64 1, .int .i64 1]], [], .tuple #[.int .i64 (-7), .int .i64 0], []⟩
def memo6 : Memo := k6 :: memo5
theorem ok6 : MemoOk Try.prog memo6 := memo_cons ok5 k6 (by decide) (evCall_ok mixed ok5 10000 100) (keep := none) (by kernel_rfl)
theorem awake_true : isTrue (evCall Try.prog memo6 10000 100 12 #[] []) = true := by kernel_rfl
theorem awake_any (w : World) : Calls Try.prog 12 #[] w fun e w' => e = .returned (.bool true) ∧ Below w.heap.size w w' := true_ok mixed ok6 (by decide) awake_true w
end Go.Proofs.Ytkllldhkikmbbaa.Vx
