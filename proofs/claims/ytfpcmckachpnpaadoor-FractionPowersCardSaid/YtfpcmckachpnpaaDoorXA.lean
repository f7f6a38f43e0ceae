/- The examples of the chapter: the statements' first test, run over named blocks by the kernel, the greater calls in it one by one. -/
import Derived.Test.YtfpcmckachpnpaaDoorX17
import Derived.Test.YtfpcmckachpnpaaDoorProg
namespace Go.Proofs.YtfpcmckachpnpaaDoor.Vx
open Go Go.RowKit Go.Proofs
set_option maxRecDepth 100000
theorem mixed : Tryd.prog.follows .mixedOrders = true := by kernel_rfl
/- gangsaw/fraction.New -/
def k0 : Known := ⟨11, #[.int .i64 6, .int .i64 (-4)], [], .tuple #[.agg #[.int .i64 (-3), .int .i64 2], .int .i64 0], []⟩
def memo0 : Memo := k0 :: []
theorem ok0 : MemoOk Tryd.prog memo0 := memo_cons memo_nil k0 (by decide) (evCall_ok mixed memo_nil 10000 100) (keep := none) (by kernel_rfl)
/- gangsaw/fraction.allValid -/
def k1 : Known := ⟨47, #[.slice (some ⟨0, 0, none⟩) 2 2], [some ⟨[.int .i64 1, .int .i64 3, .int .i64 1, .int .i64 6], true, false, 2⟩], .bool true, [some ⟨[.int .i64 1, .int .i64 3, .int .i64 1, .int .i64 6], true, false, 2⟩]⟩
def memo1 : Memo := k1 :: memo0
theorem ok1 : MemoOk Tryd.prog memo1 := memo_cons ok0 k1 (by decide) (evCall_ok mixed ok0 10000 100) (keep := none) (by kernel_rfl)
/- gangsaw/fraction.sum -/
def k2 : Known := ⟨48, #[.agg #[.int .i64 1, .int .i64 3], .agg #[.int .i64 1, .int .i64 6]], [], .tuple #[.agg #[.int .i64 1, .int .i64 2], .int .i64 0], []⟩
def memo2 : Memo := k2 :: memo1
theorem ok2 : MemoOk Tryd.prog memo2 := memo_cons ok1 k2 (by decide) (evCall_ok mixed ok1 10000 100) (keep := none) (by kernel_rfl)
/- gangsaw/fraction.allValid -/
def k3 : Known := ⟨47, #[.slice (some ⟨0, 0, none⟩) 2 2], [some ⟨[.int .i64 1, .int .i64 3, .int .i64 2, .int .i64 3], true, false, 2⟩], .bool true, [some ⟨[.int .i64 1, .int .i64 3, .int .i64 2, .int .i64 3], true, false, 2⟩]⟩
def memo3 : Memo := k3 :: memo2
theorem ok3 : MemoOk Tryd.prog memo3 := memo_cons ok2 k3 (by decide) (evCall_ok mixed ok2 10000 100) (keep := none) (by kernel_rfl)
/- gangsaw/fraction.product -/
def k4 : Known := ⟨50, #[.agg #[.int .i64 1, .int .i64 3], .agg #[.int .i64 3, .int .i64 2]], [], .tuple #[.agg #[.int .i64 1, .int .i64 2], .int .i64 0], []⟩
def memo4 : Memo := k4 :: memo3
theorem ok4 : MemoOk Tryd.prog memo4 := memo_cons ok3 k4 (by decide) (evCall_ok mixed ok3 10000 100) (keep := none) (by kernel_rfl)
/- gangsaw/fraction.product -/
def k5 : Known := ⟨50, #[.agg #[.int .i64 1, .int .i64 1], .agg #[.int .i64 2, .int .i64 3]], [], .tuple #[.agg #[.int .i64 2, .int .i64 3], .int .i64 0], []⟩
def memo5 : Memo := k5 :: memo4
theorem ok5 : MemoOk Tryd.prog memo5 := memo_cons ok4 k5 (by decide) (evCall_ok mixed ok4 10000 100) (keep := none) (by kernel_rfl)
/- gangsaw/fraction.product -/
def k6 : Known := ⟨50, #[.agg #[.int .i64 2, .int .i64 3], .agg #[.int .i64 2, .int .i64 3]], [], .tuple #[.agg #[.int .i64 4, .int .i64 9], .int .i64 0], []⟩
def memo6 : Memo := k6 :: memo5
theorem ok6 : MemoOk Tryd.prog memo6 := memo_cons ok5 k6 (by decide) (evCall_ok mixed ok5 10000 100) (keep := none) (by kernel_rfl)
/- gangsaw/fraction.product -/
def k7 : Known := ⟨50, #[.agg #[.int .i64 4, .int .i64 9], .agg #[.int .i64 2, .int .i64 3]], [], .tuple #[.agg #[.int .i64 8, .int .i64 27], .int .i64 0], []⟩
def memo7 : Memo := k7 :: memo6
theorem ok7 : MemoOk Tryd.prog memo7 := memo_cons ok6 k7 (by decide) (evCall_ok mixed ok6 10000 100) (keep := none) (by kernel_rfl)
/- gangsaw/fraction.allValid -/
def k8 : Known := ⟨47, #[.slice (some ⟨0, 0, none⟩) 2 2], [some ⟨[.int .i64 3, .int .i64 10, .int .i64 2, .int .i64 5], true, false, 2⟩], .bool true, [some ⟨[.int .i64 3, .int .i64 10, .int .i64 2, .int .i64 5], true, false, 2⟩]⟩
def memo8 : Memo := k8 :: memo7
theorem ok8 : MemoOk Tryd.prog memo8 := memo_cons ok7 k8 (by decide) (evCall_ok mixed ok7 10000 100) (keep := none) (by kernel_rfl)
/- gangsaw/fraction.compare -/
def k9 : Known := ⟨54, #[.agg #[.int .i64 3, .int .i64 10], .agg #[.int .i64 2, .int .i64 5]], [], .int .i64 (-1), []⟩
def memo9 : Memo := k9 :: memo8
theorem ok9 : MemoOk Tryd.prog memo9 := memo_cons ok8 k9 (by decide) (evCall_ok mixed ok8 10000 100) (keep := none) (by kernel_rfl)
/- gangsaw/fraction.allValid -/
def k10 : Known := ⟨47, #[.slice (some ⟨0, 0, none⟩) 2 2], [some ⟨[.int .i64 (-7), .int .i64 2, .int .i64 (-3), .int .i64 2], true, false, 2⟩], .bool true, [some ⟨[.int .i64 (-7), .int .i64 2, .int .i64 (-3), .int .i64 2], true, false, 2⟩]⟩
def memo10 : Memo := k10 :: memo9
theorem ok10 : MemoOk Tryd.prog memo10 := memo_cons ok9 k10 (by decide) (evCall_ok mixed ok9 10000 100) (keep := none) (by kernel_rfl)
/- gangsaw/fraction.compare -/
def k11 : Known := ⟨54, #[.agg #[.int .i64 (-7), .int .i64 2], .agg #[.int .i64 (-3), .int .i64 2]], [], .int .i64 (-1), []⟩
def memo11 : Memo := k11 :: memo10
theorem ok11 : MemoOk Tryd.prog memo11 := memo_cons ok10 k11 (by decide) (evCall_ok mixed ok10 10000 100) (keep := none) (by kernel_rfl)
/- gangsaw/fraction.Text -/
def k12 : Known := ⟨37, #[.agg #[.int .i64 (-3), .int .i64 2]], [], .tuple #[.string ⟨#[45, 51, 47, 50]⟩, .int .i64 0], []⟩
def memo12 : Memo := k12 :: memo11
theorem ok12 : MemoOk Tryd.prog memo12 := memo_cons ok11 k12 (by decide) (evCall_ok mixed ok11 10000 100) (keep := none) (by kernel_rfl)
/- strconv.ParseInt -/
def k13 : Known := ⟨61, #[.string ⟨#[50]⟩, .int .i64 10, .int .i64 64], [], .tuple #[.int .i64 2, .nilIface], []⟩
def memo13 : Memo := k13 :: memo12
theorem ok13 : MemoOk Tryd.prog memo13 := memo_cons ok12 k13 (by decide) (evCall_ok mixed ok12 10000 100) (keep := none) (by kernel_rfl)
/- strconv.ParseInt -/
def k14 : Known := ⟨61, #[.string ⟨#[52]⟩, .int .i64 10, .int .i64 64], [], .tuple #[.int .i64 4, .nilIface], []⟩
def memo14 : Memo := k14 :: memo13
theorem ok14 : MemoOk Tryd.prog memo14 := memo_cons ok13 k14 (by decide) (evCall_ok mixed ok13 10000 100) (keep := none) (by kernel_rfl)
/- gangsaw/fraction.Parse -/
def k15 : Known := ⟨35, #[.string ⟨#[50, 47, 52]⟩], [], .tuple #[.agg #[.int .i64 0, .int .i64 0], .int .i64 2], []⟩
def memo15 : Memo := k15 :: memo14
theorem ok15 : MemoOk Tryd.prog memo15 := memo_cons ok14 k15 (by decide) (evCall_ok mixed ok14 10000 100) (keep := none) (by kernel_rfl)
theorem awake_true : isTrue (evCall Tryd.prog memo15 10000 100 13 #[] []) = true := by kernel_rfl
theorem awake_any (w : World) (hgl : GlobOk w) : Calls Tryd.prog 13 #[] w fun e w' => e = .returned (.bool true) ∧ Below w.heap.size w w' := true_ok mixed ok15 (by decide) awake_true w hgl
end Go.Proofs.YtfpcmckachpnpaaDoor.Vx
