/- The examples of the chapter: the statements' first test, run over named blocks by the kernel, the greater calls in it one by one. -/
import Derived.Test.YtgpcgcflmimnbaaX17
import Derived.Test.YtgpcgcflmimnbaaProg
namespace Go.Proofs.Ytgpcgcflmimnbaa.Vx
open Go Go.RowKit Go.Proofs
set_option maxRecDepth 100000
theorem mixed : Try.prog.follows .mixedOrders = true := by kernel_rfl
/- gangsaw/box.checkAll -/
def k0 : Known := ⟨54, #[.slice (some ⟨0, 0, none⟩) 2 2], [some ⟨[.int .i64 0, .int .i64 0, .int .i64 0, .int .i64 4, .int .i64 4, .int .i64 4, .int .i64 2, .int .i64 2, .int .i64 2, .int .i64 6, .int .i64 6, .int .i64 6], true, false, 6⟩], .int .i64 0, [some ⟨[.int .i64 0, .int .i64 0, .int .i64 0, .int .i64 4, .int .i64 4, .int .i64 4, .int .i64 2, .int .i64 2, .int .i64 2, .int .i64 6, .int .i64 6, .int .i64 6], true, false, 6⟩]⟩
def memo0 : Memo := k0 :: []
theorem ok0 : MemoOk Try.prog memo0 := memo_cons memo_nil k0 (by decide) (evCall_ok mixed memo_nil 10000 100) (keep := none) (by kernel_rfl)
/- gangsaw/box.Intersect -/
def k1 : Known := ⟨20, #[.agg #[.int .i64 0, .int .i64 0, .int .i64 0, .int .i64 4, .int .i64 4, .int .i64 4], .agg #[.int .i64 2, .int .i64 2, .int .i64 2, .int .i64 6, .int .i64 6, .int .i64 6]], [], .tuple #[.agg #[.int .i64 2, .int .i64 2, .int .i64 2, .int .i64 4, .int .i64 4, .int .i64 4], .int .i64 0], []⟩
def memo1 : Memo := k1 :: memo0
theorem ok1 : MemoOk Try.prog memo1 := memo_cons ok0 k1 (by decide) (evCall_ok mixed ok0 10000 100) (keep := none) (by kernel_rfl)
/- gangsaw/box.appendRest -/
def k2 : Known := ⟨61, #[.slice none 0 0, .agg #[.int .i64 0, .int .i64 0, .int .i64 0, .int .i64 4, .int .i64 4, .int .i64 4], .agg #[.int .i64 2, .int .i64 2, .int .i64 2, .int .i64 6, .int .i64 6, .int .i64 6]], [], .slice (some ⟨34, 0, none⟩) 3 0, [none, none, none, none, none, none, none, none, none, none, none, none, none, none, none, none, none, none, none, none, none, none, none, none, none, none, none, none, none, none, none, none, none, none, some ⟨[.int .i64 0, .int .i64 0, .int .i64 0, .int .i64 4, .int .i64 4, .int .i64 2, .int .i64 0, .int .i64 0, .int .i64 2, .int .i64 4, .int .i64 2, .int .i64 4, .int .i64 0, .int .i64 2, .int .i64 2, .int .i64 2, .int .i64 4, .int .i64 4], true, true, 6⟩, none, none, none]⟩
def memo2 : Memo := k2 :: memo1
theorem ok2 : MemoOk Try.prog memo2 := memo_cons ok1 k2 (by decide) (evCall_ok mixed ok1 10000 100) (keep := some [34]) (by kernel_rfl)
/- gangsaw/box.checkAll -/
def k3 : Known := ⟨54, #[.slice (some ⟨0, 0, none⟩) 2 2], [some ⟨[.int .i64 0, .int .i64 0, .int .i64 0, .int .i64 4, .int .i64 4, .int .i64 4, .int .i64 1, .int .i64 1, .int .i64 4, .int .i64 2, .int .i64 2, .int .i64 5], true, false, 6⟩], .int .i64 0, [some ⟨[.int .i64 0, .int .i64 0, .int .i64 0, .int .i64 4, .int .i64 4, .int .i64 4, .int .i64 1, .int .i64 1, .int .i64 4, .int .i64 2, .int .i64 2, .int .i64 5], true, false, 6⟩]⟩
def memo3 : Memo := k3 :: memo2
theorem ok3 : MemoOk Try.prog memo3 := memo_cons ok2 k3 (by decide) (evCall_ok mixed ok2 10000 100) (keep := none) (by kernel_rfl)
/- gangsaw/box.beside -/
def k4 : Known := ⟨60, #[.agg #[.int .i64 0, .int .i64 0, .int .i64 0, .int .i64 4, .int .i64 4, .int .i64 4], .agg #[.int .i64 1, .int .i64 1, .int .i64 4, .int .i64 2, .int .i64 2, .int .i64 5], .int .i64 0], [], .bool false, []⟩
def memo4 : Memo := k4 :: memo3
theorem ok4 : MemoOk Try.prog memo4 := memo_cons ok3 k4 (by decide) (evCall_ok mixed ok3 10000 100) (keep := none) (by kernel_rfl)
/- gangsaw/box.beside -/
def k5 : Known := ⟨60, #[.agg #[.int .i64 0, .int .i64 0, .int .i64 0, .int .i64 4, .int .i64 4, .int .i64 4], .agg #[.int .i64 1, .int .i64 1, .int .i64 4, .int .i64 2, .int .i64 2, .int .i64 5], .int .i64 1], [], .bool false, []⟩
def memo5 : Memo := k5 :: memo4
theorem ok5 : MemoOk Try.prog memo5 := memo_cons ok4 k5 (by decide) (evCall_ok mixed ok4 10000 100) (keep := none) (by kernel_rfl)
/- gangsaw/box.beside -/
def k6 : Known := ⟨60, #[.agg #[.int .i64 0, .int .i64 0, .int .i64 0, .int .i64 4, .int .i64 4, .int .i64 4], .agg #[.int .i64 1, .int .i64 1, .int .i64 4, .int .i64 2, .int .i64 2, .int .i64 5], .int .i64 2], [], .bool true, []⟩
def memo6 : Memo := k6 :: memo5
theorem ok6 : MemoOk Try.prog memo6 := memo_cons ok5 k6 (by decide) (evCall_ok mixed ok5 10000 100) (keep := none) (by kernel_rfl)
/- gangsaw/box.checkAll -/
def k7 : Known := ⟨54, #[.slice (some ⟨0, 0, none⟩) 1 1], [some ⟨[.int .i64 0, .int .i64 0, .int .i64 0, .int .i64 4, .int .i64 4, .int .i64 4], true, false, 6⟩], .int .i64 0, [some ⟨[.int .i64 0, .int .i64 0, .int .i64 0, .int .i64 4, .int .i64 4, .int .i64 4], true, false, 6⟩]⟩
def memo7 : Memo := k7 :: memo6
theorem ok7 : MemoOk Try.prog memo7 := memo_cons ok6 k7 (by decide) (evCall_ok mixed ok6 10000 100) (keep := none) (by kernel_rfl)
/- gangsaw/box.checkAll -/
def k8 : Known := ⟨54, #[.slice (some ⟨0, 0, none⟩) 2 2], [some ⟨[.int .i64 0, .int .i64 0, .int .i64 0, .int .i64 4, .int .i64 4, .int .i64 1, .int .i64 0, .int .i64 0, .int .i64 1, .int .i64 3, .int .i64 4, .int .i64 4], true, false, 6⟩], .int .i64 0, [some ⟨[.int .i64 0, .int .i64 0, .int .i64 0, .int .i64 4, .int .i64 4, .int .i64 1, .int .i64 0, .int .i64 0, .int .i64 1, .int .i64 3, .int .i64 4, .int .i64 4], true, false, 6⟩]⟩
def memo8 : Memo := k8 :: memo7
theorem ok8 : MemoOk Try.prog memo8 := memo_cons ok7 k8 (by decide) (evCall_ok mixed ok7 10000 100) (keep := none) (by kernel_rfl)
/- gangsaw/box.cutsOf -/
def k9 : Known := ⟨64, #[.slice (some ⟨0, 0, none⟩) 3 0], [some ⟨[.int .i64 0, .int .i64 0, .int .i64 0, .int .i64 4, .int .i64 4, .int .i64 1, .int .i64 0, .int .i64 0, .int .i64 1, .int .i64 3, .int .i64 4, .int .i64 4, .int .i64 0, .int .i64 0, .int .i64 0, .int .i64 4, .int .i64 4, .int .i64 4], true, false, 6⟩], .agg #[.slice (some ⟨22, 0, none⟩) 3 0, .slice (some ⟨15, 0, none⟩) 2 0, .slice (some ⟨24, 0, none⟩) 3 0], [some ⟨[.int .i64 0, .int .i64 0, .int .i64 0, .int .i64 4, .int .i64 4, .int .i64 1, .int .i64 0, .int .i64 0, .int .i64 1, .int .i64 3, .int .i64 4, .int .i64 4, .int .i64 0, .int .i64 0, .int .i64 0, .int .i64 4, .int .i64 4, .int .i64 4], true, false, 6⟩, none, none, none, none, none, none, none, none, none, none, none, none, none, none, some ⟨[.int .i64 0, .int .i64 4], true, true, 1⟩, none, none, none, none, none, none, some ⟨[.int .i64 0, .int .i64 3, .int .i64 4], true, true, 1⟩, none, some ⟨[.int .i64 0, .int .i64 1, .int .i64 4], true, true, 1⟩, none, none, none]⟩
def memo9 : Memo := k9 :: memo8
theorem ok9 : MemoOk Try.prog memo9 := memo_cons ok8 k9 (by decide) (evCall_ok mixed ok8 10000 100) (keep := some [22, 15, 24]) (by kernel_rfl)
/- gangsaw/box.sortedByX -/
def k10 : Known := ⟨70, #[.agg #[.slice (some ⟨0, 0, none⟩) 3 0, .slice (some ⟨1, 0, none⟩) 2 0, .slice (some ⟨2, 0, none⟩) 3 0], .slice (some ⟨3, 0, none⟩) 2 0], [some ⟨[.int .i64 0, .int .i64 3, .int .i64 4], true, false, 1⟩, some ⟨[.int .i64 0, .int .i64 4], true, false, 1⟩, some ⟨[.int .i64 0, .int .i64 1, .int .i64 4], true, false, 1⟩, some ⟨[.int .i64 0, .int .i64 0, .int .i64 0, .int .i64 4, .int .i64 4, .int .i64 1, .int .i64 0, .int .i64 0, .int .i64 1, .int .i64 3, .int .i64 4, .int .i64 4], true, false, 6⟩], .slice (some ⟨13, 0, none⟩) 2 0, [some ⟨[.int .i64 0, .int .i64 3, .int .i64 4], true, false, 1⟩, some ⟨[.int .i64 0, .int .i64 4], true, false, 1⟩, some ⟨[.int .i64 0, .int .i64 1, .int .i64 4], true, false, 1⟩, some ⟨[.int .i64 0, .int .i64 0, .int .i64 0, .int .i64 4, .int .i64 4, .int .i64 1, .int .i64 0, .int .i64 0, .int .i64 1, .int .i64 3, .int .i64 4, .int .i64 4], true, false, 6⟩, none, none, none, none, none, none, none, none, none, some ⟨[.int .i64 0, .int .i64 0, .int .i64 0, .int .i64 4, .int .i64 4, .int .i64 1, .int .i64 0, .int .i64 0, .int .i64 1, .int .i64 3, .int .i64 4, .int .i64 4], true, true, 6⟩, none, none, none, none, none, none, none, none, none, none]⟩
def memo10 : Memo := k10 :: memo9
theorem ok10 : MemoOk Try.prog memo10 := memo_cons ok9 k10 (by decide) (evCall_ok mixed ok9 10000 100) (keep := some [13]) (by kernel_rfl)
/- gangsaw/box.Gap -/
def k11 : Known := ⟨41, #[.agg #[.int .i64 0, .int .i64 0, .int .i64 0, .int .i64 4, .int .i64 4, .int .i64 4], .slice (some ⟨0, 0, none⟩) 2 2], [some ⟨[.int .i64 0, .int .i64 0, .int .i64 0, .int .i64 4, .int .i64 4, .int .i64 1, .int .i64 0, .int .i64 0, .int .i64 1, .int .i64 3, .int .i64 4, .int .i64 4], true, false, 6⟩], .tuple #[.agg #[.int .i64 3, .int .i64 0, .int .i64 1], .int .i64 0], [some ⟨[.int .i64 0, .int .i64 0, .int .i64 0, .int .i64 4, .int .i64 4, .int .i64 1, .int .i64 0, .int .i64 0, .int .i64 1, .int .i64 3, .int .i64 4, .int .i64 4], true, false, 6⟩]⟩
def memo11 : Memo := k11 :: memo10
theorem ok11 : MemoOk Try.prog memo11 := memo_cons ok10 k11 (by decide) (evCall_ok mixed ok10 10000 100) (keep := none) (by kernel_rfl)
/- gangsaw/box.checkAll -/
def k12 : Known := ⟨54, #[.slice (some ⟨0, 0, none⟩) 3 3], [some ⟨[.int .i64 0, .int .i64 0, .int .i64 0, .int .i64 4, .int .i64 4, .int .i64 4, .int .i64 2, .int .i64 2, .int .i64 2, .int .i64 6, .int .i64 6, .int .i64 6, .int .i64 0, .int .i64 0, .int .i64 0, .int .i64 1, .int .i64 1, .int .i64 1], true, false, 6⟩], .int .i64 0, [some ⟨[.int .i64 0, .int .i64 0, .int .i64 0, .int .i64 4, .int .i64 4, .int .i64 4, .int .i64 2, .int .i64 2, .int .i64 2, .int .i64 6, .int .i64 6, .int .i64 6, .int .i64 0, .int .i64 0, .int .i64 0, .int .i64 1, .int .i64 1, .int .i64 1], true, false, 6⟩]⟩
def memo12 : Memo := k12 :: memo11
theorem ok12 : MemoOk Try.prog memo12 := memo_cons ok11 k12 (by decide) (evCall_ok mixed ok11 10000 100) (keep := none) (by kernel_rfl)
/- gangsaw/box.cutsOf -/
def k13 : Known := ⟨64, #[.slice (some ⟨0, 0, none⟩) 3 3], [some ⟨[.int .i64 0, .int .i64 0, .int .i64 0, .int .i64 4, .int .i64 4, .int .i64 4, .int .i64 2, .int .i64 2, .int .i64 2, .int .i64 6, .int .i64 6, .int .i64 6, .int .i64 0, .int .i64 0, .int .i64 0, .int .i64 1, .int .i64 1, .int .i64 1], true, false, 6⟩], .agg #[.slice (some ⟨37, 0, none⟩) 5 0, .slice (some ⟨39, 0, none⟩) 5 0, .slice (some ⟨41, 0, none⟩) 5 0], [some ⟨[.int .i64 0, .int .i64 0, .int .i64 0, .int .i64 4, .int .i64 4, .int .i64 4, .int .i64 2, .int .i64 2, .int .i64 2, .int .i64 6, .int .i64 6, .int .i64 6, .int .i64 0, .int .i64 0, .int .i64 0, .int .i64 1, .int .i64 1, .int .i64 1], true, false, 6⟩, none, none, none, none, none, none, none, none, none, none, none, none, none, none, none, none, none, none, none, none, none, none, none, none, none, none, none, none, none, none, none, none, none, none, none, none, some ⟨[.int .i64 0, .int .i64 1, .int .i64 2, .int .i64 4, .int .i64 6], true, true, 1⟩, none, some ⟨[.int .i64 0, .int .i64 1, .int .i64 2, .int .i64 4, .int .i64 6], true, true, 1⟩, none, some ⟨[.int .i64 0, .int .i64 1, .int .i64 2, .int .i64 4, .int .i64 6], true, true, 1⟩]⟩
def memo13 : Memo := k13 :: memo12
theorem ok13 : MemoOk Try.prog memo13 := memo_cons ok12 k13 (by decide) (evCall_ok mixed ok12 10000 100) (keep := some [37, 39, 41]) (by kernel_rfl)
/- gangsaw/box.sortedByX -/
def k14 : Known := ⟨70, #[.agg #[.slice (some ⟨0, 0, none⟩) 5 0, .slice (some ⟨1, 0, none⟩) 5 0, .slice (some ⟨2, 0, none⟩) 5 0], .slice (some ⟨3, 0, none⟩) 3 3], [some ⟨[.int .i64 0, .int .i64 1, .int .i64 2, .int .i64 4, .int .i64 6], true, false, 1⟩, some ⟨[.int .i64 0, .int .i64 1, .int .i64 2, .int .i64 4, .int .i64 6], true, false, 1⟩, some ⟨[.int .i64 0, .int .i64 1, .int .i64 2, .int .i64 4, .int .i64 6], true, false, 1⟩, some ⟨[.int .i64 0, .int .i64 0, .int .i64 0, .int .i64 4, .int .i64 4, .int .i64 4, .int .i64 2, .int .i64 2, .int .i64 2, .int .i64 6, .int .i64 6, .int .i64 6, .int .i64 0, .int .i64 0, .int .i64 0, .int .i64 1, .int .i64 1, .int .i64 1], true, false, 6⟩], .slice (some ⟨29, 0, none⟩) 3 0, [some ⟨[.int .i64 0, .int .i64 1, .int .i64 2, .int .i64 4, .int .i64 6], true, false, 1⟩, some ⟨[.int .i64 0, .int .i64 1, .int .i64 2, .int .i64 4, .int .i64 6], true, false, 1⟩, some ⟨[.int .i64 0, .int .i64 1, .int .i64 2, .int .i64 4, .int .i64 6], true, false, 1⟩, some ⟨[.int .i64 0, .int .i64 0, .int .i64 0, .int .i64 4, .int .i64 4, .int .i64 4, .int .i64 2, .int .i64 2, .int .i64 2, .int .i64 6, .int .i64 6, .int .i64 6, .int .i64 0, .int .i64 0, .int .i64 0, .int .i64 1, .int .i64 1, .int .i64 1], true, false, 6⟩, none, none, none, none, none, none, none, none, none, none, none, none, none, none, none, none, none, none, none, none, none, none, none, none, none, some ⟨[.int .i64 0, .int .i64 0, .int .i64 0, .int .i64 4, .int .i64 4, .int .i64 4, .int .i64 0, .int .i64 0, .int .i64 0, .int .i64 1, .int .i64 1, .int .i64 1, .int .i64 2, .int .i64 2, .int .i64 2, .int .i64 6, .int .i64 6, .int .i64 6], true, true, 6⟩, none, none, none, none, none, none, none, none, none, none, none, none, none, none, none, none]⟩
def memo14 : Memo := k14 :: memo13
theorem ok14 : MemoOk Try.prog memo14 := memo_cons ok13 k14 (by decide) (evCall_ok mixed ok13 10000 100) (keep := some [29]) (by kernel_rfl)
/- gangsaw/box.Total -/
def k15 : Known := ⟨39, #[.slice (some ⟨0, 0, none⟩) 3 3], [some ⟨[.int .i64 0, .int .i64 0, .int .i64 0, .int .i64 4, .int .i64 4, .int .i64 4, .int .i64 2, .int .i64 2, .int .i64 2, .int .i64 6, .int .i64 6, .int .i64 6, .int .i64 0, .int .i64 0, .int .i64 0, .int .i64 1, .int .i64 1, .int .i64 1], true, false, 6⟩], .tuple #[.int .i64 120, .int .i64 0], [some ⟨[.int .i64 0, .int .i64 0, .int .i64 0, .int .i64 4, .int .i64 4, .int .i64 4, .int .i64 2, .int .i64 2, .int .i64 2, .int .i64 6, .int .i64 6, .int .i64 6, .int .i64 0, .int .i64 0, .int .i64 0, .int .i64 1, .int .i64 1, .int .i64 1], true, false, 6⟩]⟩
def memo15 : Memo := k15 :: memo14
theorem ok15 : MemoOk Try.prog memo15 := memo_cons ok14 k15 (by decide) (evCall_ok mixed ok14 10000 100) (keep := none) (by kernel_rfl)
/- gangsaw/box.Volume -/
def k16 : Known := ⟨13, #[.agg #[.int .i64 0, .int .i64 0, .int .i64 0, .int .i64 4, .int .i64 4, .int .i64 4]], [], .tuple #[.int .i64 64, .int .i64 0], []⟩
def memo16 : Memo := k16 :: memo15
theorem ok16 : MemoOk Try.prog memo16 := memo_cons ok15 k16 (by decide) (evCall_ok mixed ok15 10000 100) (keep := none) (by kernel_rfl)
/- gangsaw/box.Move -/
def k17 : Known := ⟨14, #[.agg #[.int .i64 0, .int .i64 0, .int .i64 0, .int .i64 4, .int .i64 4, .int .i64 4], .agg #[.int .i64 1, .int .i64 0, .int .i64 0]], [], .tuple #[.agg #[.int .i64 1, .int .i64 0, .int .i64 0, .int .i64 5, .int .i64 4, .int .i64 4], .int .i64 0], []⟩
def memo17 : Memo := k17 :: memo16
theorem ok17 : MemoOk Try.prog memo17 := memo_cons ok16 k17 (by decide) (evCall_ok mixed ok16 10000 100) (keep := none) (by kernel_rfl)
/- gangsaw/box.checkAll -/
def k18 : Known := ⟨54, #[.slice (some ⟨0, 0, none⟩) 1 1], [some ⟨[.int .i64 2, .int .i64 2, .int .i64 2, .int .i64 6, .int .i64 6, .int .i64 6], true, false, 6⟩], .int .i64 0, [some ⟨[.int .i64 2, .int .i64 2, .int .i64 2, .int .i64 6, .int .i64 6, .int .i64 6], true, false, 6⟩]⟩
def memo18 : Memo := k18 :: memo17
theorem ok18 : MemoOk Try.prog memo18 := memo_cons ok17 k18 (by decide) (evCall_ok mixed ok17 10000 100) (keep := none) (by kernel_rfl)
/- gangsaw/box.Partition -/
def k19 : Known := ⟨42, #[.agg #[.int .i64 0, .int .i64 0, .int .i64 0, .int .i64 4, .int .i64 4, .int .i64 4], .slice (some ⟨0, 0, none⟩) 1 1], [some ⟨[.int .i64 0, .int .i64 0, .int .i64 0, .int .i64 4, .int .i64 4, .int .i64 4], true, false, 6⟩], .int .i64 0, [some ⟨[.int .i64 0, .int .i64 0, .int .i64 0, .int .i64 4, .int .i64 4, .int .i64 4], true, false, 6⟩]⟩
def memo19 : Memo := k19 :: memo18
theorem ok19 : MemoOk Try.prog memo19 := memo_cons ok18 k19 (by decide) (evCall_ok mixed ok18 10000 100) (keep := none) (by kernel_rfl)
theorem awake_true : isTrue (evCall Try.prog memo19 10000 100 11 #[] []) = true := by kernel_rfl
theorem awake_any (w : World) : Calls Try.prog 11 #[] w fun e w' => e = .returned (.bool true) ∧ Below w.heap.size w w' := true_ok mixed ok19 (by decide) awake_true w
end Go.Proofs.Ytgpcgcflmimnbaa.Vx
