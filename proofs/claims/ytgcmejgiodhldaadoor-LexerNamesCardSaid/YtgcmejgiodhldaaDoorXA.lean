/- The examples of the chapter: the statements' first test, run over named blocks by the kernel, the greater calls in it one by one. -/
import Derived.Test.YtgcmejgiodhldaaDoorX17
import Derived.Test.YtgcmejgiodhldaaDoorProg
namespace Go.Proofs.YtgcmejgiodhldaaDoor.Vx
open Go Go.RowKit Go.Proofs
set_option maxRecDepth 100000
theorem mixed : Tryd.prog.follows .mixedOrders = true := by kernel_rfl
/- gangsaw/lexer.word -/
def k0 : Known := ⟨41, #[.string ⟨#[98, 101, 100, 32, 61, 32, 117, 112, 112, 101, 114, 44, 32, 45, 49, 50, 48, 32, 32, 35, 32, 115, 101, 101, 110]⟩], [], .tuple #[.agg #[.int .i64 1, .string ⟨#[98, 101, 100]⟩, .int .i64 0, .int .i64 0], .int .i64 3, .int .i64 0], []⟩
def memo0 : Memo := k0 :: []
theorem ok0 : MemoOk Tryd.prog memo0 := memo_cons memo_nil k0 (by decide) (evCall_ok mixed memo_nil 10000 100) (keep := none) (by kernel_rfl)
/- gangsaw/lexer.run -/
def k1 : Known := ⟨29, #[.string ⟨#[117, 112, 112, 101, 114, 44, 32, 45, 49, 50, 48, 32, 32, 35, 32, 115, 101, 101, 110]⟩, .func (.func 51) #[] #[]], [], .int .i64 5, []⟩
def memo1 : Memo := k1 :: memo0
theorem ok1 : MemoOk Tryd.prog memo1 := memo_cons ok0 k1 (by decide) (evCall_ok mixed ok0 10000 100) (keep := none) (by kernel_rfl)
/- internal/strconv.ParseUint -/
def k2 : Known := ⟨70, #[.string ⟨#[49, 50, 48]⟩, .int .i64 10, .int .i64 64], [], .tuple #[.int .u64 120, .nilIface], []⟩
def memo2 : Memo := k2 :: memo1
theorem ok2 : MemoOk Tryd.prog memo2 := memo_cons ok1 k2 (by decide) (evCall_ok mixed ok1 10000 100) (keep := none) (by kernel_rfl)
/- gangsaw/lexer.number -/
def k3 : Known := ⟨43, #[.string ⟨#[45, 49, 50, 48, 32, 32, 35, 32, 115, 101, 101, 110]⟩], [], .tuple #[.agg #[.int .i64 2, .string ⟨#[]⟩, .int .i64 (-120), .int .i64 0], .int .i64 4, .int .i64 0], []⟩
def memo3 : Memo := k3 :: memo2
theorem ok3 : MemoOk Tryd.prog memo3 := memo_cons ok2 k3 (by decide) (evCall_ok mixed ok2 10000 100) (keep := none) (by kernel_rfl)
/- gangsaw/lexer.Scan -/
def k4 : Known := ⟨10, #[.string ⟨#[32, 32, 98, 101, 100, 32, 61, 32, 117, 112, 112, 101, 114, 44, 32, 45, 49, 50, 48, 32, 32, 35, 32, 115, 101, 101, 110]⟩], [], .tuple #[.agg #[.int .i64 1, .slice (some ⟨12, 0, none⟩) 5 0, .bool false, .string ⟨#[32, 115, 101, 101, 110]⟩], .agg #[.int .i64 0, .int .i64 0, .int .i64 0]], [none, none, none, none, none, none, none, none, none, none, none, none, some ⟨[.int .i64 1, .string ⟨#[98, 101, 100]⟩, .int .i64 0, .int .i64 3, .int .i64 4, .string ⟨#[61]⟩, .int .i64 0, .int .i64 7, .int .i64 1, .string ⟨#[117, 112, 112, 101, 114]⟩, .int .i64 0, .int .i64 9, .int .i64 4, .string ⟨#[44]⟩, .int .i64 0, .int .i64 14, .int .i64 2, .string ⟨#[]⟩, .int .i64 (-120), .int .i64 16], true, true, 4⟩]⟩
def memo4 : Memo := k4 :: memo3
theorem ok4 : MemoOk Tryd.prog memo4 := memo_cons ok3 k4 (by decide) (evCall_ok mixed ok3 10000 100) (keep := some [12]) (by kernel_rfl)
/- gangsaw/lexer.run -/
def k5 : Known := ⟨29, #[.string ⟨#[119, 97, 108, 108, 32, 115, 111, 117, 116, 104, 58]⟩, .func (.func 51) #[] #[]], [], .int .i64 4, []⟩
def memo5 : Memo := k5 :: memo4
theorem ok5 : MemoOk Tryd.prog memo5 := memo_cons ok4 k5 (by decide) (evCall_ok mixed ok4 10000 100) (keep := none) (by kernel_rfl)
/- gangsaw/lexer.run -/
def k6 : Known := ⟨29, #[.string ⟨#[115, 111, 117, 116, 104, 58]⟩, .func (.func 51) #[] #[]], [], .int .i64 5, []⟩
def memo6 : Memo := k6 :: memo5
theorem ok6 : MemoOk Tryd.prog memo6 := memo_cons ok5 k6 (by decide) (evCall_ok mixed ok5 10000 100) (keep := none) (by kernel_rfl)
/- gangsaw/lexer.Scan -/
def k7 : Known := ⟨10, #[.string ⟨#[119, 97, 108, 108, 32, 115, 111, 117, 116, 104, 58]⟩], [], .tuple #[.agg #[.int .i64 0, .slice (some ⟨10, 0, none⟩) 2 0, .bool true, .string ⟨#[]⟩], .agg #[.int .i64 0, .int .i64 0, .int .i64 0]], [none, none, none, none, none, none, none, none, none, none, some ⟨[.int .i64 1, .string ⟨#[119, 97, 108, 108]⟩, .int .i64 0, .int .i64 1, .int .i64 1, .string ⟨#[115, 111, 117, 116, 104]⟩, .int .i64 0, .int .i64 6], true, true, 4⟩]⟩
def memo7 : Memo := k7 :: memo6
theorem ok7 : MemoOk Tryd.prog memo7 := memo_cons ok6 k7 (by decide) (evCall_ok mixed ok6 10000 100) (keep := some [10]) (by kernel_rfl)
/- gangsaw/lexer.number -/
def k8 : Known := ⟨43, #[.string ⟨#[48, 48, 55]⟩], [], .tuple #[.agg #[.int .i64 0, .string ⟨#[]⟩, .int .i64 0, .int .i64 0], .int .i64 0, .int .i64 2], []⟩
def memo8 : Memo := k8 :: memo7
theorem ok8 : MemoOk Tryd.prog memo8 := memo_cons ok7 k8 (by decide) (evCall_ok mixed ok7 10000 100) (keep := none) (by kernel_rfl)
theorem awake_true : isTrue (evCall Tryd.prog memo8 10000 100 9 #[] []) = true := by kernel_rfl
theorem awake_any (w : World) (hgl : GlobOk w) : Calls Tryd.prog 9 #[] w fun e w' => e = .returned (.bool true) ∧ Below w.heap.size w w' := true_ok mixed ok8 (by decide) awake_true w hgl
end Go.Proofs.YtgcmejgiodhldaaDoor.Vx
