/- Two arrays of three numbers, compared. -/
import Derived.Test.YtnhoabehemnpnaaVA
import Derived.ChangeKeysEq
namespace Go.Proofs.Ytnhoabehemnpnaa
open Go.RowKit

theorem one_cell : Try.prog.cellsOf 2 = 1 := by kernel_rfl
theorem eq_int (d : Nat) (a b : Int) (w : World) : (Op.equalIn (d + 1) 2 (.int .i64 a) (.int .i64 b)).run Try.prog w = .ok (a == b) w := by
  have he : Try.prog.underlying 2 = some (.int .i64) := Try.underlying2
  simp only [Op.equalIn, Sem.run_bind, run_underlying he, Result.andThen_ok]
  simp
theorem arr_eq (x y z x' y' z' : Int) (w : World) :
    (Op.equalIn 10000 36 (v3 x y z) (v3 x' y' z')).run Try.prog w = .ok (x == x' && (y == y' && z == z')) w := by
  have hu : Try.prog.underlying 36 = some (.array 3 2) := Try.underlying36
  obtain ⟨i, hi⟩ : ∃ i, Try.prog.info? 2 = some i := ⟨_, rfl⟩
  rw [show (10000 : Nat) = 9999 + 1 from rfl, run_equalIn_array w 9999 _ _ hu hi, one_cell]
  have hr : List.range 3 = [0, 1, 2] := rfl
  rw [hr]
  have p0 : ∀ (a b c : Int) (w : World), (part 2 #[.int .i64 a, .int .i64 b, .int .i64 c] 0).run Try.prog w = .ok (.int .i64 a) w := fun _ _ _ _ => by kernel_rfl
  have p1 : ∀ (a b c : Int) (w : World), (part 2 #[.int .i64 a, .int .i64 b, .int .i64 c] 1).run Try.prog w = .ok (.int .i64 b) w := fun _ _ _ _ => by kernel_rfl
  have p2 : ∀ (a b c : Int) (w : World), (part 2 #[.int .i64 a, .int .i64 b, .int .i64 c] 2).run Try.prog w = .ok (.int .i64 c) w := fun _ _ _ _ => by kernel_rfl
  have q : ∀ (a b : Int) (w : World), (Op.equalIn 9999 2 (.int .i64 a) (.int .i64 b)).run Try.prog w = .ok (a == b) w := fun a b w => eq_int 9998 a b w
  simp only [Op.eqItems, Sem.run_bind, Nat.mul_one, p0, q, Result.andThen_ok]
  by_cases h1 : x = x' <;> by_cases h2 : y = y' <;> by_cases h3 : z = z' <;> simp [*, Sem.run_bind, Result.andThen_ok]
end Go.Proofs.Ytnhoabehemnpnaa
