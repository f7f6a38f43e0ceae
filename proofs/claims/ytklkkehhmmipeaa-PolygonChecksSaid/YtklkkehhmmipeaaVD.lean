/- Check, Add, Sub, Dot and Distance of package vector. -/
import Derived.Test.YtklkkehhmmipeaaVC
namespace Go.Proofs.Ytklkkehhmmipeaa
open Go.RowKit
attribute [local go_sem ↓] Go.wp_at_zero Go.wp_at_succ

theorem vecs_one (w : World) (x y z : Int) (t : TypeId) {g B : Nat} (hg : w.heap.size = g) (hB : g < B) : Vecs (w.alloc (.cells #[.int .i64 x, .int .i64 y, .int .i64 z] t)) B (some ⟨g, 0, none⟩) 1 [(x, y, z)] := by
  subst hg
  refine ⟨rfl, _, _, rfl, hB, fun k u hu => ?_⟩
  match k, hu with
  | 0, hu => simp at hu; subst hu; simp
theorem vecs_two (w : World) (x y z x' y' z' : Int) (t : TypeId) {g B : Nat} (hg : w.heap.size = g) (hB : g < B) : Vecs (w.alloc (.cells #[.int .i64 x, .int .i64 y, .int .i64 z, .int .i64 x', .int .i64 y', .int .i64 z'] t)) B (some ⟨g, 0, none⟩) 2 [(x, y, z), (x', y', z')] := by
  subst hg
  refine ⟨rfl, _, _, rfl, hB, fun k u hu => ?_⟩
  match k, hu with
  | 0, hu => simp at hu; subst hu; simp
  | 1, hu => simp at hu; subst hu; simp
theorem check_one (x y z : Int) (c : Nat) (w : World) (t : TypeId) {g : Nat} (hg : w.heap.size = g) :
    Calls Try.prog 79 #[.slice (some ⟨g, 0, none⟩) 1 c] (w.alloc (.cells #[.int .i64 x, .int .i64 y, .int .i64 z] t)) fun e w' => e = .returned (.int .i64 (errB (inV x y z))) ∧ Below (w.alloc (.cells #[.int .i64 x, .int .i64 y, .int .i64 z] t)).heap.size (w.alloc (.cells #[.int .i64 x, .int .i64 y, .int .i64 z] t)) w' := by
  have h := checkAll_any (some ⟨g, 0, none⟩) 1 c [(x, y, z)] _ (vecs_one w x y z t hg (by simp; omega)) (by omega)
  simpa using h
theorem check_two (x y z x' y' z' : Int) (c : Nat) (w : World) (t : TypeId) {g : Nat} (hg : w.heap.size = g) :
    Calls Try.prog 79 #[.slice (some ⟨g, 0, none⟩) 2 c] (w.alloc (.cells #[.int .i64 x, .int .i64 y, .int .i64 z, .int .i64 x', .int .i64 y', .int .i64 z'] t)) fun e w' => e = .returned (.int .i64 (errB (inV x y z && inV x' y' z'))) ∧ Below (w.alloc (.cells #[.int .i64 x, .int .i64 y, .int .i64 z, .int .i64 x', .int .i64 y', .int .i64 z'] t)).heap.size (w.alloc (.cells #[.int .i64 x, .int .i64 y, .int .i64 z, .int .i64 x', .int .i64 y', .int .i64 z'] t)) w' := by
  have h := checkAll_any (some ⟨g, 0, none⟩) 2 c [(x, y, z), (x', y', z')] _ (vecs_two w x y z x' y' z' t hg (by simp; omega)) (by omega)
  simpa using h

theorem vcheck_any (x y z : Int) (w : World) :
    Calls Try.prog 70 #[v3 x y z] w fun e w' => e = .returned (.int .i64 (errB (inV x y z))) ∧ Below w.heap.size w w' := by
  go_enter Try.func70, Try.ntmps70
  go_wp2_with fail
  refine (check_one x y z _ _ _ (by simp)).mono ?_
  rintro e w1 ⟨rfl, hb⟩
  go_wp2
  go_ret
  exact ⟨rfl, by (repeat (first | exact Below.refl _ _ | (refine Below.setCell ?_ (by first | omega | (simp; done) | (simp; omega)) _) | (refine Below.alloc ?_ (by first | omega | (simp; done) | (simp; omega)) _) | (refine Below.trans ?_ (Below.mono hb (by first | omega | (simp; done) | (simp; omega))))))⟩

/-- Two vectors, in range or not. -/
theorem two_cases (a b : Bool) : (a && b) = true ∧ a = true ∧ b = true ∨ (a && b) = false := by cases a <;> cases b <;> simp

abbrev V3T : Nat := 75
end Go.Proofs.Ytklkkehhmmipeaa
