/- The walk of the statement VectorLaws. -/
import Derived.Test.YtnhoabehemnpnaaWA
import Derived.Test.YtnhoabehemnpnaaVR1
namespace Go.Proofs.Ytnhoabehemnpnaa
open Go.RowKit
attribute [local go_sem ↓] Go.wp_at_zero Go.wp_at_succ

theorem add_e (x y z x' y' z' a b c e0 : Int) (w : World) (h : combV x y z x' y' z' 1 = .tuple #[v3 a b c, .int .i64 e0]) :
    Calls Try.prog 13 #[v3 x y z, v3 x' y' z'] w fun e w' => e = .returned (.tuple #[v3 a b c, .int .i64 e0]) ∧ Below w.heap.size w w' := h ▸ add_any x y z x' y' z' w
theorem sub_e (x y z x' y' z' a b c e0 : Int) (w : World) (h : combV x y z x' y' z' (-1) = .tuple #[v3 a b c, .int .i64 e0]) :
    Calls Try.prog 14 #[v3 x y z, v3 x' y' z'] w fun e w' => e = .returned (.tuple #[v3 a b c, .int .i64 e0]) ∧ Below w.heap.size w w' := h ▸ sub_any x y z x' y' z' w
theorem dot_e (x y z x' y' z' n e0 : Int) (w : World) (h : dotV x y z x' y' z' = .tuple #[.int .i64 n, .int .i64 e0]) :
    Calls Try.prog 22 #[v3 x y z, v3 x' y' z'] w fun e w' => e = .returned (.tuple #[.int .i64 n, .int .i64 e0]) ∧ Below w.heap.size w w' := h ▸ vdot_any x y z x' y' z' w
theorem dist_e (x y z x' y' z' n e0 : Int) (w : World) (h : distV x y z x' y' z' = .tuple #[.int .i64 n, .int .i64 e0]) :
    Calls Try.prog 24 #[v3 x y z, v3 x' y' z'] w fun e w' => e = .returned (.tuple #[.int .i64 n, .int .i64 e0]) ∧ Below w.heap.size w w' := h ▸ vdistance_any x y z x' y' z' w
theorem cross_e (x y z x' y' z' a b c e0 : Int) (w : World) (h : crossV x y z x' y' z' = .tuple #[v3 a b c, .int .i64 e0]) :
    Calls Try.prog 23 #[v3 x y z, v3 x' y' z'] w fun e w' => e = .returned (.tuple #[v3 a b c, .int .i64 e0]) ∧ Below w.heap.size w w' := h ▸ vcross_any x y z x' y' z' w

theorem mul_mix {a b : Int} (h1 : -1000000 ≤ a) (h2 : a ≤ 1000000) (h3 : -2000000000000 ≤ b) (h4 : b ≤ 2000000000000) : -2000000000000000000 ≤ a * b ∧ a * b ≤ 2000000000000000000 := by
  have e1 := Int.mul_nonneg (show (0 : Int) ≤ 1000000 - a by omega) (show (0 : Int) ≤ 2000000000000 + b by omega)
  have e2 := Int.mul_nonneg (show (0 : Int) ≤ 1000000 + a by omega) (show (0 : Int) ≤ 2000000000000 - b by omega)
  have e3 := Int.mul_nonneg (show (0 : Int) ≤ 1000000 - a by omega) (show (0 : Int) ≤ 2000000000000 - b by omega)
  have e4 := Int.mul_nonneg (show (0 : Int) ≤ 1000000 + a by omega) (show (0 : Int) ≤ 2000000000000 + b by omega)
  simp only [Int.sub_mul, Int.add_mul, Int.mul_sub, Int.mul_add] at e1 e2 e3 e4
  constructor <;> omega
theorem comb_cases (x y z x' y' z' t : Int) : (∃ a b c : Int, a = x + t * x' ∧ b = y + t * y' ∧ c = z + t * z' ∧ inV x y z = true ∧ inV x' y' z' = true ∧ inV a b c = true ∧ combV x y z x' y' z' t = .tuple #[v3 a b c, .int .i64 0]) ∨ combV x y z x' y' z' t = .tuple #[v3 0 0 0, .int .i64 6] := by
  unfold combV
  by_cases h : (inV x y z && inV x' y' z') = true ∧ inV (x + t * x') (y + t * y') (z + t * z') = true
  · rw [if_pos h]
    have h1 := h.1
    rw [Bool.and_eq_true] at h1
    exact .inl ⟨_, _, _, rfl, rfl, rfl, h1.1, h1.2, h.2, rfl⟩
  · rw [if_neg h]; exact .inr rfl
theorem comb_ok {x y z x' y' z' t a b c : Int} (h1 : inV x y z = true) (h2 : inV x' y' z' = true) (h3 : inV a b c = true) (e1 : x + t * x' = a) (e2 : y + t * y' = b) (e3 : z + t * z' = c) : combV x y z x' y' z' t = .tuple #[v3 a b c, .int .i64 0] := by
  unfold combV
  rw [e1, e2, e3, if_pos ⟨by rw [h1, h2]; rfl, h3⟩]
/-- What the products of two vectors in range are. -/
theorem laws_in {x y z x' y' z' : Int} (h1 : inV x y z = true) (h2 : inV x' y' z' = true) : ∃ n c1 c2 c3 : Int, dotV x y z x' y' z' = .tuple #[.int .i64 n, .int .i64 0] ∧ dotV x' y' z' x y z = .tuple #[.int .i64 n, .int .i64 0] ∧
    crossV x y z x' y' z' = .tuple #[v3 c1 c2 c3, .int .i64 0] ∧ crossV x' y' z' x y z = .tuple #[v3 (-c1) (-c2) (-c3), .int .i64 0] ∧
    (-2000000000000 ≤ c1 ∧ c1 ≤ 2000000000000) ∧ (-2000000000000 ≤ c2 ∧ c2 ≤ 2000000000000) ∧ (-2000000000000 ≤ c3 ∧ c3 ≤ 2000000000000) ∧ x * c1 + y * c2 + z * c3 = 0 ∧ x' * c1 + y' * c2 + z' * c3 = 0 := by
  obtain ⟨⟨a1, a2⟩, ⟨a3, a4⟩, a5, a6⟩ := inV_true h1
  obtain ⟨⟨e1, e2⟩, ⟨e3, e4⟩, e5, e6⟩ := inV_true h2
  have k1 := mul_in a3 a4 e5 e6
  have k2 := mul_in a5 a6 e3 e4
  have k3 := mul_in a5 a6 e1 e2
  have k4 := mul_in a1 a2 e5 e6
  have k5 := mul_in a1 a2 e3 e4
  have k6 := mul_in a3 a4 e1 e2
  have p1 : (inV x y z && inV x' y' z') = true := by rw [h1, h2]; rfl
  have p2 : (inV x' y' z' && inV x y z) = true := by rw [h1, h2]; rfl
  refine ⟨x * x' + y * y' + z * z', y * z' - z * y', z * x' - x * z', x * y' - y * x', ?_, ?_, ?_, ?_, by omega, by omega, by omega, by grind, by grind⟩
  · unfold dotV; rw [if_pos p1]
  · unfold dotV; rw [if_pos p2, Int.mul_comm x', Int.mul_comm y', Int.mul_comm z']
  · unfold crossV; rw [if_pos p1]
  · unfold crossV; rw [if_pos p2, show y' * z - z' * y = -(y * z' - z * y') by grind, show z' * x - x' * z = -(z * x' - x * z') by grind, show x' * y - y' * x = -(x * y' - y * x') by grind]
theorem laws_out {x y z x' y' z' : Int} (h : (inV x y z && inV x' y' z') = false) : dotV x y z x' y' z' = .tuple #[.int .i64 0, .int .i64 6] ∧ dotV x' y' z' x y z = .tuple #[.int .i64 0, .int .i64 6] ∧
    crossV x y z x' y' z' = .tuple #[v3 0 0 0, .int .i64 6] ∧ crossV x' y' z' x y z = .tuple #[v3 0 0 0, .int .i64 6] ∧ combV x y z x' y' z' 1 = .tuple #[v3 0 0 0, .int .i64 6] := by
  have h' : (inV x' y' z' && inV x y z) = false := by rw [Bool.and_comm]; exact h
  refine ⟨?_, ?_, ?_, ?_, ?_⟩
  · unfold dotV; rw [if_neg (by simp [h])]
  · unfold dotV; rw [if_neg (by simp [h'])]
  · unfold crossV; rw [if_neg (by simp [h])]
  · unfold crossV; rw [if_neg (by simp [h'])]
  · unfold combV; rw [if_neg (by simp [h])]
/-- Two sums with a third vector: one of them is not in range, or the distance stays. -/
theorem laws_move (x y z x' y' z' x'' y'' z'' : Int) : ∃ p1 p2 p3 q1 q2 q3 j k u : Int, combV x y z x'' y'' z'' 1 = .tuple #[v3 p1 p2 p3, .int .i64 j] ∧ combV x' y' z' x'' y'' z'' 1 = .tuple #[v3 q1 q2 q3, .int .i64 k] ∧
    ((j != 0) = true ∨ ((j != 0) = false ∧ (k != 0) = true) ∨ (j = 0 ∧ k = 0 ∧ inV x y z = true ∧ inV x' y' z' = true ∧ distV x y z x' y' z' = .tuple #[.int .i64 u, .int .i64 0] ∧ distV p1 p2 p3 q1 q2 q3 = .tuple #[.int .i64 u, .int .i64 0])) := by
  rcases comb_cases x y z x'' y'' z'' 1 with ⟨a, b, c, ea, eb, ec, h1, _, h2, h3⟩ | h3
  · rcases comb_cases x' y' z' x'' y'' z'' 1 with ⟨a', b', c', ea', eb', ec', h1', _, h2', h3'⟩ | h3'
    · refine ⟨a, b, c, a', b', c', 0, 0, (x - x') * (x - x') + (y - y') * (y - y') + (z - z') * (z - z'), h3, h3', .inr (.inr ⟨rfl, rfl, h1, h1', ?_, ?_⟩)⟩
      · unfold distV; rw [if_pos (by rw [h1, h1']; rfl)]
      · unfold distV; rw [if_pos (by rw [h2, h2']; rfl), show a - a' = x - x' by omega, show b - b' = y - y' by omega, show c - c' = z - z' by omega]
    · exact ⟨a, b, c, 0, 0, 0, 0, 6, 0, h3, h3', .inr (.inl ⟨rfl, rfl⟩)⟩
  · rcases comb_cases x' y' z' x'' y'' z'' 1 with ⟨a', b', c', _, _, _, _, _, _, h3'⟩ | h3'
    · exact ⟨0, 0, 0, a', b', c', 6, 0, 0, h3, h3', .inl rfl⟩
    · exact ⟨0, 0, 0, 0, 0, 0, 6, 6, 0, h3, h3', .inl rfl⟩

end Go.Proofs.Ytnhoabehemnpnaa
