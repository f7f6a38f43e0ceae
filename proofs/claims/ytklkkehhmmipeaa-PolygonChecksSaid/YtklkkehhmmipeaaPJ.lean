/- The examples of the chapter on polygons: the statements' first test. -/
import Derived.Test.YtklkkehhmmipeaaPH
import Derived.Test.YtklkkehhmmipeaaPX
namespace Go.Proofs.Ytklkkehhmmipeaa
open Go.RowKit
attribute [local go_sem ↓] Go.wp_at_zero Go.wp_at_succ

def sq : List P2 := [(0, 0), (10, 0), (10, 10), (0, 10)]
def five : List P2 := [(0, 0), (4, 0), (2, 0), (2, 1), (2, 5)]
def fiveS : List P2 := [(0, 0), (2, 0), (2, 1), (2, 5), (4, 0)]
def tri : List P2 := [(0, 0), (4, 0), (2, 5)]
theorem ex1 : chk sq [] = 0 := by decide +kernel
theorem ex2 : areaTo sq 4 = 200 := by decide +kernel
theorem ex3 : convexM sq = true := by decide +kernel
theorem ex4 : chk sq [(5, 5)] = 0 := by decide +kernel
theorem ex5 : simpleM sq = true := by decide +kernel
theorem ex6 : sideM sq (5, 5) = 1 := by decide +kernel
theorem ex7 : allP five = true := by decide +kernel
theorem ex8 : fiveS.Perm five := by decide +kernel
theorem ex9 : fiveS.Pairwise fun a b => ¬ bef b a := by decide +kernel
theorem ex10 : (halfL 0 [] fiveS).dropLast = [(0, 0)] := by decide +kernel
theorem ex11 : (halfL 1 [(0, 0)] fiveS.reverse).dropLast = tri := by decide +kernel

theorem square_any (w : World) : Calls Try.prog 36 #[] w fun e w' => ∃ A c, e = .returned (.slice A 4 c) ∧ Row w' w'.heap.size A 4 sq ∧ Below w.heap.size w w' := by
  go_enter Try.func36, Try.ntmps36
  go_wp2
  go_ret
  exact ⟨_, _, rfl, row_lit w sq _ rfl (by simp), (by (repeat (first | with_reducible assumption | with_reducible exact Below.refl _ _ | simp only [Below.drew_iff] | simp only [Below.drewN_iff] | with_reducible refine Below.setCell ?_ (by first | omega | (simp; done) | (simp; omega)) _ | with_reducible refine Below.alloc ?_ (by first | omega | (simp; done) | (simp; omega)) _)))⟩

theorem convexE_any (A : Option Addr) (n c : Nat) (xs : List P2) (v : Bool) (w : World) (h : Row w w.heap.size A n xs) (hn : n ≤ 2000) (he : chk xs [] = 0) (hv : convexM xs = v) :
    Calls Try.prog 26 #[.slice A n c] w fun e w' => e = .returned (.tuple #[.bool v, .int .i64 0]) ∧ Below w.heap.size w w' := hv ▸ pConvex_any A n c xs w h hn he
theorem areaE_any (A : Option Addr) (n c : Nat) (xs : List P2) (v : Int) (w : World) (h : Row w w.heap.size A n xs) (hn : n ≤ 2000) (he : chk xs [] = 0) (hv : areaTo xs n = v) :
    Calls Try.prog 14 #[.slice A n c] w fun e w' => e = .returned (.tuple #[.int .i64 v, .int .i64 0]) ∧ Below w.heap.size w w' := hv ▸ pArea2_any A n c xs w h hn he
theorem sideE_any (A : Option Addr) (n c : Nat) (xs : List P2) (qx qy v : Int) (w : World) (h : Row w w.heap.size A n xs) (hn : n ≤ 2000) (he : chk xs [(qx, qy)] = 0) (hs : simpleM xs = true) (hv : sideM xs (qx, qy) = v) :
    Calls Try.prog 31 #[.slice A n c, v2 qx qy] w fun e w' => e = .returned (.tuple #[.int .i64 v, .int .i64 0]) ∧ Below w.heap.size w w' := hv ▸ pSide_any A n c xs qx qy w h hn he hs
theorem sameE_any (A : Option Addr) (n c : Nat) (xs : List P2) (A' : Option Addr) (n' c' : Nat) (ys : List P2) (v : Bool) (w : World) (h : Row w w.heap.size A n xs) (hn : n ≤ 2000) (h' : Row w w.heap.size A' n' ys) (hn' : n' ≤ 2000) (hv : sameM xs ys = v) :
    Calls Try.prog 17 #[.slice A n c, .slice A' n' c'] w fun e w' => e = .returned (.bool v) ∧ Below w.heap.size w w' := hv ▸ same_any A n c xs A' n' c' ys w h hn h' hn'

set_option maxRecDepth 100000 in
set_option maxHeartbeats 8000000 in
theorem awake_any (w : World) : Calls Try.prog 11 #[] w fun e w' => e = .returned (.bool true) ∧ Below w.heap.size w w' := by
  go_enter Try.func11, Try.ntmps11
  go_wp2_with fail
  refine (square_any _).mono ?_
  rintro e w1 ⟨A1, c1, rfl, hr1, hb1⟩
  go_wp2_with fail
  refine (areaE_any A1 4 c1 sq 200 _ hr1 (by omega) ex1 ex2).mono ?_
  rintro e w2 ⟨rfl, hb2⟩
  have acc2 := below_step hb1 hb2
  clear hr1 hb1 hb2
  go_wp2_with fail
  refine (square_any _).mono ?_
  rintro e w3 ⟨A3, c3, rfl, hr3, hb3⟩
  go_wp2_with fail
  refine (convexE_any A3 4 c3 sq true _ hr3 (by omega) ex1 ex3).mono ?_
  rintro e w4 ⟨rfl, hb4⟩
  have acc4 := below_step (below_step acc2 hb3) hb4
  clear hr3 hb3 hb4 acc2
  go_wp2_with fail
  refine (square_any _).mono ?_
  rintro e w5 ⟨A5, c5, rfl, hr5, hb5⟩
  go_wp2_with fail
  refine (sideE_any A5 4 c5 sq 5 5 1 _ hr5 (by omega) ex4 ex5 ex6).mono ?_
  rintro e w6 ⟨rfl, hb6⟩
  have acc6 := below_step (below_step acc4 hb5) hb6
  clear hr5 hb5 hb6 acc4
  go_wp2_with fail
  refine (pHull5_any _ _ five fiveS [(0, 0)] tri _ (row_lit w6 five _ rfl (by simp)) ex7 ex8 ex9 ex10 ex11 (by decide) (by decide) (by decide)).mono ?_
  rintro e w7 ⟨A7, c7, rfl, hr7, hb7⟩
  have hr7' : Row w7 w7.heap.size A7 3 tri := hr7
  have acc7 : Below w.heap.size w w7 := below_step (acc6.alloc acc6.size _) hb7
  clear hr7 hb7 acc6
  go_wp2_with fail
  refine (sameE_any A7 3 c7 tri _ 3 _ tri true _ (hr7'.in_ ((Below.refl _ _).alloc (Nat.le_refl _) _) (by simp)) (by omega) (row_lit w7 tri _ rfl (by simp)) (by omega) (by decide)).mono ?_
  rintro e w8 ⟨rfl, hb8⟩
  have acc8 : Below w.heap.size w w8 := below_step (acc7.alloc acc7.size _) hb8
  go_wp2
  go_ret
  exact ⟨rfl, acc8⟩
end Go.Proofs.Ytklkkehhmmipeaa
