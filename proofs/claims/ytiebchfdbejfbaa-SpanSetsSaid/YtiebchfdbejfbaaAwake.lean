/- The examples of the chapter: the statements' first test, given that the sort sorts. -/
import Derived.Test.YtiebchfdbejfbaaSets
namespace Go.Proofs.Ytiebchfdbejfbaa
open Go.RowKit

theorem ex_add : totV [(1, 3), (10, 20)] = pairV 11 23 0 := by kernel_rfl
theorem sort_three : sortI [(5, 7), (1, 2), (3, 3)] = [(1, 2), (3, 3), (5, 7)] := sortI_unique (by decide) (by simp [leI])
theorem sort_two : sortI [(1, 5), (4, 9)] = [(1, 5), (4, 9)] := sortI_unique (List.Perm.refl _) (by simp [leI])
theorem ex_normal : normL [(5, 7), (1, 2), (3, 3)] = [(1, 3), (5, 7)] := by unfold normL; rw [sort_three]; decide +kernel
theorem ex_count : countV [(1, 5), (4, 9)] = .tuple #[.int .i64 9, .int .i64 0] := by unfold countV normL; rw [sort_two]; kernel_rfl
theorem three_new {g B : Nat} (w : World) (a b c d e f : Int) (t : TypeId) (hg : w.heap.size = g) (hB : g < B) : Ivs (w.alloc (.cells #[.int .i64 a, .int .i64 b, .int .i64 c, .int .i64 d, .int .i64 e, .int .i64 f] t)) B (some ⟨g, 0, none⟩) 3 [(a, b), (c, d), (e, f)] := by
  subst hg
  refine ⟨rfl, fun _ => ⟨_, _, rfl, hB, fun k x hx => ?_⟩⟩
  match k, hx with
  | 0, hx => simp at hx; subst hx; simp
  | 1, hx => simp at hx; subst hx; simp
  | 2, hx => simp at hx; subst hx; simp

theorem awake_any (hsort : SortSaid) (w : World) : Calls Try.prog 10 #[] w fun e w' => e = .returned (.bool true) ∧ Below w.heap.size w w' := by
  go_enter Try.func10, Try.ntmps10
  go_wp2_with fail
  refine (add_any _ _ _ _ _).mono ?_
  rw [ex_add]
  rintro e w1 ⟨rfl, hb1⟩
  go_wp2_with fail
  refine (normalize_any hsort _ _ _ [(5, 7), (1, 2), (3, 3)] _ (three_new _ _ _ _ _ _ _ _ (by simp) (by simp)) (by omega)).mono ?_
  have e0 : errAll [(5, 7), (1, 2), (3, 3)] = 0 := by decide +kernel
  rw [e0]
  rintro e w2 ⟨v, rfl, hown, hb2⟩
  have e1 : okSet 0 (normL [(5, 7), (1, 2), (3, 3)]) = [(1, 3), (5, 7)] := by simp [okSet, ex_normal]
  rw [e1] at hown
  obtain ⟨A2, c2, rfl, hi2, _⟩ := hown.form_n (n := 2) rfl
  clear hown e0 e1
  go_wp2_with fail
  refine (count_any hsort _ _ _ [(1, 5), (4, 9)] _ (two_new _ _ _ _ _ _ (by simp) (by simp)) (by omega)).mono ?_
  rw [ex_count]
  rintro e w3 ⟨rfl, hb3⟩
  have hbox := (((((IvBox.new w1 11 23).alloc _).kept hb2).alloc _).kept hb3)
  obtain ⟨x0, x1, _, _⟩ := hbox.facts
  have hi3 : Ivs w3 w3.heap.size A2 2 [(1, 3), (5, 7)] := hi2.in_ ((below_new (Nat.le_refl _) _).trans (hb3.mono (by simp))) (by have := hb3.size; simp at this; omega)
  have z1 := hb1.size
  have z2 := hb2.size
  have z3 := hb3.size
  simp at z2 z3
  have hbw : Below w.heap.size w w3 := by (repeat (first | exact Below.refl _ _ | (refine Below.setCell ?_ (by first | omega | (simp; done) | (simp; omega)) _) | (refine Below.alloc ?_ (by first | omega | (simp; done) | (simp; omega)) _) | (refine Below.trans ?_ (Below.mono hb1 (by first | omega | (simp; done) | (simp; omega)))) | (refine Below.trans ?_ (Below.mono hb2 (by first | omega | (simp; done) | (simp; omega)))) | (refine Below.trans ?_ (Below.mono hb3 (by first | omega | (simp; done) | (simp; omega))))))
  go_wp2_with (go_at_call 36; refine (same_any A2 _ 2 c2 2 2 [(1, 3), (5, 7)] [(1, 3), (5, 7)] _ (hi3.in_ (below_new (Nat.le_refl _) _) (by simp)) (two_new _ _ _ _ _ _ (by simp) (by simp)) (by omega) (by omega)).mono ?_; rw [show decide ([((1, 3) : Int × Int), (5, 7)] = [(1, 3), (5, 7)]) = true from by decide]; rintro e w4 ⟨rfl, hb4⟩)
  go_ret
  exact ⟨rfl, by (repeat (first | exact Below.refl _ _ | (refine Below.setCell ?_ (by first | omega | (simp; done) | (simp; omega)) _) | (refine Below.alloc ?_ (by first | omega | (simp; done) | (simp; omega)) _) | (refine Below.trans ?_ (Below.mono hb1 (by first | omega | (simp; done) | (simp; omega)))) | (refine Below.trans ?_ (Below.mono hb2 (by first | omega | (simp; done) | (simp; omega)))) | (refine Below.trans ?_ (Below.mono hb3 (by first | omega | (simp; done) | (simp; omega)))) | (refine Below.trans ?_ (Below.mono hb4 (by first | omega | (simp; done) | (simp; omega))))))⟩
end Go.Proofs.Ytiebchfdbejfbaa
