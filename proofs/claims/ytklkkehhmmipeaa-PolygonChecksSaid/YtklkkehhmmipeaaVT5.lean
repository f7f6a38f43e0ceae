/- Turn, On and Meet of package vector. -/
import Derived.Test.YtklkkehhmmipeaaVT4
namespace Go.Proofs.Ytklkkehhmmipeaa
open Go.RowKit
attribute [local go_sem ↓] Go.wp_at_zero Go.wp_at_succ

theorem pts_three (w : World) (a b c d e f : Int) (t : TypeId) {g B : Nat} (hg : w.heap.size = g) (hB : g < B) : Pts (w.alloc (.cells #[.int .i64 a, .int .i64 b, .int .i64 c, .int .i64 d, .int .i64 e, .int .i64 f] t)) B (some ⟨g, 0, none⟩) 3 [(a, b), (c, d), (e, f)] := by
  subst hg
  refine ⟨rfl, _, _, rfl, hB, fun k u hu => ?_⟩
  match k, hu with
  | 0, hu => simp at hu; subst hu; simp
  | 1, hu => simp at hu; subst hu; simp
  | 2, hu => simp at hu; subst hu; simp
theorem pts_four (w : World) (a b c d e f g' h : Int) (t : TypeId) {g B : Nat} (hg : w.heap.size = g) (hB : g < B) : Pts (w.alloc (.cells #[.int .i64 a, .int .i64 b, .int .i64 c, .int .i64 d, .int .i64 e, .int .i64 f, .int .i64 g', .int .i64 h] t)) B (some ⟨g, 0, none⟩) 4 [(a, b), (c, d), (e, f), (g', h)] := by
  subst hg
  refine ⟨rfl, _, _, rfl, hB, fun k u hu => ?_⟩
  match k, hu with
  | 0, hu => simp at hu; subst hu; simp
  | 1, hu => simp at hu; subst hu; simp
  | 2, hu => simp at hu; subst hu; simp
  | 3, hu => simp at hu; subst hu; simp
theorem check_three (a b c d e f : Int) (k : Nat) (w : World) (t : TypeId) {g : Nat} (hg : w.heap.size = g) (e0 : Int) (he : errB (inP a b && inP c d && inP e f) = e0) :
    Calls Try.prog 61 #[.slice (some ⟨g, 0, none⟩) 3 k] (w.alloc (.cells #[.int .i64 a, .int .i64 b, .int .i64 c, .int .i64 d, .int .i64 e, .int .i64 f] t)) fun r w' => r = .returned (.int .i64 e0) ∧ Below (w.alloc (.cells #[.int .i64 a, .int .i64 b, .int .i64 c, .int .i64 d, .int .i64 e, .int .i64 f] t)).heap.size (w.alloc (.cells #[.int .i64 a, .int .i64 b, .int .i64 c, .int .i64 d, .int .i64 e, .int .i64 f] t)) w' := by
  have h := checkPoints_any (some ⟨g, 0, none⟩) 3 k [(a, b), (c, d), (e, f)] _ (pts_three w a b c d e f t hg (by simp; omega)) (by omega)
  rw [← he]
  simpa [Bool.and_assoc] using h
theorem check_four (a b c d e f g' h' : Int) (k : Nat) (w : World) (t : TypeId) {g : Nat} (hg : w.heap.size = g) (e0 : Int) (he : errB (inP a b && inP c d && inP e f && inP g' h') = e0) :
    Calls Try.prog 61 #[.slice (some ⟨g, 0, none⟩) 4 k] (w.alloc (.cells #[.int .i64 a, .int .i64 b, .int .i64 c, .int .i64 d, .int .i64 e, .int .i64 f, .int .i64 g', .int .i64 h'] t)) fun r w' => r = .returned (.int .i64 e0) ∧ Below (w.alloc (.cells #[.int .i64 a, .int .i64 b, .int .i64 c, .int .i64 d, .int .i64 e, .int .i64 f, .int .i64 g', .int .i64 h'] t)).heap.size (w.alloc (.cells #[.int .i64 a, .int .i64 b, .int .i64 c, .int .i64 d, .int .i64 e, .int .i64 f, .int .i64 g', .int .i64 h'] t)) w' := by
  have h := checkPoints_any (some ⟨g, 0, none⟩) 4 k [(a, b), (c, d), (e, f), (g', h')] _ (pts_four w a b c d e f g' h' t hg (by simp; omega)) (by omega)
  rw [← he]
  simpa [Bool.and_assoc] using h
theorem and3 {a b c : Bool} (h : (a && b && c) = true) : a = true ∧ b = true ∧ c = true := by cases a <;> cases b <;> cases c <;> simp_all
theorem and4 {a b c d : Bool} (h : (a && b && c && d) = true) : a = true ∧ b = true ∧ c = true ∧ d = true := by cases a <;> cases b <;> cases c <;> cases d <;> simp_all

/-- What Turn, On and Meet return. -/
def turnV (ax ay bx by' cx cy : Int) : Value := if (inP ax ay && inP bx by' && inP cx cy) = true then .tuple #[.int .i64 (turnM (ax, ay) (bx, by') (cx, cy)), .int .i64 0] else .tuple #[.int .i64 0, .int .i64 6]
def onV (ax ay bx by' cx cy : Int) : Value := if (inP ax ay && inP bx by' && inP cx cy) = true then .tuple #[.bool (onB (ax, ay) (bx, by') (cx, cy)), .int .i64 0] else .tuple #[.bool false, .int .i64 6]
def meetV (ax ay bx by' cx cy dx dy : Int) : Value := if (inP ax ay && inP bx by' && inP cx cy && inP dx dy) = true then .tuple #[.int .i64 (meetM (ax, ay) (bx, by') (cx, cy) (dx, dy)), .int .i64 0] else .tuple #[.int .i64 0, .int .i64 6]

set_option maxHeartbeats 4000000 in
theorem vturn_any (ax ay bx by' cx cy : Int) (w : World) :
    Calls Try.prog 42 #[v2 ax ay, v2 bx by', v2 cx cy] w fun e w' => e = .returned (turnV ax ay bx by' cx cy) ∧ Below w.heap.size w w' := by
  unfold turnV
  by_cases h : (inP ax ay && inP bx by' && inP cx cy) = true
  · rw [if_pos h]
    obtain ⟨h1, h2, h3⟩ := and3 h
    have he : errB (inP ax ay && inP bx by' && inP cx cy) = 0 := by rw [h]; rfl
    have He := Lib.hid he
    have ht : ∀ W, Calls Try.prog 62 #[v2 ax ay, v2 bx by', v2 cx cy] W fun e w' => e = .returned (.int .i64 (turnM (ax, ay) (bx, by') (cx, cy))) ∧ Below W.heap.size W w' := fun W => turn_any ax ay bx by' cx cy W h1 h2 h3
    have Ht := Lib.hid ht
    clear he ht h h1 h2 h3
    go_enter Try.func42, Try.ntmps42
    go_wp2_with fail
    refine (check_three ax ay bx by' cx cy _ _ _ (by simp) 0 He.out).mono ?_
    rintro e w0 ⟨rfl, hb⟩
    have acc0 : Below w.heap.size w w0 := by (repeat (first | exact Below.refl _ _ | (refine Below.setCell ?_ (by first | omega | (simp; done) | (simp; omega)) _) | (refine Below.alloc ?_ (by first | omega | (simp; done) | (simp; omega)) _) | (refine Below.trans ?_ (Below.mono hb (by first | omega | (simp; done) | (simp; omega))))))
    obtain ⟨u0, u1, _, _⟩ := (Blk.kept (w := _) (g := w.heap.size) (cs := [.int .i64 ax, .int .i64 ay]) (t := 31) ((((Blk.new _ _ _ rfl).alloc _).alloc _).alloc _) hb).two
    obtain ⟨u2, u3, _, _⟩ := (Blk.kept (w := _) (g := w.heap.size + 1) (cs := [.int .i64 bx, .int .i64 by']) (t := 31) (((Blk.new _ _ _ (by simp)).alloc _).alloc _) hb).two
    obtain ⟨u4, u5, _, _⟩ := (Blk.kept (w := _) (g := w.heap.size + 1 + 1) (cs := [.int .i64 cx, .int .i64 cy]) (t := 31) ((Blk.new _ _ _ (by simp)).alloc _) hb).two
    clear hb
    go_wp2_with fail
    refine (Ht.out _).mono ?_
    rintro e w1 ⟨rfl, hb1⟩
    go_wp2
    go_ret2
    exact ⟨rfl, below_step acc0 hb1⟩
  · rw [if_neg h]
    have he : errB (inP ax ay && inP bx by' && inP cx cy) = 6 := by unfold errB; rw [if_neg h]
    have He := Lib.hid he
    clear he h
    go_enter Try.func42, Try.ntmps42
    go_wp2_with fail
    refine (check_three ax ay bx by' cx cy _ _ _ (by simp) 6 He.out).mono ?_
    rintro e w0 ⟨rfl, hb⟩
    go_wp2
    go_ret2
    exact ⟨rfl, by (repeat (first | exact Below.refl _ _ | (refine Below.setCell ?_ (by first | omega | (simp; done) | (simp; omega)) _) | (refine Below.alloc ?_ (by first | omega | (simp; done) | (simp; omega)) _) | (refine Below.trans ?_ (Below.mono hb (by first | omega | (simp; done) | (simp; omega))))))⟩

set_option maxHeartbeats 4000000 in
theorem von_any (ax ay bx by' cx cy : Int) (w : World) :
    Calls Try.prog 52 #[v2 ax ay, v2 bx by', v2 cx cy] w fun e w' => e = .returned (onV ax ay bx by' cx cy) ∧ Below w.heap.size w w' := by
  unfold onV
  by_cases h : (inP ax ay && inP bx by' && inP cx cy) = true
  · rw [if_pos h]
    obtain ⟨h1, h2, h3⟩ := and3 h
    have he : errB (inP ax ay && inP bx by' && inP cx cy) = 0 := by rw [h]; rfl
    have He := Lib.hid he
    obtain ⟨m, hm⟩ : ∃ m, m = meetM (ax, ay) (bx, by') (cx, cy) (cx, cy) := ⟨_, rfl⟩
    have ht : ∀ W, Calls Try.prog 67 #[v2 ax ay, v2 bx by', v2 cx cy, v2 cx cy] W fun e w' => e = .returned (.int .i64 m) ∧ Below W.heap.size W w' := fun W => hm ▸ meet_any ax ay bx by' cx cy cx cy W h1 h2 h3 h3
    rw [← on_meet, ← hm]
    have Ht := Lib.hid ht
    clear he ht h h1 h2 h3 hm
    go_enter Try.func52, Try.ntmps52
    go_wp2_with fail
    refine (check_three ax ay bx by' cx cy _ _ _ (by simp) 0 He.out).mono ?_
    rintro e w0 ⟨rfl, hb⟩
    have acc0 : Below w.heap.size w w0 := by (repeat (first | exact Below.refl _ _ | (refine Below.setCell ?_ (by first | omega | (simp; done) | (simp; omega)) _) | (refine Below.alloc ?_ (by first | omega | (simp; done) | (simp; omega)) _) | (refine Below.trans ?_ (Below.mono hb (by first | omega | (simp; done) | (simp; omega))))))
    obtain ⟨u0, u1, _, _⟩ := (Blk.kept (w := _) (g := w.heap.size) (cs := [.int .i64 ax, .int .i64 ay]) (t := 31) ((((Blk.new _ _ _ rfl).alloc _).alloc _).alloc _) hb).two
    obtain ⟨u2, u3, _, _⟩ := (Blk.kept (w := _) (g := w.heap.size + 1) (cs := [.int .i64 bx, .int .i64 by']) (t := 31) (((Blk.new _ _ _ (by simp)).alloc _).alloc _) hb).two
    obtain ⟨u4, u5, _, _⟩ := (Blk.kept (w := _) (g := w.heap.size + 1 + 1) (cs := [.int .i64 cx, .int .i64 cy]) (t := 31) ((Blk.new _ _ _ (by simp)).alloc _) hb).two
    clear hb
    go_wp2_with fail
    refine (Ht.out _).mono ?_
    rintro e w1 ⟨rfl, hb1⟩
    go_wp2
    go_ret2
    exact ⟨rfl, below_step acc0 hb1⟩
  · rw [if_neg h]
    have he : errB (inP ax ay && inP bx by' && inP cx cy) = 6 := by unfold errB; rw [if_neg h]
    have He := Lib.hid he
    clear he h
    go_enter Try.func52, Try.ntmps52
    go_wp2_with fail
    refine (check_three ax ay bx by' cx cy _ _ _ (by simp) 6 He.out).mono ?_
    rintro e w0 ⟨rfl, hb⟩
    go_wp2
    go_ret2
    exact ⟨rfl, by (repeat (first | exact Below.refl _ _ | (refine Below.setCell ?_ (by first | omega | (simp; done) | (simp; omega)) _) | (refine Below.alloc ?_ (by first | omega | (simp; done) | (simp; omega)) _) | (refine Below.trans ?_ (Below.mono hb (by first | omega | (simp; done) | (simp; omega))))))⟩

set_option maxHeartbeats 4000000 in
theorem vmeet_any (ax ay bx by' cx cy dx dy : Int) (w : World) :
    Calls Try.prog 63 #[v2 ax ay, v2 bx by', v2 cx cy, v2 dx dy] w fun e w' => e = .returned (meetV ax ay bx by' cx cy dx dy) ∧ Below w.heap.size w w' := by
  unfold meetV
  by_cases h : (inP ax ay && inP bx by' && inP cx cy && inP dx dy) = true
  · rw [if_pos h]
    obtain ⟨h1, h2, h3, h4⟩ := and4 h
    have he : errB (inP ax ay && inP bx by' && inP cx cy && inP dx dy) = 0 := by rw [h]; rfl
    have He := Lib.hid he
    have ht : ∀ W, Calls Try.prog 67 #[v2 ax ay, v2 bx by', v2 cx cy, v2 dx dy] W fun e w' => e = .returned (.int .i64 (meetM (ax, ay) (bx, by') (cx, cy) (dx, dy))) ∧ Below W.heap.size W w' := fun W => meet_any ax ay bx by' cx cy dx dy W h1 h2 h3 h4
    have Ht := Lib.hid ht
    clear he ht h h1 h2 h3 h4
    go_enter Try.func63, Try.ntmps63
    go_wp2_with fail
    refine (check_four ax ay bx by' cx cy dx dy _ _ _ (by simp) 0 He.out).mono ?_
    rintro e w0 ⟨rfl, hb⟩
    have acc0 : Below w.heap.size w w0 := by (repeat (first | exact Below.refl _ _ | (refine Below.setCell ?_ (by first | omega | (simp; done) | (simp; omega)) _) | (refine Below.alloc ?_ (by first | omega | (simp; done) | (simp; omega)) _) | (refine Below.trans ?_ (Below.mono hb (by first | omega | (simp; done) | (simp; omega))))))
    obtain ⟨u0, u1, _, _⟩ := (Blk.kept (w := _) (g := w.heap.size) (cs := [.int .i64 ax, .int .i64 ay]) (t := 31) (((((Blk.new _ _ _ rfl).alloc _).alloc _).alloc _).alloc _) hb).two
    obtain ⟨u2, u3, _, _⟩ := (Blk.kept (w := _) (g := w.heap.size + 1) (cs := [.int .i64 bx, .int .i64 by']) (t := 31) ((((Blk.new _ _ _ (by simp)).alloc _).alloc _).alloc _) hb).two
    obtain ⟨u4, u5, _, _⟩ := (Blk.kept (w := _) (g := w.heap.size + 1 + 1) (cs := [.int .i64 cx, .int .i64 cy]) (t := 31) (((Blk.new _ _ _ (by simp)).alloc _).alloc _) hb).two
    obtain ⟨u6, u7, _, _⟩ := (Blk.kept (w := _) (g := w.heap.size + 1 + 1 + 1) (cs := [.int .i64 dx, .int .i64 dy]) (t := 31) ((Blk.new _ _ _ (by simp)).alloc _) hb).two
    clear hb
    go_wp2_with fail
    refine (Ht.out _).mono ?_
    rintro e w1 ⟨rfl, hb1⟩
    go_wp2
    go_ret2
    exact ⟨rfl, below_step acc0 hb1⟩
  · rw [if_neg h]
    have he : errB (inP ax ay && inP bx by' && inP cx cy && inP dx dy) = 6 := by unfold errB; rw [if_neg h]
    have He := Lib.hid he
    clear he h
    go_enter Try.func63, Try.ntmps63
    go_wp2_with fail
    refine (check_four ax ay bx by' cx cy dx dy _ _ _ (by simp) 6 He.out).mono ?_
    rintro e w0 ⟨rfl, hb⟩
    go_wp2
    go_ret2
    exact ⟨rfl, by (repeat (first | exact Below.refl _ _ | (refine Below.setCell ?_ (by first | omega | (simp; done) | (simp; omega)) _) | (refine Below.alloc ?_ (by first | omega | (simp; done) | (simp; omega)) _) | (refine Below.trans ?_ (Below.mono hb (by first | omega | (simp; done) | (simp; omega))))))⟩
end Go.Proofs.Ytklkkehhmmipeaa
