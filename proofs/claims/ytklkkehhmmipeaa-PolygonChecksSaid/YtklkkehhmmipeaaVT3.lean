/- How many points two segments of one line have in common. -/
import Derived.Test.YtklkkehhmmipeaaVT1
namespace Go.Proofs.Ytklkkehhmmipeaa
open Go.RowKit
attribute [local go_sem ↓] Go.wp_at_zero Go.wp_at_succ

abbrev PTT : Nat := 31
theorem Blk.open2 {w : World} {g : Nat} {u v : Value} {t : TypeId} (h : Blk w g [u, v] t) : w.cell? ⟨g, 0, none⟩ = some u ∧ w.cell? ⟨g, 1, none⟩ = some v ∧ w.frozen? ⟨g, 0, none⟩ = false ∧ w.frozen? ⟨g, 1, none⟩ = false ∧ g < w.heap.size :=
  ⟨h.two.1, h.two.2.1, h.two.2.2.1, h.two.2.2.2, h.lt⟩

set_option maxHeartbeats 16000000 in
theorem overlap_any (a b c d : P2) (w : World) :
    Calls Try.prog 77 #[v2 a.1 a.2, v2 b.1 b.2, v2 c.1 c.2, v2 d.1 d.2] w fun e w' => e = .returned (.int .i64 (overM a b c d)) ∧ Below w.heap.size w w' := by
  obtain ⟨m1, h1⟩ : ∃ p, p = minP a b := ⟨_, rfl⟩
  obtain ⟨n1, k1⟩ : ∃ p, p = maxP a b := ⟨_, rfl⟩
  obtain ⟨m2, h2⟩ : ∃ p, p = minP c d := ⟨_, rfl⟩
  obtain ⟨n2, k2⟩ : ∃ p, p = maxP c d := ⟨_, rfl⟩
  obtain ⟨f1, hf1⟩ : ∃ p, p = minP m1 m2 := ⟨_, rfl⟩
  obtain ⟨f, hf⟩ : ∃ p, p = maxP m1 m2 := ⟨_, rfl⟩
  obtain ⟨t, ht⟩ : ∃ p, p = minP n1 n2 := ⟨_, rfl⟩
  obtain ⟨t1, ht1⟩ : ∃ p, p = maxP n1 n2 := ⟨_, rfl⟩
  obtain ⟨v, hv⟩ : ∃ v, v = cmpP t f := ⟨_, rfl⟩
  have hbd : -1 ≤ v ∧ v ≤ 1 := by rcases cmpP_cases t f with ⟨_, e⟩ | ⟨_, e⟩ | ⟨_, e⟩ <;> omega
  have hend : overM a b c d = 1 + v := by unfold overM; rw [← h1, ← h2, ← k1, ← k2, ← hf, ← ht, ← hv]
  rw [hend]
  have O1 : ∀ W, Calls Try.prog 91 #[v2 a.1 a.2, v2 b.1 b.2] W fun e w' => e = .returned (.tuple #[v2 m1.1 m1.2, v2 n1.1 n1.2]) ∧ Below W.heap.size W w' := fun W => by rw [h1, k1]; exact ordered_any a b W
  have O2 : ∀ W, Calls Try.prog 91 #[v2 c.1 c.2, v2 d.1 d.2] W fun e w' => e = .returned (.tuple #[v2 m2.1 m2.2, v2 n2.1 n2.2]) ∧ Below W.heap.size W w' := fun W => by rw [h2, k2]; exact ordered_any c d W
  have O3 : ∀ W, Calls Try.prog 91 #[v2 m1.1 m1.2, v2 m2.1 m2.2] W fun e w' => e = .returned (.tuple #[v2 f1.1 f1.2, v2 f.1 f.2]) ∧ Below W.heap.size W w' := fun W => by rw [hf1, hf]; exact ordered_any m1 m2 W
  have O4 : ∀ W, Calls Try.prog 91 #[v2 n1.1 n1.2, v2 n2.1 n2.2] W fun e w' => e = .returned (.tuple #[v2 t.1 t.2, v2 t1.1 t1.2]) ∧ Below W.heap.size W w' := fun W => by rw [ht, ht1]; exact ordered_any n1 n2 W
  have O5 : ∀ W, Calls Try.prog 64 #[v3 t.1 t.2 0, v3 f.1 f.2 0] W fun e w' => e = .returned (.int .i64 v) ∧ Below W.heap.size W w' := fun W => compare_flat t f v W hv.symm
  have H1 := Lib.hid O1
  have H2 := Lib.hid O2
  have H3 := Lib.hid O3
  have H4 := Lib.hid O4
  have H5 := Lib.hid O5
  obtain ⟨hb1, hb2⟩ := hbd
  clear O1 O2 O3 O4 O5 hend hv h1 k1 h2 k2 hf1 hf ht ht1
  obtain ⟨a1, a2⟩ := a
  obtain ⟨b1, b2⟩ := b
  obtain ⟨c1, c2⟩ := c
  obtain ⟨d1, d2⟩ := d
  obtain ⟨m11, m12⟩ := m1
  obtain ⟨n11, n12⟩ := n1
  obtain ⟨m21, m22⟩ := m2
  obtain ⟨n21, n22⟩ := n2
  obtain ⟨f11, f12⟩ := f1
  obtain ⟨fx, fy⟩ := f
  obtain ⟨tx, ty⟩ := t
  obtain ⟨t11, t12⟩ := t1
  dsimp only at H1 H2 H3 H4 H5 ⊢
  have hw : IntKind.i64.wrap (1 + v) = 1 + v := IntWalk.i64_in _ (by omega)
  go_enter Try.func77, Try.ntmps77
  go_wp2_with fail
  refine (H1.out _).mono ?_
  rintro e w1 ⟨rfl, hw1⟩
  have pc1 : Blk w1 (w.heap.size + 1 + 1) [.int .i64 c1, .int .i64 c2] 31 := Blk.kept ((Blk.new _ _ _ (by simp)).alloc _) hw1
  have pd1 : Blk w1 (w.heap.size + 1 + 1 + 1) [.int .i64 d1, .int .i64 d2] 31 := Blk.kept (Blk.new _ _ _ (by simp)) hw1
  have acc1 : Below w.heap.size w w1 := by (repeat (first | exact Below.refl _ _ | (refine Below.setCell ?_ (by first | omega | (simp; done) | (simp; omega)) _) | (refine Below.alloc ?_ (by first | omega | (simp; done) | (simp; omega)) _) | (refine Below.trans ?_ (Below.mono hw1 (by first | omega | (simp; done) | (simp; omega))))))
  have z1 := acc1.size
  obtain ⟨_, _, _, _, l1⟩ := pc1.open2
  obtain ⟨_, _, _, _, l2⟩ := pd1.open2
  obtain ⟨e1, e2, _, _⟩ := ((pc1.alloc (.cells #[.int .i64 m11, .int .i64 m12] 31)).alloc (.cells #[.int .i64 n11, .int .i64 n12] 31)).two
  obtain ⟨e3, e4, _, _⟩ := ((pd1.alloc (.cells #[.int .i64 m11, .int .i64 m12] 31)).alloc (.cells #[.int .i64 n11, .int .i64 n12] 31)).two
  go_wp2_with fail
  refine (H2.out _).mono ?_
  rintro e w2 ⟨rfl, hw2⟩
  have pf2 : Blk w2 w1.heap.size [.int .i64 m11, .int .i64 m12] 31 := Blk.kept ((Blk.new _ _ _ rfl).alloc _) hw2
  have pt2 : Blk w2 (w1.heap.size + 1) [.int .i64 n11, .int .i64 n12] 31 := Blk.kept (Blk.new _ _ _ (by simp)) hw2
  have acc2 : Below w.heap.size w w2 := below_step ((acc1.alloc z1 _).alloc (by simp; omega) _) hw2
  have z2 := acc2.size
  clear e1 e2 e3 e4
  obtain ⟨e1, e2, _, _, l3⟩ := pf2.open2
  obtain ⟨e3, e4, _, _, l4⟩ := pt2.open2
  have pf2' := (pf2.alloc (.cells #[.int .i64 m21, .int .i64 m22] 31)).alloc (.cells #[.int .i64 n21, .int .i64 n22] 31)
  have pt2' := (pt2.alloc (.cells #[.int .i64 m21, .int .i64 m22] 31)).alloc (.cells #[.int .i64 n21, .int .i64 n22] 31)
  go_wp2_with fail
  refine (H3.out _).mono ?_
  rintro e w3 ⟨rfl, hw3⟩
  have pf3 := pf2'.kept hw3
  have pt3 := pt2'.kept hw3
  have pg3 : Blk w3 (w2.heap.size + 1) [.int .i64 n21, .int .i64 n22] 31 := Blk.kept (Blk.new _ _ _ (by simp)) hw3
  have acc3 : Below w.heap.size w w3 := below_step ((acc2.alloc z2 _).alloc (by simp; omega) _) hw3
  have z3 := acc3.size
  clear e1 e2 e3 e4 pf2' pt2' pf2 pt2
  obtain ⟨e1, e2, e3, e4, l5⟩ := pf3.open2
  obtain ⟨e5, e6, e7, e8, l6⟩ := pt3.open2
  obtain ⟨e9, e10, _, _, l7⟩ := pg3.open2
  have pf3' := pf3.set2 (.int .i64 fx) (.int .i64 fy)
  have pt3' : Blk ((w3.setCell ⟨w1.heap.size, 0, none⟩ (.int .i64 fx)).setCell ⟨w1.heap.size, 1, none⟩ (.int .i64 fy)) (w1.heap.size + 1) [.int .i64 n11, .int .i64 n12] 31 := (pt3.far (by simp) _).far (by simp) _
  go_wp2_with fail
  refine (H4.out _).mono ?_
  rintro e w4 ⟨rfl, hw4⟩
  have pf4 := pf3'.kept hw4
  have pt4 := pt3'.kept hw4
  have acc4 : Below w.heap.size w w4 := below_step ((acc3.setCell (by simp; omega) _).setCell (by simp; omega) _) hw4
  have z4 := acc4.size
  clear e1 e2 e3 e4 e5 e6 e7 e8 e9 e10 pf3' pt3' pf3 pt3
  obtain ⟨e1, e2, e3, e4, l8⟩ := pf4.open2
  obtain ⟨e5, e6, e7, e8, l9⟩ := pt4.open2
  have b0 := pt4.set2 (.int .i64 tx) (.int .i64 ty)
  have b1 : Blk ((w4.setCell ⟨w1.heap.size + 1, 0, none⟩ (.int .i64 tx)).setCell ⟨w1.heap.size + 1, 1, none⟩ (.int .i64 ty)) w1.heap.size [.int .i64 fx, .int .i64 fy] 31 := (pf4.far (by simp) _).far (by simp) _
  have acc5 : Below w.heap.size w ((w4.setCell ⟨w1.heap.size + 1, 0, none⟩ (.int .i64 tx)).setCell ⟨w1.heap.size + 1, 1, none⟩ (.int .i64 ty)) := (acc4.setCell (by simp; omega) _).setCell (by simp; omega) _
  go_wp2_with fail
  go_region_held3 (fun w' => w'.cell? ⟨w1.heap.size + 1, 0, none⟩ = some (.int .i64 tx) ∧ w'.cell? ⟨w1.heap.size + 1, 1, none⟩ = some (.int .i64 ty) ∧ w'.cell? ⟨w1.heap.size, 0, none⟩ = some (.int .i64 fx) ∧ w'.cell? ⟨w1.heap.size, 1, none⟩ = some (.int .i64 fy))
    (first | (refine ⟨?_, ?_, ?_, ?_⟩ <;> with_reducible assumption) | (refine ⟨Blk.cell (cs := [.int .i64 tx, .int .i64 ty]) (t := 31) ?_ 0 rfl, Blk.cell (cs := [.int .i64 tx, .int .i64 ty]) (t := 31) ?_ 1 rfl, Blk.cell (cs := [.int .i64 fx, .int .i64 fy]) (t := 31) ?_ 0 rfl, Blk.cell (cs := [.int .i64 fx, .int .i64 fy]) (t := 31) ?_ 1 rfl⟩ <;> ((try simp only [Blk.drew_iff]); (try simp only [Blk.drewN_iff]); (try simp only [Blk.drew_iff]); repeat (first | with_reducible assumption | with_reducible exact Blk.new _ _ _ (by first | rfl | (simp; done) | (simp; omega)) | with_reducible refine Blk.alloc ?_ _ | with_reducible refine Blk.far ?_ (by first | (simp; done) | (simp; omega) | omega) _))) | go_keep | (refine ⟨?_, ?_, ?_, ?_⟩ <;> go_keep))
    (first
      | (go_at_call 64; (have tok := hbq2; clear tok); (fail_if_success (have tok := hbq3)); refine (H5.out _).mono ?_; rintro e wq3 ⟨rfl, hbq3⟩; have accq3 : Below w.heap.size w wq3 := below_step (by ((try simp only [Below.drew_iff]); (try simp only [Below.drewN_iff]); (try simp only [Below.drew_iff]); first | with_reducible assumption | with_reducible exact Below.refl _ _ | (with_reducible refine Below.alloc ?_ (by first | omega | (simp; done) | (simp; omega)) _; first | with_reducible assumption | with_reducible exact Below.refl _ _ | (with_reducible refine Below.alloc ?_ (by first | omega | (simp; done) | (simp; omega)) _; first | with_reducible assumption | with_reducible exact Below.refl _ _ | (with_reducible refine Below.alloc ?_ (by first | omega | (simp; done) | (simp; omega)) _; first | with_reducible exact Below.refl _ _ | (with_reducible refine Below.alloc ?_ (by first | omega | (simp; done) | (simp; omega)) _; with_reducible exact Below.refl _ _)))))) hbq3; have zzq3 := accq3.size; have Aq0_3 : Blk wq3 (w1.heap.size + 1) [.int .i64 tx, .int .i64 ty] 31 := Blk.kept (by ((try simp only [Blk.drew_iff]); (try simp only [Blk.drewN_iff]); (try simp only [Blk.drew_iff]); first | with_reducible assumption | with_reducible exact Blk.new _ _ _ (by first | rfl | (simp; done) | (simp; omega)) | (with_reducible refine Blk.alloc ?_ _; first | with_reducible assumption | with_reducible exact Blk.new _ _ _ (by first | rfl | (simp; done) | (simp; omega)) | (with_reducible refine Blk.alloc ?_ _; with_reducible assumption)))) hbq3; obtain ⟨aq0_3_0, aq0_3_1, aq0_3_2, aq0_3_3⟩ := Aq0_3.two; have lAq0_3 := Aq0_3.lt; have Aq1_3 : Blk wq3 (w1.heap.size) [.int .i64 fx, .int .i64 fy] 31 := Blk.kept (by ((try simp only [Blk.drew_iff]); (try simp only [Blk.drewN_iff]); (try simp only [Blk.drew_iff]); first | with_reducible assumption | with_reducible exact Blk.new _ _ _ (by first | rfl | (simp; done) | (simp; omega)) | (with_reducible refine Blk.alloc ?_ _; first | with_reducible assumption | with_reducible exact Blk.new _ _ _ (by first | rfl | (simp; done) | (simp; omega)) | (with_reducible refine Blk.alloc ?_ _; with_reducible assumption)))) hbq3; obtain ⟨aq1_3_0, aq1_3_1, aq1_3_2, aq1_3_3⟩ := Aq1_3.two; have lAq1_3 := Aq1_3.lt)
      | (go_at_call 73; (have tok := hbq1; clear tok); (fail_if_success (have tok := hbq2)); refine (flat_any _ _ _).mono ?_; rintro e wq2 ⟨rfl, hbq2⟩; have accq2 : Below w.heap.size w wq2 := below_step (by ((try simp only [Below.drew_iff]); (try simp only [Below.drewN_iff]); (try simp only [Below.drew_iff]); first | with_reducible assumption | with_reducible exact Below.refl _ _ | (with_reducible refine Below.alloc ?_ (by first | omega | (simp; done) | (simp; omega)) _; first | with_reducible assumption | with_reducible exact Below.refl _ _ | (with_reducible refine Below.alloc ?_ (by first | omega | (simp; done) | (simp; omega)) _; first | with_reducible assumption | with_reducible exact Below.refl _ _ | (with_reducible refine Below.alloc ?_ (by first | omega | (simp; done) | (simp; omega)) _; first | with_reducible exact Below.refl _ _ | (with_reducible refine Below.alloc ?_ (by first | omega | (simp; done) | (simp; omega)) _; with_reducible exact Below.refl _ _)))))) hbq2; have zzq2 := accq2.size; have Aq0_2 : Blk wq2 (w1.heap.size + 1) [.int .i64 tx, .int .i64 ty] 31 := Blk.kept (by ((try simp only [Blk.drew_iff]); (try simp only [Blk.drewN_iff]); (try simp only [Blk.drew_iff]); first | with_reducible assumption | with_reducible exact Blk.new _ _ _ (by first | rfl | (simp; done) | (simp; omega)) | (with_reducible refine Blk.alloc ?_ _; first | with_reducible assumption | with_reducible exact Blk.new _ _ _ (by first | rfl | (simp; done) | (simp; omega)) | (with_reducible refine Blk.alloc ?_ _; with_reducible assumption)))) hbq2; obtain ⟨aq0_2_0, aq0_2_1, aq0_2_2, aq0_2_3⟩ := Aq0_2.two; have lAq0_2 := Aq0_2.lt; have Aq1_2 : Blk wq2 (w1.heap.size) [.int .i64 fx, .int .i64 fy] 31 := Blk.kept (by ((try simp only [Blk.drew_iff]); (try simp only [Blk.drewN_iff]); (try simp only [Blk.drew_iff]); first | with_reducible assumption | with_reducible exact Blk.new _ _ _ (by first | rfl | (simp; done) | (simp; omega)) | (with_reducible refine Blk.alloc ?_ _; first | with_reducible assumption | with_reducible exact Blk.new _ _ _ (by first | rfl | (simp; done) | (simp; omega)) | (with_reducible refine Blk.alloc ?_ _; with_reducible assumption)))) hbq2; obtain ⟨aq1_2_0, aq1_2_1, aq1_2_2, aq1_2_3⟩ := Aq1_2.two; have lAq1_2 := Aq1_2.lt)
      | (go_at_call 73; (fail_if_success (have tok := hbq1)); refine (flat_any _ _ _).mono ?_; rintro e wq1 ⟨rfl, hbq1⟩; have accq1 : Below w.heap.size w wq1 := below_step (by ((try simp only [Below.drew_iff]); (try simp only [Below.drewN_iff]); (try simp only [Below.drew_iff]); first | with_reducible assumption | with_reducible exact Below.refl _ _ | (with_reducible refine Below.alloc ?_ (by first | omega | (simp; done) | (simp; omega)) _; first | with_reducible assumption | with_reducible exact Below.refl _ _ | (with_reducible refine Below.alloc ?_ (by first | omega | (simp; done) | (simp; omega)) _; first | with_reducible assumption | with_reducible exact Below.refl _ _ | (with_reducible refine Below.alloc ?_ (by first | omega | (simp; done) | (simp; omega)) _; first | with_reducible exact Below.refl _ _ | (with_reducible refine Below.alloc ?_ (by first | omega | (simp; done) | (simp; omega)) _; with_reducible exact Below.refl _ _)))))) hbq1; have zzq1 := accq1.size; have Aq0_1 : Blk wq1 (w1.heap.size + 1) [.int .i64 tx, .int .i64 ty] 31 := Blk.kept (by ((try simp only [Blk.drew_iff]); (try simp only [Blk.drewN_iff]); (try simp only [Blk.drew_iff]); first | with_reducible assumption | with_reducible exact Blk.new _ _ _ (by first | rfl | (simp; done) | (simp; omega)) | (with_reducible refine Blk.alloc ?_ _; first | with_reducible assumption | with_reducible exact Blk.new _ _ _ (by first | rfl | (simp; done) | (simp; omega)) | (with_reducible refine Blk.alloc ?_ _; with_reducible assumption)))) hbq1; obtain ⟨aq0_1_0, aq0_1_1, aq0_1_2, aq0_1_3⟩ := Aq0_1.two; have lAq0_1 := Aq0_1.lt; have Aq1_1 : Blk wq1 (w1.heap.size) [.int .i64 fx, .int .i64 fy] 31 := Blk.kept (by ((try simp only [Blk.drew_iff]); (try simp only [Blk.drewN_iff]); (try simp only [Blk.drew_iff]); first | with_reducible assumption | with_reducible exact Blk.new _ _ _ (by first | rfl | (simp; done) | (simp; omega)) | (with_reducible refine Blk.alloc ?_ _; first | with_reducible assumption | with_reducible exact Blk.new _ _ _ (by first | rfl | (simp; done) | (simp; omega)) | (with_reducible refine Blk.alloc ?_ _; with_reducible assumption)))) hbq1; obtain ⟨aq1_1_0, aq1_1_1, aq1_1_2, aq1_1_3⟩ := Aq1_1.two; have lAq1_1 := Aq1_1.lt))
  go_wp2
  go_ret
  exact ⟨rfl, by assumption⟩
end Go.Proofs.Ytklkkehhmmipeaa
