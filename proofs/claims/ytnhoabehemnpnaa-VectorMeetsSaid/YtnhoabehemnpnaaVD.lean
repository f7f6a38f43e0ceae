/- Check, Add, Sub, Dot and Distance of package vector. -/
import Derived.Test.YtnhoabehemnpnaaVC
namespace Go.Proofs.Ytnhoabehemnpnaa
open Go.RowKit
attribute [local go_sem ↓] Go.wp_at_zero Go.wp_at_succ

theorem vecs_one (w : World) (x y z : Int) (t : TypeId) {g B : Nat} (hg : w.heap.size = g) (hB : g < B) : Vecs (w.alloc (.cells #[.int .i64 x, .int .i64 y, .int .i64 z] t)) B (some ⟨g, 0, none⟩) 1 [(x, y, z)] := by
  subst hg
  refine ⟨rfl, _, _, rfl, hB, fun k u hu => ?_⟩
  match k, hu with
  | 0, hu => simp at hu; subst hu; simp
theorem vecs_two (w : World) (x y z x' y' z' : Int) (t : TypeId) {g B : Nat} (hg : w.heap.size = g) (hB : g < B) : Vecs (w.alloc (.cells #[.int .i64 x, .int .i64 y, .int .i64 z, .int .i64 x', .int .i64 y', .int .i64 z'] t)) B (some ⟨g, 0, none⟩) 2 [(x, y, z), (x', y', z')] := by
  subst hg
  refine ⟨rfl, _, _, rfl, hB, fun k u hu => ?_⟩
  match k, hu with
  | 0, hu => simp at hu; subst hu; simp
  | 1, hu => simp at hu; subst hu; simp
theorem check_one (x y z : Int) (c : Nat) (w : World) (t : TypeId) {g : Nat} (hg : w.heap.size = g) :
    Calls Try.prog 37 #[.slice (some ⟨g, 0, none⟩) 1 c] (w.alloc (.cells #[.int .i64 x, .int .i64 y, .int .i64 z] t)) fun e w' => e = .returned (.int .i64 (errB (inV x y z))) ∧ Below (w.alloc (.cells #[.int .i64 x, .int .i64 y, .int .i64 z] t)).heap.size (w.alloc (.cells #[.int .i64 x, .int .i64 y, .int .i64 z] t)) w' := by
  have h := checkAll_any (some ⟨g, 0, none⟩) 1 c [(x, y, z)] _ (vecs_one w x y z t hg (by simp; omega)) (by omega)
  simpa using h
theorem check_two (x y z x' y' z' : Int) (c : Nat) (w : World) (t : TypeId) {g : Nat} (hg : w.heap.size = g) :
    Calls Try.prog 37 #[.slice (some ⟨g, 0, none⟩) 2 c] (w.alloc (.cells #[.int .i64 x, .int .i64 y, .int .i64 z, .int .i64 x', .int .i64 y', .int .i64 z'] t)) fun e w' => e = .returned (.int .i64 (errB (inV x y z && inV x' y' z'))) ∧ Below (w.alloc (.cells #[.int .i64 x, .int .i64 y, .int .i64 z, .int .i64 x', .int .i64 y', .int .i64 z'] t)).heap.size (w.alloc (.cells #[.int .i64 x, .int .i64 y, .int .i64 z, .int .i64 x', .int .i64 y', .int .i64 z'] t)) w' := by
  have h := checkAll_any (some ⟨g, 0, none⟩) 2 c [(x, y, z), (x', y', z')] _ (vecs_two w x y z x' y' z' t hg (by simp; omega)) (by omega)
  simpa using h

theorem vcheck_any (x y z : Int) (w : World) :
    Calls Try.prog 15 #[v3 x y z] w fun e w' => e = .returned (.int .i64 (errB (inV x y z))) ∧ Below w.heap.size w w' := by
  go_enter Try.func15, Try.ntmps15
  go_wp2_with fail
  refine (check_one x y z _ _ _ (by simp)).mono ?_
  rintro e w1 ⟨rfl, hb⟩
  go_wp2
  go_ret
  exact ⟨rfl, by (repeat (first | exact Below.refl _ _ | (refine Below.setCell ?_ (by first | omega | (simp; done) | (simp; omega)) _) | (refine Below.alloc ?_ (by first | omega | (simp; done) | (simp; omega)) _) | (refine Below.trans ?_ (Below.mono hb (by first | omega | (simp; done) | (simp; omega))))))⟩

/-- Two vectors, in range or not. -/
theorem two_cases (a b : Bool) : (a && b) = true ∧ a = true ∧ b = true ∨ (a && b) = false := by cases a <;> cases b <;> simp

abbrev V3T : Nat := 23
/-- What is left behind the check of two vectors: their variables. -/
theorem combine_out (x y z x' y' z' t : Int) (w : World) (h : (inV x y z && inV x' y' z') = false) :
    Calls Try.prog 36 #[v3 x y z, v3 x' y' z', .int .i64 t] w fun e w' => e = .returned (.tuple #[v3 0 0 0, .int .i64 6]) ∧ Below w.heap.size w w' := by
  have he : errB (inV x y z && inV x' y' z') = 6 := by rw [h]; rfl
  have He := Lib.hid he
  clear he h
  go_enter Try.func36, Try.ntmps36
  go_wp2_with fail
  refine (check_two x y z x' y' z' _ _ _ (by simp)).mono ?_
  rw [He.out]
  rintro e w1 ⟨rfl, hb⟩
  obtain ⟨r0, r1, r2, s0, s1, s2⟩ := (Blk.kept (w := _) (g := w.heap.size + 1 + 1) (cs := [.int .i64 0, .int .i64 0, .int .i64 0]) (t := 23) ((Blk.new _ _ _ (by simp)).alloc _) hb).three
  go_wp2
  exact bodyPost_ret (v := .tuple #[v3 0 0 0, .int .i64 6]) (by simp [results, Try.results36, go_sem, r0, r1, r2]) rfl ⟨rfl, by (repeat (first | exact Below.refl _ _ | (refine Below.setCell ?_ (by first | omega | (simp; done) | (simp; omega)) _) | (refine Below.alloc ?_ (by first | omega | (simp; done) | (simp; omega)) _) | (refine Below.trans ?_ (Below.mono hb (by first | omega | (simp; done) | (simp; omega))))))⟩

set_option maxHeartbeats 8000000 in
theorem combine_in (x y z x' y' z' t : Int) (w : World) (h1 : inV x y z = true) (h2 : inV x' y' z' = true) (ht : t = 1 ∨ t = -1) :
    Calls Try.prog 36 #[v3 x y z, v3 x' y' z', .int .i64 t] w fun e w' => e = .returned (if inV (x + t * x') (y + t * y') (z + t * z') = true then .tuple #[v3 (x + t * x') (y + t * y') (z + t * z'), .int .i64 0] else .tuple #[v3 0 0 0, .int .i64 6]) ∧ Below w.heap.size w w' := by
  have he : errB (inV x y z && inV x' y' z') = 0 := by rw [h1, h2]; rfl
  obtain ⟨⟨a1, a2⟩, ⟨a3, a4⟩, a5, a6⟩ := inV_true h1
  have k : ∀ u : Int, -1000000 ≤ u → u ≤ 1000000 → -1000000 ≤ t * u ∧ t * u ≤ 1000000 := by
    intro u hu hu'
    rcases ht with rfl | rfl <;> omega
  obtain ⟨⟨e1, e2⟩, ⟨e3, e4⟩, e5, e6⟩ := inV_true h2
  obtain ⟨b1, b2⟩ := k x' e1 e2
  obtain ⟨b3, b4⟩ := k y' e3 e4
  obtain ⟨b5, b6⟩ := k z' e5 e6
  clear e1 e2 e3 e4 e5 e6 k ht h1 h2
  have He := Lib.hid he
  clear he
  obtain ⟨sx, hsx⟩ : ∃ s, s = x + t * x' := ⟨_, rfl⟩
  obtain ⟨sy, hsy⟩ : ∃ s, s = y + t * y' := ⟨_, rfl⟩
  obtain ⟨sz, hsz⟩ : ∃ s, s = z + t * z' := ⟨_, rfl⟩
  have hplus : ∀ W, Calls Try.prog 43 #[v3 x y z, v3 x' y' z', .int .i64 t] W fun e w' => e = .returned (v3 sx sy sz) ∧ Below W.heap.size W w' := fun W => by
    rw [hsx, hsy, hsz]
    exact plus_any _ _ _ _ _ _ _ _ (by omega) (by omega) (by omega) (by omega) (by omega) (by omega) (by omega) (by omega) (by omega) (by omega) (by omega) (by omega)
  rw [← hsx, ← hsy, ← hsz]
  obtain ⟨V, hV⟩ : ∃ V, V = if inV sx sy sz = true then (.tuple #[v3 sx sy sz, .int .i64 0] : Value) else .tuple #[v3 0 0 0, .int .i64 6] := ⟨_, rfl⟩
  rw [← hV]
  have HV := Lib.hid hV
  clear hV
  have Hplus := Lib.hid hplus
  clear hplus hsx hsy hsz a1 a2 a3 a4 a5 a6 b1 b2 b3 b4 b5 b6
  go_enter Try.func36, Try.ntmps36
  go_wp2_with fail
  refine (check_two x y z x' y' z' _ _ _ (by simp)).mono ?_
  rw [He.out]
  rintro e w0 ⟨rfl, hb⟩
  have b0 : Blk w0 w.heap.size [.int .i64 x, .int .i64 y, .int .i64 z] 23 := Blk.kept ((((Blk.new _ _ _ rfl).alloc _).alloc _).alloc _) hb
  have b1 : Blk w0 (w.heap.size + 1) [.int .i64 x', .int .i64 y', .int .i64 z'] 23 := Blk.kept (((Blk.new _ _ _ (by simp)).alloc _).alloc _) hb
  have b2 : Blk w0 (w.heap.size + 1 + 1) [.int .i64 0, .int .i64 0, .int .i64 0] 23 := Blk.kept ((Blk.new _ _ _ (by simp)).alloc _) hb
  have acc0 : Below w.heap.size w w0 := by (repeat (first | exact Below.refl _ _ | (refine Below.setCell ?_ (by first | omega | (simp; done) | (simp; omega)) _) | (refine Below.alloc ?_ (by first | omega | (simp; done) | (simp; omega)) _) | (refine Below.trans ?_ (Below.mono hb (by first | omega | (simp; done) | (simp; omega))))))
  have zz0 := acc0.size
  have l0 := b0.lt
  have l1 := b1.lt
  have l2 := b2.lt
  clear hb
  go_upto_region 4 with fail
  go_cut [9] (fun s9 wx => ∃ g : Nat, s9 = .pointer (some ⟨g, 0, none⟩) ∧ Blk wx g [.int .i64 sx, .int .i64 sy, .int .i64 sz] 23 ∧ Blk wx (w.heap.size + 1 + 1) [.int .i64 0, .int .i64 0, .int .i64 0] 23 ∧ Below w.heap.size w wx)
  case first =>
    go_region_held3 (fun w' => w'.cell? ⟨w.heap.size, 0, none⟩ = some (.int .i64 x) ∧ w'.cell? ⟨w.heap.size, 1, none⟩ = some (.int .i64 y) ∧ w'.cell? ⟨w.heap.size, 2, none⟩ = some (.int .i64 z) ∧ w'.cell? ⟨w.heap.size + 1, 0, none⟩ = some (.int .i64 x') ∧ w'.cell? ⟨w.heap.size + 1, 1, none⟩ = some (.int .i64 y') ∧ w'.cell? ⟨w.heap.size + 1, 2, none⟩ = some (.int .i64 z') ∧ w'.cell? ⟨w.heap.size + 1 + 1, 0, none⟩ = some (.int .i64 0) ∧ w'.cell? ⟨w.heap.size + 1 + 1, 1, none⟩ = some (.int .i64 0) ∧ w'.cell? ⟨w.heap.size + 1 + 1, 2, none⟩ = some (.int .i64 0))
      (first | (refine ⟨?_, ?_, ?_, ?_, ?_, ?_, ?_, ?_, ?_⟩ <;> with_reducible assumption) | (refine ⟨Blk.cell (cs := [.int .i64 x, .int .i64 y, .int .i64 z]) (t := 23) ?_ 0 rfl, Blk.cell (cs := [.int .i64 x, .int .i64 y, .int .i64 z]) (t := 23) ?_ 1 rfl, Blk.cell (cs := [.int .i64 x, .int .i64 y, .int .i64 z]) (t := 23) ?_ 2 rfl, Blk.cell (cs := [.int .i64 x', .int .i64 y', .int .i64 z']) (t := 23) ?_ 0 rfl, Blk.cell (cs := [.int .i64 x', .int .i64 y', .int .i64 z']) (t := 23) ?_ 1 rfl, Blk.cell (cs := [.int .i64 x', .int .i64 y', .int .i64 z']) (t := 23) ?_ 2 rfl, Blk.cell (cs := [.int .i64 0, .int .i64 0, .int .i64 0]) (t := 23) ?_ 0 rfl, Blk.cell (cs := [.int .i64 0, .int .i64 0, .int .i64 0]) (t := 23) ?_ 1 rfl, Blk.cell (cs := [.int .i64 0, .int .i64 0, .int .i64 0]) (t := 23) ?_ 2 rfl⟩ <;> ((try simp only [Blk.drew_iff]); (try simp only [Blk.drewN_iff]); (try simp only [Blk.drew_iff]); repeat (first | with_reducible assumption | with_reducible exact Blk.new _ _ _ (by first | rfl | (simp; done) | (simp; omega)) | with_reducible refine Blk.alloc ?_ _ | with_reducible refine Blk.far ?_ (by first | (simp; done) | (simp; omega) | omega) _))) | go_keep | (refine ⟨?_, ?_, ?_, ?_, ?_, ?_, ?_, ?_, ?_⟩ <;> go_keep))
      (first
        | (go_at_call 45; (have tok := hb3; clear tok); (fail_if_success (have tok := hb4)); refine (vectorOf_any _ _ _ _).mono ?_; rintro e w4 ⟨rfl, hb4⟩; have acc4 : Below w.heap.size w w4 := below_step (by ((try simp only [Below.drew_iff]); (try simp only [Below.drewN_iff]); (try simp only [Below.drew_iff]); first | with_reducible assumption | with_reducible exact Below.refl _ _ | (with_reducible refine Below.alloc ?_ (by first | omega | (simp; done) | (simp; omega)) _; first | with_reducible assumption | with_reducible exact Below.refl _ _ | (with_reducible refine Below.alloc ?_ (by first | omega | (simp; done) | (simp; omega)) _; first | with_reducible assumption | with_reducible exact Below.refl _ _ | (with_reducible refine Below.alloc ?_ (by first | omega | (simp; done) | (simp; omega)) _; first | with_reducible exact Below.refl _ _ | (with_reducible refine Below.alloc ?_ (by first | omega | (simp; done) | (simp; omega)) _; with_reducible exact Below.refl _ _)))))) hb4; have zz4 := acc4.size; have A0_4 : Blk w4 (w.heap.size) [.int .i64 x, .int .i64 y, .int .i64 z] 23 := Blk.kept (by ((try simp only [Blk.drew_iff]); (try simp only [Blk.drewN_iff]); (try simp only [Blk.drew_iff]); first | with_reducible assumption | with_reducible exact Blk.new _ _ _ (by first | rfl | (simp; done) | (simp; omega)) | (with_reducible refine Blk.alloc ?_ _; first | with_reducible assumption | with_reducible exact Blk.new _ _ _ (by first | rfl | (simp; done) | (simp; omega)) | (with_reducible refine Blk.alloc ?_ _; with_reducible assumption)))) hb4; obtain ⟨a0_4_0, a0_4_1, a0_4_2, a0_4_3, a0_4_4, a0_4_5⟩ := A0_4.three; have lA0_4 := A0_4.lt; have A1_4 : Blk w4 (w.heap.size + 1) [.int .i64 x', .int .i64 y', .int .i64 z'] 23 := Blk.kept (by ((try simp only [Blk.drew_iff]); (try simp only [Blk.drewN_iff]); (try simp only [Blk.drew_iff]); first | with_reducible assumption | with_reducible exact Blk.new _ _ _ (by first | rfl | (simp; done) | (simp; omega)) | (with_reducible refine Blk.alloc ?_ _; first | with_reducible assumption | with_reducible exact Blk.new _ _ _ (by first | rfl | (simp; done) | (simp; omega)) | (with_reducible refine Blk.alloc ?_ _; with_reducible assumption)))) hb4; obtain ⟨a1_4_0, a1_4_1, a1_4_2, a1_4_3, a1_4_4, a1_4_5⟩ := A1_4.three; have lA1_4 := A1_4.lt; have A2_4 : Blk w4 (w.heap.size + 1 + 1) [.int .i64 0, .int .i64 0, .int .i64 0] 23 := Blk.kept (by ((try simp only [Blk.drew_iff]); (try simp only [Blk.drewN_iff]); (try simp only [Blk.drew_iff]); first | with_reducible assumption | with_reducible exact Blk.new _ _ _ (by first | rfl | (simp; done) | (simp; omega)) | (with_reducible refine Blk.alloc ?_ _; first | with_reducible assumption | with_reducible exact Blk.new _ _ _ (by first | rfl | (simp; done) | (simp; omega)) | (with_reducible refine Blk.alloc ?_ _; with_reducible assumption)))) hb4; obtain ⟨a2_4_0, a2_4_1, a2_4_2, a2_4_3, a2_4_4, a2_4_5⟩ := A2_4.three; have lA2_4 := A2_4.lt; (try (refine Blk.go (g := w0.heap.size) (cs := [.int .i64 0, .int .i64 0, .int .i64 0]) (t := 23) hb4 ?_ ?_; (focus (((try simp only [Blk.drew_iff]); (try simp only [Blk.drewN_iff]); (try simp only [Blk.drew_iff]); first | with_reducible assumption | with_reducible exact Blk.new _ _ _ (by first | rfl | (simp; done) | (simp; omega)) | (with_reducible refine Blk.alloc ?_ _; first | with_reducible assumption | with_reducible exact Blk.new _ _ _ (by first | rfl | (simp; done) | (simp; omega)) | (with_reducible refine Blk.alloc ?_ _; with_reducible assumption))))); intro N0_0_4; obtain ⟨n0_0_4_0, n0_0_4_1, n0_0_4_2, n0_0_4_3, n0_0_4_4, n0_0_4_5⟩ := N0_0_4.three; have lN0_0_4 := N0_0_4.lt)); (try (refine Blk.go (g := w1.heap.size) (cs := [.int .i64 0, .int .i64 0, .int .i64 0]) (t := 23) hb4 ?_ ?_; (focus (((try simp only [Blk.drew_iff]); (try simp only [Blk.drewN_iff]); (try simp only [Blk.drew_iff]); first | with_reducible assumption | with_reducible exact Blk.new _ _ _ (by first | rfl | (simp; done) | (simp; omega)) | (with_reducible refine Blk.alloc ?_ _; first | with_reducible assumption | with_reducible exact Blk.new _ _ _ (by first | rfl | (simp; done) | (simp; omega)) | (with_reducible refine Blk.alloc ?_ _; with_reducible assumption))))); intro N1_0_4; obtain ⟨n1_0_4_0, n1_0_4_1, n1_0_4_2, n1_0_4_3, n1_0_4_4, n1_0_4_5⟩ := N1_0_4.three; have lN1_0_4 := N1_0_4.lt)); (try (refine Blk.go (g := w2.heap.size) (cs := [.int .i64 0, .int .i64 0, .int .i64 0]) (t := 23) hb4 ?_ ?_; (focus (((try simp only [Blk.drew_iff]); (try simp only [Blk.drewN_iff]); (try simp only [Blk.drew_iff]); first | with_reducible assumption | with_reducible exact Blk.new _ _ _ (by first | rfl | (simp; done) | (simp; omega)) | (with_reducible refine Blk.alloc ?_ _; first | with_reducible assumption | with_reducible exact Blk.new _ _ _ (by first | rfl | (simp; done) | (simp; omega)) | (with_reducible refine Blk.alloc ?_ _; with_reducible assumption))))); intro N2_0_4; obtain ⟨n2_0_4_0, n2_0_4_1, n2_0_4_2, n2_0_4_3, n2_0_4_4, n2_0_4_5⟩ := N2_0_4.three; have lN2_0_4 := N2_0_4.lt)); (try (refine Blk.go (g := w3.heap.size) (cs := [.int .i64 0, .int .i64 0, .int .i64 0]) (t := 23) hb4 ?_ ?_; (focus (((try simp only [Blk.drew_iff]); (try simp only [Blk.drewN_iff]); (try simp only [Blk.drew_iff]); first | with_reducible assumption | with_reducible exact Blk.new _ _ _ (by first | rfl | (simp; done) | (simp; omega)) | (with_reducible refine Blk.alloc ?_ _; first | with_reducible assumption | with_reducible exact Blk.new _ _ _ (by first | rfl | (simp; done) | (simp; omega)) | (with_reducible refine Blk.alloc ?_ _; with_reducible assumption))))); intro N3_0_4; obtain ⟨n3_0_4_0, n3_0_4_1, n3_0_4_2, n3_0_4_3, n3_0_4_4, n3_0_4_5⟩ := N3_0_4.three; have lN3_0_4 := N3_0_4.lt)))
        | (go_at_call 43; (have tok := hb2; clear tok); (fail_if_success (have tok := hb3)); refine (Hplus.out _).mono ?_; rintro e w3 ⟨rfl, hb3⟩; have acc3 : Below w.heap.size w w3 := below_step (by ((try simp only [Below.drew_iff]); (try simp only [Below.drewN_iff]); (try simp only [Below.drew_iff]); first | with_reducible assumption | with_reducible exact Below.refl _ _ | (with_reducible refine Below.alloc ?_ (by first | omega | (simp; done) | (simp; omega)) _; first | with_reducible assumption | with_reducible exact Below.refl _ _ | (with_reducible refine Below.alloc ?_ (by first | omega | (simp; done) | (simp; omega)) _; first | with_reducible assumption | with_reducible exact Below.refl _ _ | (with_reducible refine Below.alloc ?_ (by first | omega | (simp; done) | (simp; omega)) _; first | with_reducible exact Below.refl _ _ | (with_reducible refine Below.alloc ?_ (by first | omega | (simp; done) | (simp; omega)) _; with_reducible exact Below.refl _ _)))))) hb3; have zz3 := acc3.size; have A0_3 : Blk w3 (w.heap.size) [.int .i64 x, .int .i64 y, .int .i64 z] 23 := Blk.kept (by ((try simp only [Blk.drew_iff]); (try simp only [Blk.drewN_iff]); (try simp only [Blk.drew_iff]); first | with_reducible assumption | with_reducible exact Blk.new _ _ _ (by first | rfl | (simp; done) | (simp; omega)) | (with_reducible refine Blk.alloc ?_ _; first | with_reducible assumption | with_reducible exact Blk.new _ _ _ (by first | rfl | (simp; done) | (simp; omega)) | (with_reducible refine Blk.alloc ?_ _; with_reducible assumption)))) hb3; obtain ⟨a0_3_0, a0_3_1, a0_3_2, a0_3_3, a0_3_4, a0_3_5⟩ := A0_3.three; have lA0_3 := A0_3.lt; have A1_3 : Blk w3 (w.heap.size + 1) [.int .i64 x', .int .i64 y', .int .i64 z'] 23 := Blk.kept (by ((try simp only [Blk.drew_iff]); (try simp only [Blk.drewN_iff]); (try simp only [Blk.drew_iff]); first | with_reducible assumption | with_reducible exact Blk.new _ _ _ (by first | rfl | (simp; done) | (simp; omega)) | (with_reducible refine Blk.alloc ?_ _; first | with_reducible assumption | with_reducible exact Blk.new _ _ _ (by first | rfl | (simp; done) | (simp; omega)) | (with_reducible refine Blk.alloc ?_ _; with_reducible assumption)))) hb3; obtain ⟨a1_3_0, a1_3_1, a1_3_2, a1_3_3, a1_3_4, a1_3_5⟩ := A1_3.three; have lA1_3 := A1_3.lt; have A2_3 : Blk w3 (w.heap.size + 1 + 1) [.int .i64 0, .int .i64 0, .int .i64 0] 23 := Blk.kept (by ((try simp only [Blk.drew_iff]); (try simp only [Blk.drewN_iff]); (try simp only [Blk.drew_iff]); first | with_reducible assumption | with_reducible exact Blk.new _ _ _ (by first | rfl | (simp; done) | (simp; omega)) | (with_reducible refine Blk.alloc ?_ _; first | with_reducible assumption | with_reducible exact Blk.new _ _ _ (by first | rfl | (simp; done) | (simp; omega)) | (with_reducible refine Blk.alloc ?_ _; with_reducible assumption)))) hb3; obtain ⟨a2_3_0, a2_3_1, a2_3_2, a2_3_3, a2_3_4, a2_3_5⟩ := A2_3.three; have lA2_3 := A2_3.lt; (try (refine Blk.go (g := w0.heap.size) (cs := [.int .i64 0, .int .i64 0, .int .i64 0]) (t := 23) hb3 ?_ ?_; (focus (((try simp only [Blk.drew_iff]); (try simp only [Blk.drewN_iff]); (try simp only [Blk.drew_iff]); first | with_reducible assumption | with_reducible exact Blk.new _ _ _ (by first | rfl | (simp; done) | (simp; omega)) | (with_reducible refine Blk.alloc ?_ _; first | with_reducible assumption | with_reducible exact Blk.new _ _ _ (by first | rfl | (simp; done) | (simp; omega)) | (with_reducible refine Blk.alloc ?_ _; with_reducible assumption))))); intro N0_0_3; obtain ⟨n0_0_3_0, n0_0_3_1, n0_0_3_2, n0_0_3_3, n0_0_3_4, n0_0_3_5⟩ := N0_0_3.three; have lN0_0_3 := N0_0_3.lt)); (try (refine Blk.go (g := w1.heap.size) (cs := [.int .i64 0, .int .i64 0, .int .i64 0]) (t := 23) hb3 ?_ ?_; (focus (((try simp only [Blk.drew_iff]); (try simp only [Blk.drewN_iff]); (try simp only [Blk.drew_iff]); first | with_reducible assumption | with_reducible exact Blk.new _ _ _ (by first | rfl | (simp; done) | (simp; omega)) | (with_reducible refine Blk.alloc ?_ _; first | with_reducible assumption | with_reducible exact Blk.new _ _ _ (by first | rfl | (simp; done) | (simp; omega)) | (with_reducible refine Blk.alloc ?_ _; with_reducible assumption))))); intro N1_0_3; obtain ⟨n1_0_3_0, n1_0_3_1, n1_0_3_2, n1_0_3_3, n1_0_3_4, n1_0_3_5⟩ := N1_0_3.three; have lN1_0_3 := N1_0_3.lt)); (try (refine Blk.go (g := w2.heap.size) (cs := [.int .i64 0, .int .i64 0, .int .i64 0]) (t := 23) hb3 ?_ ?_; (focus (((try simp only [Blk.drew_iff]); (try simp only [Blk.drewN_iff]); (try simp only [Blk.drew_iff]); first | with_reducible assumption | with_reducible exact Blk.new _ _ _ (by first | rfl | (simp; done) | (simp; omega)) | (with_reducible refine Blk.alloc ?_ _; first | with_reducible assumption | with_reducible exact Blk.new _ _ _ (by first | rfl | (simp; done) | (simp; omega)) | (with_reducible refine Blk.alloc ?_ _; with_reducible assumption))))); intro N2_0_3; obtain ⟨n2_0_3_0, n2_0_3_1, n2_0_3_2, n2_0_3_3, n2_0_3_4, n2_0_3_5⟩ := N2_0_3.three; have lN2_0_3 := N2_0_3.lt)))
        | (go_at_call 39; (have tok := hb1; clear tok); (fail_if_success (have tok := hb2)); refine (coordinates_any _ _ _ _).mono ?_; rintro e w2 ⟨rfl, hb2⟩; have acc2 : Below w.heap.size w w2 := below_step (by ((try simp only [Below.drew_iff]); (try simp only [Below.drewN_iff]); (try simp only [Below.drew_iff]); first | with_reducible assumption | with_reducible exact Below.refl _ _ | (with_reducible refine Below.alloc ?_ (by first | omega | (simp; done) | (simp; omega)) _; first | with_reducible assumption | with_reducible exact Below.refl _ _ | (with_reducible refine Below.alloc ?_ (by first | omega | (simp; done) | (simp; omega)) _; first | with_reducible assumption | with_reducible exact Below.refl _ _ | (with_reducible refine Below.alloc ?_ (by first | omega | (simp; done) | (simp; omega)) _; first | with_reducible exact Below.refl _ _ | (with_reducible refine Below.alloc ?_ (by first | omega | (simp; done) | (simp; omega)) _; with_reducible exact Below.refl _ _)))))) hb2; have zz2 := acc2.size; have A0_2 : Blk w2 (w.heap.size) [.int .i64 x, .int .i64 y, .int .i64 z] 23 := Blk.kept (by ((try simp only [Blk.drew_iff]); (try simp only [Blk.drewN_iff]); (try simp only [Blk.drew_iff]); first | with_reducible assumption | with_reducible exact Blk.new _ _ _ (by first | rfl | (simp; done) | (simp; omega)) | (with_reducible refine Blk.alloc ?_ _; first | with_reducible assumption | with_reducible exact Blk.new _ _ _ (by first | rfl | (simp; done) | (simp; omega)) | (with_reducible refine Blk.alloc ?_ _; with_reducible assumption)))) hb2; obtain ⟨a0_2_0, a0_2_1, a0_2_2, a0_2_3, a0_2_4, a0_2_5⟩ := A0_2.three; have lA0_2 := A0_2.lt; have A1_2 : Blk w2 (w.heap.size + 1) [.int .i64 x', .int .i64 y', .int .i64 z'] 23 := Blk.kept (by ((try simp only [Blk.drew_iff]); (try simp only [Blk.drewN_iff]); (try simp only [Blk.drew_iff]); first | with_reducible assumption | with_reducible exact Blk.new _ _ _ (by first | rfl | (simp; done) | (simp; omega)) | (with_reducible refine Blk.alloc ?_ _; first | with_reducible assumption | with_reducible exact Blk.new _ _ _ (by first | rfl | (simp; done) | (simp; omega)) | (with_reducible refine Blk.alloc ?_ _; with_reducible assumption)))) hb2; obtain ⟨a1_2_0, a1_2_1, a1_2_2, a1_2_3, a1_2_4, a1_2_5⟩ := A1_2.three; have lA1_2 := A1_2.lt; have A2_2 : Blk w2 (w.heap.size + 1 + 1) [.int .i64 0, .int .i64 0, .int .i64 0] 23 := Blk.kept (by ((try simp only [Blk.drew_iff]); (try simp only [Blk.drewN_iff]); (try simp only [Blk.drew_iff]); first | with_reducible assumption | with_reducible exact Blk.new _ _ _ (by first | rfl | (simp; done) | (simp; omega)) | (with_reducible refine Blk.alloc ?_ _; first | with_reducible assumption | with_reducible exact Blk.new _ _ _ (by first | rfl | (simp; done) | (simp; omega)) | (with_reducible refine Blk.alloc ?_ _; with_reducible assumption)))) hb2; obtain ⟨a2_2_0, a2_2_1, a2_2_2, a2_2_3, a2_2_4, a2_2_5⟩ := A2_2.three; have lA2_2 := A2_2.lt; (try (refine Blk.go (g := w0.heap.size) (cs := [.int .i64 0, .int .i64 0, .int .i64 0]) (t := 23) hb2 ?_ ?_; (focus (((try simp only [Blk.drew_iff]); (try simp only [Blk.drewN_iff]); (try simp only [Blk.drew_iff]); first | with_reducible assumption | with_reducible exact Blk.new _ _ _ (by first | rfl | (simp; done) | (simp; omega)) | (with_reducible refine Blk.alloc ?_ _; first | with_reducible assumption | with_reducible exact Blk.new _ _ _ (by first | rfl | (simp; done) | (simp; omega)) | (with_reducible refine Blk.alloc ?_ _; with_reducible assumption))))); intro N0_0_2; obtain ⟨n0_0_2_0, n0_0_2_1, n0_0_2_2, n0_0_2_3, n0_0_2_4, n0_0_2_5⟩ := N0_0_2.three; have lN0_0_2 := N0_0_2.lt)); (try (refine Blk.go (g := w1.heap.size) (cs := [.int .i64 0, .int .i64 0, .int .i64 0]) (t := 23) hb2 ?_ ?_; (focus (((try simp only [Blk.drew_iff]); (try simp only [Blk.drewN_iff]); (try simp only [Blk.drew_iff]); first | with_reducible assumption | with_reducible exact Blk.new _ _ _ (by first | rfl | (simp; done) | (simp; omega)) | (with_reducible refine Blk.alloc ?_ _; first | with_reducible assumption | with_reducible exact Blk.new _ _ _ (by first | rfl | (simp; done) | (simp; omega)) | (with_reducible refine Blk.alloc ?_ _; with_reducible assumption))))); intro N1_0_2; obtain ⟨n1_0_2_0, n1_0_2_1, n1_0_2_2, n1_0_2_3, n1_0_2_4, n1_0_2_5⟩ := N1_0_2.three; have lN1_0_2 := N1_0_2.lt)))
        | (go_at_call 39; (fail_if_success (have tok := hb1)); refine (coordinates_any _ _ _ _).mono ?_; rintro e w1 ⟨rfl, hb1⟩; have acc1 : Below w.heap.size w w1 := below_step (by ((try simp only [Below.drew_iff]); (try simp only [Below.drewN_iff]); (try simp only [Below.drew_iff]); first | with_reducible assumption | with_reducible exact Below.refl _ _ | (with_reducible refine Below.alloc ?_ (by first | omega | (simp; done) | (simp; omega)) _; first | with_reducible assumption | with_reducible exact Below.refl _ _ | (with_reducible refine Below.alloc ?_ (by first | omega | (simp; done) | (simp; omega)) _; first | with_reducible assumption | with_reducible exact Below.refl _ _ | (with_reducible refine Below.alloc ?_ (by first | omega | (simp; done) | (simp; omega)) _; first | with_reducible exact Below.refl _ _ | (with_reducible refine Below.alloc ?_ (by first | omega | (simp; done) | (simp; omega)) _; with_reducible exact Below.refl _ _)))))) hb1; have zz1 := acc1.size; have A0_1 : Blk w1 (w.heap.size) [.int .i64 x, .int .i64 y, .int .i64 z] 23 := Blk.kept (by ((try simp only [Blk.drew_iff]); (try simp only [Blk.drewN_iff]); (try simp only [Blk.drew_iff]); first | with_reducible assumption | with_reducible exact Blk.new _ _ _ (by first | rfl | (simp; done) | (simp; omega)) | (with_reducible refine Blk.alloc ?_ _; first | with_reducible assumption | with_reducible exact Blk.new _ _ _ (by first | rfl | (simp; done) | (simp; omega)) | (with_reducible refine Blk.alloc ?_ _; with_reducible assumption)))) hb1; obtain ⟨a0_1_0, a0_1_1, a0_1_2, a0_1_3, a0_1_4, a0_1_5⟩ := A0_1.three; have lA0_1 := A0_1.lt; have A1_1 : Blk w1 (w.heap.size + 1) [.int .i64 x', .int .i64 y', .int .i64 z'] 23 := Blk.kept (by ((try simp only [Blk.drew_iff]); (try simp only [Blk.drewN_iff]); (try simp only [Blk.drew_iff]); first | with_reducible assumption | with_reducible exact Blk.new _ _ _ (by first | rfl | (simp; done) | (simp; omega)) | (with_reducible refine Blk.alloc ?_ _; first | with_reducible assumption | with_reducible exact Blk.new _ _ _ (by first | rfl | (simp; done) | (simp; omega)) | (with_reducible refine Blk.alloc ?_ _; with_reducible assumption)))) hb1; obtain ⟨a1_1_0, a1_1_1, a1_1_2, a1_1_3, a1_1_4, a1_1_5⟩ := A1_1.three; have lA1_1 := A1_1.lt; have A2_1 : Blk w1 (w.heap.size + 1 + 1) [.int .i64 0, .int .i64 0, .int .i64 0] 23 := Blk.kept (by ((try simp only [Blk.drew_iff]); (try simp only [Blk.drewN_iff]); (try simp only [Blk.drew_iff]); first | with_reducible assumption | with_reducible exact Blk.new _ _ _ (by first | rfl | (simp; done) | (simp; omega)) | (with_reducible refine Blk.alloc ?_ _; first | with_reducible assumption | with_reducible exact Blk.new _ _ _ (by first | rfl | (simp; done) | (simp; omega)) | (with_reducible refine Blk.alloc ?_ _; with_reducible assumption)))) hb1; obtain ⟨a2_1_0, a2_1_1, a2_1_2, a2_1_3, a2_1_4, a2_1_5⟩ := A2_1.three; have lA2_1 := A2_1.lt; (try (refine Blk.go (g := w0.heap.size) (cs := [.int .i64 0, .int .i64 0, .int .i64 0]) (t := 23) hb1 ?_ ?_; (focus (((try simp only [Blk.drew_iff]); (try simp only [Blk.drewN_iff]); (try simp only [Blk.drew_iff]); first | with_reducible assumption | with_reducible exact Blk.new _ _ _ (by first | rfl | (simp; done) | (simp; omega)) | (with_reducible refine Blk.alloc ?_ _; first | with_reducible assumption | with_reducible exact Blk.new _ _ _ (by first | rfl | (simp; done) | (simp; omega)) | (with_reducible refine Blk.alloc ?_ _; with_reducible assumption))))); intro N0_0_1; obtain ⟨n0_0_1_0, n0_0_1_1, n0_0_1_2, n0_0_1_3, n0_0_1_4, n0_0_1_5⟩ := N0_0_1.three; have lN0_0_1 := N0_0_1.lt))))
    all_goals go_wp2_with fail
    all_goals go_meet
    all_goals exact ⟨_, rfl, (by (repeat (first | with_reducible assumption | with_reducible exact Blk.new _ _ _ (by first | rfl | (simp; done) | (simp; omega)) | simp only [Blk.drew_iff] | simp only [Blk.drewN_iff] | with_reducible refine Blk.far ?_ (by first | (simp; done) | (simp; omega) | omega) _ | with_reducible refine Blk.alloc ?_ _ | with_reducible refine Blk.set3 (u := .int .i64 0) (v := .int .i64 0) (x := .int .i64 0) ?_ _ _ _))), (by (repeat (first | with_reducible assumption | with_reducible exact Blk.new _ _ _ (by first | rfl | (simp; done) | (simp; omega)) | simp only [Blk.drew_iff] | simp only [Blk.drewN_iff] | with_reducible refine Blk.far ?_ (by first | (simp; done) | (simp; omega) | omega) _ | with_reducible refine Blk.alloc ?_ _ | with_reducible refine Blk.set3 (u := .int .i64 0) (v := .int .i64 0) (x := .int .i64 0) ?_ _ _ _))), (by (repeat (first | with_reducible assumption | with_reducible exact Below.refl _ _ | simp only [Below.drew_iff] | simp only [Below.drewN_iff] | with_reducible refine Below.setCell ?_ (by first | omega | (simp; done) | (simp; omega)) _ | with_reducible refine Below.alloc ?_ (by first | omega | (simp; done) | (simp; omega)) _)))⟩
  case rest =>
    obtain ⟨g, rfl, hg, hr, hbel⟩ := hcut
    obtain ⟨x0, x1, x2, _, _, _⟩ := hg.three
    obtain ⟨y0, y1, y2, f0, f1, f2⟩ := hr.three
    have zc := hbel.size
    have lr := hr.lt
    clear b0 b1 b2
    by_cases hs : inV sx sy sz = true
    · have hv1 := HV.out
      rw [if_pos hs] at hv1
      have HV1 := Lib.hid hv1
      clear hv1
      have hes : errB (inV sx sy sz) = 0 := by rw [hs]; rfl
      have Hes := Lib.hid hes
      clear hes hs
      go_wp2_with fail
      refine (check_one sx sy sz _ _ _ rfl).mono ?_
      rw [Hes.out]
      rintro e w5 ⟨rfl, hb5⟩
      have hr5 := (hr.alloc _).kept hb5
      have hg5 := (hg.alloc _).kept hb5
      obtain ⟨u0, u1, u2, _, _, _⟩ := hg5.three
      obtain ⟨v0, v1, v2, v3', v4, v5⟩ := hr5.three
      go_wp2
      obtain ⟨q0, q1, q2, _, _, _⟩ := (hr5.set3 (.int .i64 sx) (.int .i64 sy) (.int .i64 sz)).three
      exact bodyPost_ret (v := .tuple #[v3 sx sy sz, .int .i64 0]) (by simp [results, Try.results36, go_sem, q0, q1, q2]) rfl ⟨by rw [HV1.out], by (repeat (first | exact Below.refl _ _ | (refine Below.setCell ?_ (by first | omega | (simp; done) | (simp; omega)) _) | (refine Below.alloc ?_ (by first | omega | (simp; done) | (simp; omega)) _) | (refine Below.trans ?_ (Below.mono hb5 (by first | omega | (simp; done) | (simp; omega)))) | (refine Below.trans ?_ (Below.mono hbel (by first | omega | (simp; done) | (simp; omega))))))⟩
    · have hv1 := HV.out
      rw [if_neg hs] at hv1
      have HV1 := Lib.hid hv1
      clear hv1
      have hes : errB (inV sx sy sz) = 6 := by unfold errB; rw [if_neg hs]
      have Hes := Lib.hid hes
      clear hes hs
      go_wp2_with fail
      refine (check_one sx sy sz _ _ _ rfl).mono ?_
      rw [Hes.out]
      rintro e w5 ⟨rfl, hb5⟩
      have hr5 := (hr.alloc _).kept hb5
      obtain ⟨v0, v1, v2, v3', v4, v5⟩ := hr5.three
      go_wp2
      obtain ⟨q0, q1, q2, _, _, _⟩ := (hr5.set3 (.int .i64 0) (.int .i64 0) (.int .i64 0)).three
      exact bodyPost_ret (v := .tuple #[v3 0 0 0, .int .i64 6]) (by simp [results, Try.results36, go_sem, q0, q1, q2]) rfl ⟨by rw [HV1.out], by (repeat (first | exact Below.refl _ _ | (refine Below.setCell ?_ (by first | omega | (simp; done) | (simp; omega)) _) | (refine Below.alloc ?_ (by first | omega | (simp; done) | (simp; omega)) _) | (refine Below.trans ?_ (Below.mono hb5 (by first | omega | (simp; done) | (simp; omega)))) | (refine Below.trans ?_ (Below.mono hbel (by first | omega | (simp; done) | (simp; omega))))))⟩

/-- What Add and Sub return. -/
def combV (x y z x' y' z' t : Int) : Value := if (inV x y z && inV x' y' z') = true ∧ inV (x + t * x') (y + t * y') (z + t * z') = true then .tuple #[v3 (x + t * x') (y + t * y') (z + t * z'), .int .i64 0] else .tuple #[v3 0 0 0, .int .i64 6]
theorem combine_any (x y z x' y' z' t : Int) (w : World) (ht : t = 1 ∨ t = -1) :
    Calls Try.prog 36 #[v3 x y z, v3 x' y' z', .int .i64 t] w fun e w' => e = .returned (combV x y z x' y' z' t) ∧ Below w.heap.size w w' := by
  unfold combV
  rcases two_cases (inV x y z) (inV x' y' z') with ⟨h, h1, h2⟩ | h
  · have := combine_in x y z x' y' z' t w h1 h2 ht
    simpa [h] using this
  · have := combine_out x y z x' y' z' t w h
    simpa [h] using this
theorem combV_form (x y z x' y' z' t : Int) : ∃ a b c e : Int, combV x y z x' y' z' t = .tuple #[v3 a b c, .int .i64 e] := by
  unfold combV
  split
  · exact ⟨_, _, _, _, rfl⟩
  · exact ⟨_, _, _, _, rfl⟩

theorem add_any (x y z x' y' z' : Int) (w : World) :
    Calls Try.prog 13 #[v3 x y z, v3 x' y' z'] w fun e w' => e = .returned (combV x y z x' y' z' 1) ∧ Below w.heap.size w w' := by
  obtain ⟨a, b, c, e0, he⟩ := combV_form x y z x' y' z' 1
  rw [he]
  have He := Lib.hid he
  clear he
  go_enter Try.func13, Try.ntmps13
  go_wp2_with fail
  refine (combine_any x y z x' y' z' 1 _ (.inl rfl)).mono ?_
  rw [He.out]
  rintro e w1 ⟨rfl, hb⟩
  obtain ⟨hc, hf⟩ := old_cells hb
  obtain ⟨r0, r1, r2, s0, s1, s2⟩ := (Blk.kept (w := _) (g := w.heap.size + 1 + 1) (cs := [.int .i64 0, .int .i64 0, .int .i64 0]) (t := 23) (Blk.new _ _ _ (by simp)) hb).three
  obtain ⟨q0, q1, q2, _, _, _⟩ := ((Blk.kept (w := _) (g := w.heap.size + 1 + 1) (cs := [.int .i64 0, .int .i64 0, .int .i64 0]) (t := 23) (Blk.new _ _ _ (by simp)) hb).set3 (.int .i64 a) (.int .i64 b) (.int .i64 c)).three
  clear hc hf
  go_wp2
  exact bodyPost_ret (v := .tuple #[v3 a b c, .int .i64 e0]) (by simp [results, Try.results13, go_sem, q0, q1, q2]) rfl ⟨rfl, by (repeat (first | exact Below.refl _ _ | (refine Below.setCell ?_ (by first | omega | (simp; done) | (simp; omega)) _) | (refine Below.alloc ?_ (by first | omega | (simp; done) | (simp; omega)) _) | (refine Below.trans ?_ (Below.mono hb (by first | omega | (simp; done) | (simp; omega))))))⟩
theorem sub_any (x y z x' y' z' : Int) (w : World) :
    Calls Try.prog 14 #[v3 x y z, v3 x' y' z'] w fun e w' => e = .returned (combV x y z x' y' z' (-1)) ∧ Below w.heap.size w w' := by
  obtain ⟨a, b, c, e0, he⟩ := combV_form x y z x' y' z' (-1)
  rw [he]
  have He := Lib.hid he
  clear he
  go_enter Try.func14, Try.ntmps14
  go_wp2_with fail
  refine (combine_any x y z x' y' z' (-1) _ (.inr rfl)).mono ?_
  rw [He.out]
  rintro e w1 ⟨rfl, hb⟩
  obtain ⟨r0, r1, r2, s0, s1, s2⟩ := (Blk.kept (w := _) (g := w.heap.size + 1 + 1) (cs := [.int .i64 0, .int .i64 0, .int .i64 0]) (t := 23) (Blk.new _ _ _ (by simp)) hb).three
  obtain ⟨q0, q1, q2, _, _, _⟩ := ((Blk.kept (w := _) (g := w.heap.size + 1 + 1) (cs := [.int .i64 0, .int .i64 0, .int .i64 0]) (t := 23) (Blk.new _ _ _ (by simp)) hb).set3 (.int .i64 a) (.int .i64 b) (.int .i64 c)).three
  go_wp2
  exact bodyPost_ret (v := .tuple #[v3 a b c, .int .i64 e0]) (by simp [results, Try.results14, go_sem, q0, q1, q2]) rfl ⟨rfl, by (repeat (first | exact Below.refl _ _ | (refine Below.setCell ?_ (by first | omega | (simp; done) | (simp; omega)) _) | (refine Below.alloc ?_ (by first | omega | (simp; done) | (simp; omega)) _) | (refine Below.trans ?_ (Below.mono hb (by first | omega | (simp; done) | (simp; omega))))))⟩
end Go.Proofs.Ytnhoabehemnpnaa
