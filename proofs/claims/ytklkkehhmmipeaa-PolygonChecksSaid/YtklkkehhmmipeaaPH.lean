/- Package polygon: the hull of five points. -/
import Derived.Test.YtklkkehhmmipeaaPZ
namespace Go.Proofs.Ytklkkehhmmipeaa
open Go.RowKit
attribute [local go_sem ↓] Go.wp_at_zero Go.wp_at_succ

theorem sorted_is {ys S xs : List P2} {n : Nat} (h1 : ys.Perm xs) (h2 : SortedTo ys n) (hn : xs.length = n) (h3 : S.Perm xs) (h4 : S.Pairwise fun a b => ¬ bef b a) : ys = S := by
  refine List.Perm.eq_of_pairwise (le := fun a b => ¬ bef b a) (fun a b _ _ k1 k2 => ?_) ?_ h4 (h1.trans h3.symm)
  · rcases bef_tri a b with h | h | h
    · exact absurd h k2
    · exact h
    · exact absurd h k1
  · rw [List.pairwise_iff_getElem]
    intro i j hi hj hij
    have hl : ys.length = n := h1.length_eq.trans hn
    have := h2 i j hij (by omega)
    rwa [cor_get hi, cor_get hj] at this
section
variable {g B : Nat} {w w' : World}
theorem Kp.mem {ys : List P2} {k : Nat} (h : Kp B g w w') (m : Mem w k ys) (hk : k < B) (hg : k ≠ g) : Mem w' k ys := fun i x hx => by
  obtain ⟨h1, h2, h3, h4⟩ := m i x hx
  have hq := h.block k hk hg
  exact ⟨(World.cell?_of_block (a := ⟨k, _, none⟩) hq).trans h1, (World.cell?_of_block (a := ⟨k, _, none⟩) hq).trans h2, (World.frozen?_of_block (a := ⟨k, _, none⟩) hq).trans h3, (World.frozen?_of_block (a := ⟨k, _, none⟩) hq).trans h4⟩
theorem Kp.below {C : Nat} (h : Kp B g w w') (hg : C ≤ g) (hC : C ≤ B) : Below C w w' := ⟨h.os, h.tape, h.output, h.size, fun k hk => h.block k (by omega) (by omega)⟩
theorem Own.but {base : Nat} {v : Value} {xs : List P2} (h : Own w base v xs) (hb : But g w w') (hg : g < base) : Own w' base v xs :=
  World.ownsRow.kept h (row := some g) ⟨hb.os, hb.tape, hb.output, hb.size, fun k hk hne => hb.block k hk (fun e => hne (by rw [e]))⟩ (by
    have hl := World.ownsRow.lt h
    cases hv : v.ownBlock with
    | none => exact .inl rfl
    | some q => exact .inr (fun e => by injection e with e; have := (hl q hv).1; omega))
end

set_option maxRecDepth 100000 in
set_option maxHeartbeats 6400000 in
theorem pHull5_any (A : Option Addr) (c : Nat) (xs S H1 H2 : List P2) (w : World) (h : Row w w.heap.size A 5 xs) (hall : allP xs = true) (hS : S.Perm xs) (hS' : S.Pairwise fun a b => ¬ bef b a)
    (hH1 : (halfL 0 [] S).dropLast = H1) (hH2 : (halfL H1.length H1 S.reverse).dropLast = H2) (hl1 : H1.length ≤ 5) (hl2 : 3 ≤ H2.length) (hl3 : H2.length ≤ 10) :
    Calls Try.prog 33 #[.slice A 5 c] w fun e w' => ∃ A' c', e = .returned (.tuple #[.slice A' H2.length c', .int .i64 0]) ∧ Row w' w'.heap.size A' H2.length H2 ∧ Below w.heap.size w w' := by
  have hx5 := h.len
  have Hx5 := Lib.hid hx5
  have Hall := Lib.hid hall
  have HS := Lib.hid hS
  have HS' := Lib.hid hS'
  have HH1 := Lib.hid hH1
  have HH2 := Lib.hid hH2
  clear hall hS hS' hH1 hH2 hx5
  go_enter Try.func33, Try.ntmps33
  go_wp2_with fail
  refine (allowed_any A 5 c xs true _ h (by omega) Hall.out).mono ?_
  rintro e w0 ⟨rfl, hb0⟩
  go_wp2_with fail
  refine (clone22_any A 5 c xs _ (h.in_ hb0 hb0.size) (by omega) (by omega)).mono ?_
  rintro e w1 ⟨v1, rfl, hown1, hb1⟩
  have acc1 : Below w.heap.size w w1 := below_step hb0 hb1
  obtain ⟨A1, c1, rfl, _, _⟩ := hown1.form_n Hx5.out
  obtain ⟨g, rfl, -, _, hbg, hg1, hmem1⟩ := hown1.mem (by rw [Hx5.out]; omega)
  have hz0 := hb0.size
  have Hmem1 := Lib.hid hmem1
  clear hown1 hb0 hb1 hmem1
  have hpvb : Blk (w1.alloc (.cells #[.slice (some ⟨g, 0, none⟩) 5 c1] TS)) w1.heap.size [.slice (some ⟨g, 0, none⟩) 5 c1] TS := Blk.new _ _ _ rfl
  have Hpvb := Lib.hid hpvb
  clear hpvb
  go_wp2_with fail
  refine (sort5_any g c1 xs _ (Hmem1.out.kept ((Below.refl _ _).alloc (Nat.le_refl _) _) hg1) Hx5.out (by simp; omega)).mono ?_
  rintro e w2 ⟨rfl, ys, hp, hs, hmem2, hbut2⟩
  have hys : ys = S := sorted_is hp hs Hx5.out HS.out HS'.out
  subst hys
  have pv2 := hbut2.blk Hpvb.out (by omega)
  have hz2 := hbut2.size
  have hz2' : w1.heap.size + 1 ≤ w2.heap.size := by simpa using hz2
  have acc2 : Below w.heap.size w w2 := (acc1.alloc (by omega) _).trans (hbut2.below (by omega) (by simp; omega))
  have hyl : ys.length = 5 := hp.length_eq.trans Hx5.out
  have Hyl := Lib.hid hyl
  have Hmem2 := Lib.hid hmem2
  have Hpv2 := Lib.hid pv2
  clear hp hs hmem2 hbut2 pv2 hyl
  go_wp2_with fail
  have hal : Below w2.heap.size w2 (w2.alloc (.cells #[.slice none 0 0] TH)) := (Below.refl _ _).alloc (Nat.le_refl _) _
  refine (half_any (w2.heap.size + 1) w2.heap.size w1.heap.size g 5 c1 0 (.slice none 0 0) [] ys _ (Own.nil _ _) (Blk.new _ _ _ rfl) (Hpv2.out.alloc _) (((Hmem2.out.row Hyl.out (by omega)).in_ hal (by omega) : Row _ (w2.heap.size + 1) _ _ _)) (by omega) (by omega) rfl (by omega) (by omega) (by omega) (by omega) (by omega) (by simp)).mono ?_
  rintro e w3 ⟨rfl, v3, hown3, hhv3, hkp3⟩
  rw [HH1.out] at hown3
  have hz3 : w2.heap.size + 1 ≤ w3.heap.size := by simpa using hkp3.size
  have pv3 := hkp3.blk (Hpv2.out.alloc _) (by omega) (by omega)
  have mem3 := hkp3.mem (Hmem2.out.kept hal (by omega)) (by omega) (by omega)
  have acc3 : Below w.heap.size w w3 := (acc2.trans (hal.mono (by have := acc2.size; omega))).trans (hkp3.below (by have := acc2.size; omega) (by have := acc2.size; omega))
  obtain ⟨r1, r2⟩ := pv3.one
  have Hown3 := Lib.hid hown3
  have Hhv3 := Lib.hid hhv3
  have Hmem3 := Lib.hid mem3
  have Hpv3 := Lib.hid pv3
  clear hkp3 hown3 hhv3 pv3 mem3
  go_wp2_with fail
  refine (rev22_any g 5 c1 ys _ Hmem3.out Hyl.out (by omega) (by omega) (by omega)).mono ?_
  rintro e w4 ⟨rfl, mem4, hbut4⟩
  have hz4 := hbut4.size
  have hhv4 := hbut4.blk Hhv3.out (by omega)
  have hpv4 := hbut4.blk Hpv3.out (by omega)
  have hown4 := Hown3.out.but hbut4 (by omega)
  have acc4 : Below w.heap.size w w4 := acc3.trans (hbut4.below (by omega) (by have := acc3.size; omega))
  have Hown4 := Lib.hid hown4
  have Hhv4 := Lib.hid hhv4
  have Hmem4 := Lib.hid mem4
  have Hpv4 := Lib.hid hpv4
  clear hbut4 hown4 hhv4 mem4 hpv4 r1 r2
  go_wp2_with fail
  refine (half_any (w2.heap.size + 1) w2.heap.size w1.heap.size g 5 c1 H1.length v3 H1 ys.reverse _ Hown4.out Hhv4.out Hpv4.out (Hmem4.out.row (by rw [List.length_reverse]; exact Hyl.out) (by omega)) (by omega) (by omega) rfl (by omega) (by omega) (by omega) (by omega) (by omega) (by omega)).mono ?_
  rintro e w5 ⟨rfl, v5, hown5, hhv5, hkp5⟩
  rw [HH2.out] at hown5
  have acc5 : Below w.heap.size w w5 := acc4.trans (hkp5.below (by have := acc2.size; omega) (by have := acc2.size; omega))
  obtain ⟨A5, c5, rfl, hrow5, _⟩ := hown5.form_n rfl
  obtain ⟨q1, q2⟩ := hhv5.one
  have Hrow5 := Lib.hid hrow5
  have hl2' : (3 : Int) ≤ (H2.length : Int) := by omega
  clear hkp5 hown5 hhv5 hrow5
  go_wp2
  go_ret2
  exact ⟨A5, c5, rfl, Hrow5.out, acc5⟩
end Go.Proofs.Ytklkkehhmmipeaa
