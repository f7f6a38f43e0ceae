/- Primitive, of package vector and of the reference. -/
import Derived.Test.YtnhoabehemnpnaaVD
namespace Go.Proofs.Ytnhoabehemnpnaa
open Go.RowKit
attribute [local go_sem ↓] Go.wp_at_zero Go.wp_at_succ

theorem absolute_q (a : Int) (w : World) (ha : -1000000000 ≤ a) (ha' : a ≤ 1000000000) :
    Calls Try.prog 47 #[.int .i64 a] w fun e w' => e = .returned (.int .i64 a.natAbs) ∧ w = w' := by
  go_enter Try.func47, Try.ntmps47
  go_wp2
  all_goals (go_ret; exact ⟨ret_int (by omega), rfl⟩)

theorem drewN_drew (w : World) (n : Nat) : (w.drewN n).drew = w.drewN (n + 1) := rfl
theorem refDivisor_q (a b : Int) (w : World) (ha : 0 ≤ a) (ha' : a ≤ 1000000000) (hb : 0 ≤ b) (hb' : b ≤ 1000000000) :
    Calls Try.prog 46 #[.int .i64 a, .int .i64 b] w fun e w' => e = .returned (.int .i64 (Int.gcd a b)) ∧ ∃ n, w' = w.drewN n := by
  go_enter Try.func46, Try.ntmps46
  go_wp2
  go_loopw [0, 1] (fun p q wr => ∃ x y : Int, p = .int .i64 x ∧ q = .int .i64 y ∧ 0 ≤ x ∧ x ≤ 1000000000 ∧ 0 ≤ y ∧ y ≤ 1000000000 ∧ Int.gcd x y = Int.gcd a b ∧ ∃ n, wr = w.drewN n) (fun _ q _ => (intOf q).natAbs)
  case atStart => exact ⟨a, b, rfl, rfl, ha, ha', hb, hb', rfl, 0, rfl⟩
  case round =>
    obtain ⟨x, y, rfl, rfl, h1, h2, h3, h4, hg, n, rfl⟩ := hrel
    have Hg := Lib.hid hg
    clear hg
    by_cases h0 : y = 0
    · subst h0
      go_wp2
      go_ret
      exact ⟨ret_int (by rw [← Hg.out, gcd_end]; omega), n, rfl⟩
    · have hpos : 0 < y := by omega
      have hm := tmod_less x y h0
      have hle : 0 ≤ x.tmod y ∧ x.tmod y ≤ 1000000000 := by have := Int.tmod_nonneg y h1; omega
      have Hs := Lib.hid (gcd_step x y)
      have e : x.tmod y = x % y := Int.tmod_eq_emod_of_nonneg h1
      rw [e] at hm hle Hs
      have Hm := Lib.hid hm
      obtain ⟨l1, l2⟩ := hle
      clear hm e
      go_wp2
      go_region
      go_wp2
      go_roundw
      case rel => exact ⟨y, x % y, rfl, rfl, h3, h4, l1, l2, by rw [Hs.out]; exact Hg.out, n + 1, rfl⟩
      case measure => simp only [intOf]; exact Hm.out

/-- What Primitive returns. -/
def primV (x y z : Int) : Value := if inV x y z = true then (if x = 0 ∧ y = 0 ∧ z = 0 then .tuple #[v3 0 0 0, .int .i64 0, .int .i64 1] else .tuple #[v3 (x.tdiv (gcd3 x y z)) (y.tdiv (gcd3 x y z)) (z.tdiv (gcd3 x y z)), .int .i64 (gcd3 x y z), .int .i64 0]) else .tuple #[v3 0 0 0, .int .i64 0, .int .i64 6]

set_option maxHeartbeats 8000000 in
theorem refPrimitive_any (x y z : Int) (w : World) (h : inV x y z = true) (hne : ¬ (x = 0 ∧ y = 0 ∧ z = 0)) :
    Calls Try.prog 28 #[v3 x y z] w fun e w' => e = .returned (.tuple #[v3 (x.tdiv (gcd3 x y z)) (y.tdiv (gcd3 x y z)) (z.tdiv (gcd3 x y z)), .int .i64 (gcd3 x y z)]) ∧ Below w.heap.size w w' := by
  obtain ⟨⟨a1, a2⟩, ⟨a3, a4⟩, a5, a6⟩ := inV_true h
  have hk1 := gcd3_pos hne
  have hk2 := gcd3_le (M := 1000000) ⟨a1, a2⟩ ⟨a3, a4⟩ ⟨a5, a6⟩
  obtain ⟨p, hp⟩ : ∃ p : Int, p = x.natAbs := ⟨_, rfl⟩
  obtain ⟨q, hq⟩ : ∃ q : Int, q = y.natAbs := ⟨_, rfl⟩
  obtain ⟨r, hr⟩ : ∃ r : Int, r = z.natAbs := ⟨_, rfl⟩
  obtain ⟨g, hg⟩ : ∃ g : Int, g = Int.gcd p q := ⟨_, rfl⟩
  have hgle : g ≤ 1000000 := by
    have := gcd_le (M := 1000000) (a := p) (b := q) (by omega) (by omega)
    omega
  have A1 : ∀ W, Calls Try.prog 47 #[.int .i64 x] W fun e w' => e = .returned (.int .i64 p) ∧ W = w' := fun W => hp ▸ absolute_q x W (by omega) (by omega)
  have A2 : ∀ W, Calls Try.prog 47 #[.int .i64 y] W fun e w' => e = .returned (.int .i64 q) ∧ W = w' := fun W => hq ▸ absolute_q y W (by omega) (by omega)
  have A3 : ∀ W, Calls Try.prog 47 #[.int .i64 z] W fun e w' => e = .returned (.int .i64 r) ∧ W = w' := fun W => hr ▸ absolute_q z W (by omega) (by omega)
  have D1 : ∀ W, Calls Try.prog 46 #[.int .i64 p, .int .i64 q] W fun e w' => e = .returned (.int .i64 g) ∧ ∃ n, w' = W.drewN n := fun W => hg ▸ refDivisor_q p q W (by omega) (by omega) (by omega) (by omega)
  obtain ⟨K, hK⟩ : ∃ K, K = gcd3 x y z := ⟨_, rfl⟩
  have D2 : ∀ W, Calls Try.prog 46 #[.int .i64 g, .int .i64 r] W fun e w' => e = .returned (.int .i64 K) ∧ ∃ n, w' = W.drewN n := fun W => by
    have e : K = Int.gcd g r := by
      rw [hK, hg, hr, hp, hq]; unfold gcd3
      rw [gcd_abs_right, gcd_abs_left, gcd_abs_right]
    rw [e]; exact refDivisor_q g r W (by omega) (by omega) (by omega) (by omega)
  rw [← hK] at hk1 hk2 ⊢
  have H1 := Lib.hid A1
  have H2 := Lib.hid A2
  have H3 := Lib.hid A3
  have H4 := Lib.hid D1
  have H5 := Lib.hid D2
  clear A1 A2 A3 D1 D2 hK hp hq hr hg hgle h hne
  have kz : (K == 0) = false := by rw [beq_eq_false_iff_ne]; omega
  obtain ⟨qc0, qd0⟩ := tdiv_bd (k := K) ⟨a1, a2⟩
  obtain ⟨qc1, qd1⟩ := tdiv_bd (k := K) ⟨a3, a4⟩
  obtain ⟨qc2, qd2⟩ := tdiv_bd (k := K) ⟨a5, a6⟩
  have kz1 : ¬ K = 0 := by omega
  have w0 : IntKind.i64.wrap (x.tdiv K) = x.tdiv K := IntWalk.i64_quo' _ _ (by omega)
  have w1 : IntKind.i64.wrap (y.tdiv K) = y.tdiv K := IntWalk.i64_quo' _ _ (by omega)
  have w2 : IntKind.i64.wrap (z.tdiv K) = z.tdiv K := IntWalk.i64_quo' _ _ (by omega)
  go_enter Try.func28, Try.ntmps28
  go_wp2_with fail
  go_quiet ((first
    | (go_at_call_of 47 (Value.int IntKind.i64 x); exact quiet_left (H1.out _))
    | (go_at_call_of 47 (Value.int IntKind.i64 y); exact quiet_left (H2.out _))
    | (go_at_call_of 47 (Value.int IntKind.i64 z); exact quiet_left (H3.out _))
    | (go_at_call_of 46 (Value.int IntKind.i64 p); exact Calls.quiet_of (H4.out _))
    | (go_at_call_of 46 (Value.int IntKind.i64 g); exact Calls.quiet_of (H5.out _))))
  have b0 : Blk (((w.alloc (.cells #[.int .i64 x, .int .i64 y, .int .i64 z] 23)).alloc (.cells #[.int .i64 0, .int .i64 0, .int .i64 0] 23)).drewN nq) w.heap.size [.int .i64 x, .int .i64 y, .int .i64 z] 23 := ((Blk.new _ _ _ rfl).alloc _).drewN _
  have b1 : Blk (((w.alloc (.cells #[.int .i64 x, .int .i64 y, .int .i64 z] 23)).alloc (.cells #[.int .i64 0, .int .i64 0, .int .i64 0] 23)).drewN nq) (w.heap.size + 1) [.int .i64 0, .int .i64 0, .int .i64 0] 23 := (Blk.new _ _ _ (by simp)).drewN _
  have acc : Below w.heap.size w (((w.alloc (.cells #[.int .i64 x, .int .i64 y, .int .i64 z] 23)).alloc (.cells #[.int .i64 0, .int .i64 0, .int .i64 0] 23)).drewN nq) := below_drewN (by (repeat (first | exact Below.refl _ _ | (refine Below.setCell ?_ (by first | omega | (simp; done) | (simp; omega)) _) | (refine Below.alloc ?_ (by first | omega | (simp; done) | (simp; omega)) _)))) _
  go_wp2_with fail
  go_region_held3 (fun w' => w'.cell? ⟨w.heap.size, 0, none⟩ = some (.int .i64 x) ∧ w'.cell? ⟨w.heap.size, 1, none⟩ = some (.int .i64 y) ∧ w'.cell? ⟨w.heap.size, 2, none⟩ = some (.int .i64 z))
    (first | (refine ⟨?_, ?_, ?_⟩ <;> with_reducible assumption) | ((try dsimp only); (repeat' apply And.intro) <;> go_keep))
    (fail)
  all_goals go_wp2
  refine bodyPost_ret (v := .tuple #[v3 (x.tdiv K) (y.tdiv K) (z.tdiv K), .int .i64 K]) ?_ rfl ⟨rfl, ?_⟩
  · simp [results, Try.results28, go_sem]
  · exact (by (repeat (first | with_reducible assumption | with_reducible exact Below.refl _ _ | simp only [Below.drew_iff] | simp only [Below.drewN_iff] | with_reducible refine Below.setCell ?_ (by first | omega | (simp; done) | (simp; omega)) _ | with_reducible refine Below.alloc ?_ (by first | omega | (simp; done) | (simp; omega)) _)))

set_option maxHeartbeats 8000000 in
theorem prim_1 (x y z p q K : Int) (w : World) (hn : ¬ x = 0) (He : Hid (errB (inV x y z) = 0))
    (D1 : ∀ W, Calls Try.prog 44 #[.int .i64 0, .int .i64 x] W fun e w' => e = .returned (.int .i64 p) ∧ Below W.heap.size W w')
    (D2 : ∀ W, Calls Try.prog 44 #[.int .i64 p, .int .i64 y] W fun e w' => e = .returned (.int .i64 q) ∧ Below W.heap.size W w')
    (D3 : ∀ W, Calls Try.prog 44 #[.int .i64 q, .int .i64 z] W fun e w' => e = .returned (.int .i64 K) ∧ Below W.heap.size W w')
    (hk : 1 ≤ K ∧ K ≤ 1000000) (bd0 : -1000000 ≤ x ∧ x ≤ 1000000) (bd1 : -1000000 ≤ y ∧ y ≤ 1000000) (bd2 : -1000000 ≤ z ∧ z ≤ 1000000) :
    Calls Try.prog 27 #[v3 x y z] w fun e w' => e = .returned (.tuple #[v3 ((x : Int).tdiv K) ((y : Int).tdiv K) (z.tdiv K), .int .i64 K, .int .i64 0]) ∧ Below w.heap.size w w' := by
  obtain ⟨k1, k2⟩ := hk
  have kz : (K == 0) = false := by rw [beq_eq_false_iff_ne]; omega
  obtain ⟨qc0, qd0⟩ := tdiv_bd (k := K) bd0
  obtain ⟨c0, d0⟩ := bd0
  obtain ⟨qc1, qd1⟩ := tdiv_bd (k := K) bd1
  obtain ⟨c1, d1⟩ := bd1
  obtain ⟨qc2, qd2⟩ := tdiv_bd (k := K) bd2
  obtain ⟨c2, d2⟩ := bd2
  have H1 := Lib.hid D1
  have H2 := Lib.hid D2
  have H3 := Lib.hid D3
  clear D1 D2 D3
  go_enter Try.func27, Try.ntmps27
  go_wp2_with fail
  refine (check_one x y z _ _ _ (by simp)).mono ?_
  rw [He.out]
  rintro e w1 ⟨rfl, hb⟩
  have b0 : Blk w1 w.heap.size [.int .i64 x, .int .i64 y, .int .i64 z] 23 := Blk.kept (((Blk.new _ _ _ rfl).alloc _).alloc _) hb
  have b1 : Blk w1 (w.heap.size + 1) [.int .i64 0, .int .i64 0, .int .i64 0] 23 := Blk.kept ((Blk.new _ _ _ (by simp)).alloc _) hb
  have acc1 : Below w.heap.size w w1 := by (repeat (first | exact Below.refl _ _ | (refine Below.setCell ?_ (by first | omega | (simp; done) | (simp; omega)) _) | (refine Below.alloc ?_ (by first | omega | (simp; done) | (simp; omega)) _) | (refine Below.trans ?_ (Below.mono hb (by first | omega | (simp; done) | (simp; omega))))))
  obtain ⟨c0', c1', c2', _, _, _⟩ := b0.three
  have l0 := b0.lt
  have l1 := b1.lt
  have z1 := acc1.size
  clear hb
  go_wp2_with fail
  refine (coordinates_any x y z _).mono ?_
  rintro e w2 ⟨rfl, hb2⟩
  have r2 := b1.kept hb2
  have acc2 := below_step acc1 hb2
  have z2 := acc2.size
  have lr2 := r2.lt
  go_wp2_with fail
  refine wp_loop_rounds 4 ?_
  rw [rounds_succ]
  go_wp2_with fail
  refine (H1.out _).mono ?_
  rintro e w3 ⟨rfl, hb3⟩
  have c3 : Blk w3 w2.heap.size [.int .i64 x, .int .i64 y, .int .i64 z] 36 := Blk.kept (Blk.new _ _ _ rfl) hb3
  have r3 := (r2.alloc _).kept hb3
  have acc3 := below_step (acc2.alloc z2 _) hb3
  obtain ⟨u30, u31, u32, g30, g31, g32⟩ := c3.three
  go_wp2_with fail
  rw [rounds_succ]
  go_wp2_with fail
  refine (H2.out _).mono ?_
  rintro e w4 ⟨rfl, hb4⟩
  have c4 := c3.kept hb4
  have r4 := r3.kept hb4
  have acc4 := below_step acc3 hb4
  obtain ⟨u40, u41, u42, g40, g41, g42⟩ := c4.three
  clear u30 u31 u32 g30 g31 g32
  go_wp2_with fail
  rw [rounds_succ]
  go_wp2_with fail
  refine (H3.out _).mono ?_
  rintro e w5 ⟨rfl, hb5⟩
  have c5 := c4.kept hb5
  have r5 := r4.kept hb5
  have acc5 := below_step acc4 hb5
  obtain ⟨u50, u51, u52, g50, g51, g52⟩ := c5.three
  clear u40 u41 u42 g40 g41 g42 hb3 hb4 hb5 c3 c4 r3 r4 acc3 acc4
  have z5 := acc5.size
  have lc5 := c5.lt
  have lr5 := r5.lt
  go_wp2_with fail
  rw [rounds_succ]
  go_wp2_with fail
  refine wp_loop_rounds 4 ?_
  rw [rounds_succ]
  go_wp2_with fail
  rw [rounds_succ]
  go_wp2_with fail
  rw [rounds_succ]
  go_wp2_with fail
  rw [rounds_succ]
  go_wp2_with fail
  refine (vectorOf_any _ _ _ _).mono ?_
  rintro e w7 ⟨rfl, hb7⟩
  have r7 : Blk w7 (w.heap.size + 1) [.int .i64 0, .int .i64 0, .int .i64 0] 23 := Blk.kept (by (repeat (first | with_reducible assumption | with_reducible exact Blk.new _ _ _ (by first | rfl | (simp; done) | (simp; omega)) | simp only [Blk.drew_iff] | simp only [Blk.drewN_iff] | with_reducible refine Blk.far ?_ (by first | (simp; done) | (simp; omega) | omega) _ | with_reducible refine Blk.alloc ?_ _ | with_reducible refine Blk.set3 (u := .int .i64 0) (v := .int .i64 0) (x := .int .i64 0) ?_ _ _ _))) hb7
  have acc7 : Below w.heap.size w w7 := below_step (by (repeat (first | with_reducible assumption | with_reducible exact Below.refl _ _ | simp only [Below.drew_iff] | simp only [Below.drewN_iff] | with_reducible refine Below.setCell ?_ (by first | omega | (simp; done) | (simp; omega)) _ | with_reducible refine Below.alloc ?_ (by first | omega | (simp; done) | (simp; omega)) _))) hb7
  have z7 := acc7.size
  obtain ⟨r70, r71, r72, f70, f71, f72⟩ := r7.three
  clear u50 u51 u52 g50 g51 g52
  go_wp2
  obtain ⟨q0, q1, q2, _, _, _⟩ := (r7.set3 (.int .i64 ((x : Int).tdiv K)) (.int .i64 ((y : Int).tdiv K)) (.int .i64 (z.tdiv K))).three
  exact bodyPost_ret (v := .tuple #[v3 ((x : Int).tdiv K) ((y : Int).tdiv K) (z.tdiv K), .int .i64 K, .int .i64 0]) (by simp [results, Try.results27, go_sem, q0, q1, q2]) rfl ⟨rfl, by go_grown⟩

set_option maxHeartbeats 8000000 in
theorem prim_2 (y z p q K : Int) (w : World) (hn : ¬ y = 0) (He : Hid (errB (inV 0 y z) = 0))
    (D1 : ∀ W, Calls Try.prog 44 #[.int .i64 0, .int .i64 0] W fun e w' => e = .returned (.int .i64 p) ∧ Below W.heap.size W w')
    (D2 : ∀ W, Calls Try.prog 44 #[.int .i64 p, .int .i64 y] W fun e w' => e = .returned (.int .i64 q) ∧ Below W.heap.size W w')
    (D3 : ∀ W, Calls Try.prog 44 #[.int .i64 q, .int .i64 z] W fun e w' => e = .returned (.int .i64 K) ∧ Below W.heap.size W w')
    (hk : 1 ≤ K ∧ K ≤ 1000000) (bd0 : -1000000 ≤ y ∧ y ≤ 1000000) (bd1 : -1000000 ≤ z ∧ z ≤ 1000000) :
    Calls Try.prog 27 #[v3 0 y z] w fun e w' => e = .returned (.tuple #[v3 ((0 : Int).tdiv K) ((y : Int).tdiv K) (z.tdiv K), .int .i64 K, .int .i64 0]) ∧ Below w.heap.size w w' := by
  obtain ⟨k1, k2⟩ := hk
  have kz : (K == 0) = false := by rw [beq_eq_false_iff_ne]; omega
  obtain ⟨qc0, qd0⟩ := tdiv_bd (k := K) bd0
  obtain ⟨c0, d0⟩ := bd0
  obtain ⟨qc1, qd1⟩ := tdiv_bd (k := K) bd1
  obtain ⟨c1, d1⟩ := bd1
  have H1 := Lib.hid D1
  have H2 := Lib.hid D2
  have H3 := Lib.hid D3
  clear D1 D2 D3
  go_enter Try.func27, Try.ntmps27
  go_wp2_with fail
  refine (check_one 0 y z _ _ _ (by simp)).mono ?_
  rw [He.out]
  rintro e w1 ⟨rfl, hb⟩
  have b0 : Blk w1 w.heap.size [.int .i64 0, .int .i64 y, .int .i64 z] 23 := Blk.kept (((Blk.new _ _ _ rfl).alloc _).alloc _) hb
  have b1 : Blk w1 (w.heap.size + 1) [.int .i64 0, .int .i64 0, .int .i64 0] 23 := Blk.kept ((Blk.new _ _ _ (by simp)).alloc _) hb
  have acc1 : Below w.heap.size w w1 := by (repeat (first | exact Below.refl _ _ | (refine Below.setCell ?_ (by first | omega | (simp; done) | (simp; omega)) _) | (refine Below.alloc ?_ (by first | omega | (simp; done) | (simp; omega)) _) | (refine Below.trans ?_ (Below.mono hb (by first | omega | (simp; done) | (simp; omega))))))
  obtain ⟨c0', c1', c2', _, _, _⟩ := b0.three
  have l0 := b0.lt
  have l1 := b1.lt
  have z1 := acc1.size
  clear hb
  go_wp2_with fail
  refine (coordinates_any 0 y z _).mono ?_
  rintro e w2 ⟨rfl, hb2⟩
  have r2 := b1.kept hb2
  have acc2 := below_step acc1 hb2
  have z2 := acc2.size
  have lr2 := r2.lt
  go_wp2_with fail
  refine wp_loop_rounds 4 ?_
  rw [rounds_succ]
  go_wp2_with fail
  refine (H1.out _).mono ?_
  rintro e w3 ⟨rfl, hb3⟩
  have c3 : Blk w3 w2.heap.size [.int .i64 0, .int .i64 y, .int .i64 z] 36 := Blk.kept (Blk.new _ _ _ rfl) hb3
  have r3 := (r2.alloc _).kept hb3
  have acc3 := below_step (acc2.alloc z2 _) hb3
  obtain ⟨u30, u31, u32, g30, g31, g32⟩ := c3.three
  go_wp2_with fail
  rw [rounds_succ]
  go_wp2_with fail
  refine (H2.out _).mono ?_
  rintro e w4 ⟨rfl, hb4⟩
  have c4 := c3.kept hb4
  have r4 := r3.kept hb4
  have acc4 := below_step acc3 hb4
  obtain ⟨u40, u41, u42, g40, g41, g42⟩ := c4.three
  clear u30 u31 u32 g30 g31 g32
  go_wp2_with fail
  rw [rounds_succ]
  go_wp2_with fail
  refine (H3.out _).mono ?_
  rintro e w5 ⟨rfl, hb5⟩
  have c5 := c4.kept hb5
  have r5 := r4.kept hb5
  have acc5 := below_step acc4 hb5
  obtain ⟨u50, u51, u52, g50, g51, g52⟩ := c5.three
  clear u40 u41 u42 g40 g41 g42 hb3 hb4 hb5 c3 c4 r3 r4 acc3 acc4
  have z5 := acc5.size
  have lc5 := c5.lt
  have lr5 := r5.lt
  go_wp2_with fail
  rw [rounds_succ]
  go_wp2_with fail
  refine wp_loop_rounds 4 ?_
  rw [rounds_succ]
  go_wp2_with fail
  rw [rounds_succ]
  go_wp2_with fail
  rw [rounds_succ]
  go_wp2_with fail
  rw [rounds_succ]
  go_wp2_with fail
  refine (vectorOf_any _ _ _ _).mono ?_
  rintro e w7 ⟨rfl, hb7⟩
  have r7 : Blk w7 (w.heap.size + 1) [.int .i64 0, .int .i64 0, .int .i64 0] 23 := Blk.kept (by (repeat (first | with_reducible assumption | with_reducible exact Blk.new _ _ _ (by first | rfl | (simp; done) | (simp; omega)) | simp only [Blk.drew_iff] | simp only [Blk.drewN_iff] | with_reducible refine Blk.far ?_ (by first | (simp; done) | (simp; omega) | omega) _ | with_reducible refine Blk.alloc ?_ _ | with_reducible refine Blk.set3 (u := .int .i64 0) (v := .int .i64 0) (x := .int .i64 0) ?_ _ _ _))) hb7
  have acc7 : Below w.heap.size w w7 := below_step (by (repeat (first | with_reducible assumption | with_reducible exact Below.refl _ _ | simp only [Below.drew_iff] | simp only [Below.drewN_iff] | with_reducible refine Below.setCell ?_ (by first | omega | (simp; done) | (simp; omega)) _ | with_reducible refine Below.alloc ?_ (by first | omega | (simp; done) | (simp; omega)) _))) hb7
  have z7 := acc7.size
  obtain ⟨r70, r71, r72, f70, f71, f72⟩ := r7.three
  clear u50 u51 u52 g50 g51 g52
  go_wp2
  obtain ⟨q0, q1, q2, _, _, _⟩ := (r7.set3 (.int .i64 0) (.int .i64 ((y : Int).tdiv K)) (.int .i64 (z.tdiv K))).three
  exact bodyPost_ret (v := .tuple #[v3 ((0 : Int).tdiv K) ((y : Int).tdiv K) (z.tdiv K), .int .i64 K, .int .i64 0]) (by simp [results, Try.results27, go_sem, q0, q1, q2, Int.zero_tdiv]) rfl ⟨rfl, by go_grown⟩

set_option maxHeartbeats 8000000 in
theorem prim_3 (z p q K : Int) (w : World) (hn : ¬ z = 0) (He : Hid (errB (inV 0 0 z) = 0))
    (D1 : ∀ W, Calls Try.prog 44 #[.int .i64 0, .int .i64 0] W fun e w' => e = .returned (.int .i64 p) ∧ Below W.heap.size W w')
    (D2 : ∀ W, Calls Try.prog 44 #[.int .i64 p, .int .i64 0] W fun e w' => e = .returned (.int .i64 q) ∧ Below W.heap.size W w')
    (D3 : ∀ W, Calls Try.prog 44 #[.int .i64 q, .int .i64 z] W fun e w' => e = .returned (.int .i64 K) ∧ Below W.heap.size W w')
    (hk : 1 ≤ K ∧ K ≤ 1000000) (bd0 : -1000000 ≤ z ∧ z ≤ 1000000) :
    Calls Try.prog 27 #[v3 0 0 z] w fun e w' => e = .returned (.tuple #[v3 ((0 : Int).tdiv K) ((0 : Int).tdiv K) (z.tdiv K), .int .i64 K, .int .i64 0]) ∧ Below w.heap.size w w' := by
  obtain ⟨k1, k2⟩ := hk
  have kz : (K == 0) = false := by rw [beq_eq_false_iff_ne]; omega
  obtain ⟨qc0, qd0⟩ := tdiv_bd (k := K) bd0
  obtain ⟨c0, d0⟩ := bd0
  have H1 := Lib.hid D1
  have H2 := Lib.hid D2
  have H3 := Lib.hid D3
  clear D1 D2 D3
  go_enter Try.func27, Try.ntmps27
  go_wp2_with fail
  refine (check_one 0 0 z _ _ _ (by simp)).mono ?_
  rw [He.out]
  rintro e w1 ⟨rfl, hb⟩
  have b0 : Blk w1 w.heap.size [.int .i64 0, .int .i64 0, .int .i64 z] 23 := Blk.kept (((Blk.new _ _ _ rfl).alloc _).alloc _) hb
  have b1 : Blk w1 (w.heap.size + 1) [.int .i64 0, .int .i64 0, .int .i64 0] 23 := Blk.kept ((Blk.new _ _ _ (by simp)).alloc _) hb
  have acc1 : Below w.heap.size w w1 := by (repeat (first | exact Below.refl _ _ | (refine Below.setCell ?_ (by first | omega | (simp; done) | (simp; omega)) _) | (refine Below.alloc ?_ (by first | omega | (simp; done) | (simp; omega)) _) | (refine Below.trans ?_ (Below.mono hb (by first | omega | (simp; done) | (simp; omega))))))
  obtain ⟨c0', c1', c2', _, _, _⟩ := b0.three
  have l0 := b0.lt
  have l1 := b1.lt
  have z1 := acc1.size
  clear hb
  go_wp2_with fail
  refine (coordinates_any 0 0 z _).mono ?_
  rintro e w2 ⟨rfl, hb2⟩
  have r2 := b1.kept hb2
  have acc2 := below_step acc1 hb2
  have z2 := acc2.size
  have lr2 := r2.lt
  go_wp2_with fail
  refine wp_loop_rounds 4 ?_
  rw [rounds_succ]
  go_wp2_with fail
  refine (H1.out _).mono ?_
  rintro e w3 ⟨rfl, hb3⟩
  have c3 : Blk w3 w2.heap.size [.int .i64 0, .int .i64 0, .int .i64 z] 36 := Blk.kept (Blk.new _ _ _ rfl) hb3
  have r3 := (r2.alloc _).kept hb3
  have acc3 := below_step (acc2.alloc z2 _) hb3
  obtain ⟨u30, u31, u32, g30, g31, g32⟩ := c3.three
  go_wp2_with fail
  rw [rounds_succ]
  go_wp2_with fail
  refine (H2.out _).mono ?_
  rintro e w4 ⟨rfl, hb4⟩
  have c4 := c3.kept hb4
  have r4 := r3.kept hb4
  have acc4 := below_step acc3 hb4
  obtain ⟨u40, u41, u42, g40, g41, g42⟩ := c4.three
  clear u30 u31 u32 g30 g31 g32
  go_wp2_with fail
  rw [rounds_succ]
  go_wp2_with fail
  refine (H3.out _).mono ?_
  rintro e w5 ⟨rfl, hb5⟩
  have c5 := c4.kept hb5
  have r5 := r4.kept hb5
  have acc5 := below_step acc4 hb5
  obtain ⟨u50, u51, u52, g50, g51, g52⟩ := c5.three
  clear u40 u41 u42 g40 g41 g42 hb3 hb4 hb5 c3 c4 r3 r4 acc3 acc4
  have z5 := acc5.size
  have lc5 := c5.lt
  have lr5 := r5.lt
  go_wp2_with fail
  rw [rounds_succ]
  go_wp2_with fail
  refine wp_loop_rounds 4 ?_
  rw [rounds_succ]
  go_wp2_with fail
  rw [rounds_succ]
  go_wp2_with fail
  rw [rounds_succ]
  go_wp2_with fail
  rw [rounds_succ]
  go_wp2_with fail
  refine (vectorOf_any _ _ _ _).mono ?_
  rintro e w7 ⟨rfl, hb7⟩
  have r7 : Blk w7 (w.heap.size + 1) [.int .i64 0, .int .i64 0, .int .i64 0] 23 := Blk.kept (by (repeat (first | with_reducible assumption | with_reducible exact Blk.new _ _ _ (by first | rfl | (simp; done) | (simp; omega)) | simp only [Blk.drew_iff] | simp only [Blk.drewN_iff] | with_reducible refine Blk.far ?_ (by first | (simp; done) | (simp; omega) | omega) _ | with_reducible refine Blk.alloc ?_ _ | with_reducible refine Blk.set3 (u := .int .i64 0) (v := .int .i64 0) (x := .int .i64 0) ?_ _ _ _))) hb7
  have acc7 : Below w.heap.size w w7 := below_step (by (repeat (first | with_reducible assumption | with_reducible exact Below.refl _ _ | simp only [Below.drew_iff] | simp only [Below.drewN_iff] | with_reducible refine Below.setCell ?_ (by first | omega | (simp; done) | (simp; omega)) _ | with_reducible refine Below.alloc ?_ (by first | omega | (simp; done) | (simp; omega)) _))) hb7
  have z7 := acc7.size
  obtain ⟨r70, r71, r72, f70, f71, f72⟩ := r7.three
  clear u50 u51 u52 g50 g51 g52
  go_wp2
  obtain ⟨q0, q1, q2, _, _, _⟩ := (r7.set3 (.int .i64 0) (.int .i64 0) (.int .i64 (z.tdiv K))).three
  exact bodyPost_ret (v := .tuple #[v3 ((0 : Int).tdiv K) ((0 : Int).tdiv K) (z.tdiv K), .int .i64 K, .int .i64 0]) (by simp [results, Try.results27, go_sem, q0, q1, q2, Int.zero_tdiv]) rfl ⟨rfl, by go_grown⟩

set_option maxHeartbeats 8000000 in
theorem primitive_any (x y z : Int) (w : World) :
    Calls Try.prog 27 #[v3 x y z] w fun e w' => e = .returned (primV x y z) ∧ Below w.heap.size w w' := by
  unfold primV
  by_cases h : inV x y z = true
  · rw [if_pos h]
    have he : errB (inV x y z) = 0 := by rw [h]; rfl
    have He := Lib.hid he
    obtain ⟨⟨a1, a2⟩, ⟨a3, a4⟩, a5, a6⟩ := inV_true h
    clear he
    by_cases hz : x = 0 ∧ y = 0 ∧ z = 0
    · obtain ⟨rfl, rfl, rfl⟩ := hz
      rw [if_pos (by simp)]
      clear h
      go_enter Try.func27, Try.ntmps27
      go_wp2_with fail
      refine (check_one 0 0 0 _ _ _ (by simp)).mono ?_
      rw [He.out]
      rintro e w1 ⟨rfl, hb⟩
      have b0 : Blk w1 w.heap.size [.int .i64 0, .int .i64 0, .int .i64 0] 23 := Blk.kept (((Blk.new _ _ _ rfl).alloc _).alloc _) hb
      have b1 : Blk w1 (w.heap.size + 1) [.int .i64 0, .int .i64 0, .int .i64 0] 23 := Blk.kept ((Blk.new _ _ _ (by simp)).alloc _) hb
      obtain ⟨c0, c1, c2, _, _, _⟩ := b0.three
      obtain ⟨r0, r1, r2, s0, s1, s2⟩ := b1.three
      go_wp2
      exact bodyPost_ret (v := .tuple #[v3 0 0 0, .int .i64 0, .int .i64 1]) (by simp [results, Try.results27, go_sem, r0, r1, r2]) rfl ⟨rfl, by (repeat (first | exact Below.refl _ _ | (refine Below.setCell ?_ (by first | omega | (simp; done) | (simp; omega)) _) | (refine Below.alloc ?_ (by first | omega | (simp; done) | (simp; omega)) _) | (refine Below.trans ?_ (Below.mono hb (by first | omega | (simp; done) | (simp; omega))))))⟩
    · rw [if_neg hz]
      have hk1 := gcd3_pos hz
      have hk2 := gcd3_le (M := 1000000) ⟨a1, a2⟩ ⟨a3, a4⟩ ⟨a5, a6⟩
      obtain ⟨p, hp⟩ : ∃ p : Int, p = Int.gcd 0 x := ⟨_, rfl⟩
      obtain ⟨q, hq⟩ : ∃ q : Int, q = Int.gcd p y := ⟨_, rfl⟩
      have hp' : 0 ≤ p ∧ p ≤ 1000000 := by rw [hp, gcd_zero_one]; omega
      have hq' : 0 ≤ q ∧ q ≤ 1000000 := by
        have := gcd_le (M := 1000000) (a := p) (b := y) (by omega) (by omega)
        omega
      obtain ⟨K, hK⟩ : ∃ K, K = gcd3 x y z := ⟨_, rfl⟩
      have hKq : K = Int.gcd q z := by
        rw [hK, hq, hp, gcd_zero_one, gcd_abs_left]; rfl
      have D1 : ∀ W, Calls Try.prog 44 #[.int .i64 0, .int .i64 x] W fun e w' => e = .returned (.int .i64 p) ∧ Below W.heap.size W w' := fun W => hp ▸ divisor_any 0 x W (by omega) (by omega) (by omega) (by omega)
      have D2 : ∀ W, Calls Try.prog 44 #[.int .i64 p, .int .i64 y] W fun e w' => e = .returned (.int .i64 q) ∧ Below W.heap.size W w' := fun W => hq ▸ divisor_any p y W (by omega) (by omega) (by omega) (by omega)
      have D3 : ∀ W, Calls Try.prog 44 #[.int .i64 q, .int .i64 z] W fun e w' => e = .returned (.int .i64 K) ∧ Below W.heap.size W w' := fun W => hKq ▸ divisor_any q z W (by omega) (by omega) (by omega) (by omega)
      rw [← hK] at hk1 hk2 ⊢
      have hcs : ¬ x = 0 ∨ (x = 0 ∧ ¬ y = 0) ∨ (x = 0 ∧ y = 0 ∧ ¬ z = 0) := by omega
      rcases hcs with hn | ⟨rfl, hn⟩ | ⟨rfl, rfl, hn⟩
      · exact prim_1 x y z p q K w hn He D1 D2 D3 ⟨hk1, hk2⟩ ⟨a1, a2⟩ ⟨a3, a4⟩ ⟨a5, a6⟩
      · exact prim_2 y z p q K w hn He D1 D2 D3 ⟨hk1, hk2⟩ ⟨a3, a4⟩ ⟨a5, a6⟩
      · exact prim_3 z p q K w hn He D1 D2 D3 ⟨hk1, hk2⟩ ⟨a5, a6⟩
  · rw [if_neg h]
    have he : errB (inV x y z) = 6 := by unfold errB; rw [if_neg h]
    have He := Lib.hid he
    clear he h
    go_enter Try.func27, Try.ntmps27
    go_wp2_with fail
    refine (check_one x y z _ _ _ (by simp)).mono ?_
    rw [He.out]
    rintro e w1 ⟨rfl, hb⟩
    have b1 : Blk w1 (w.heap.size + 1) [.int .i64 0, .int .i64 0, .int .i64 0] 23 := Blk.kept ((Blk.new _ _ _ (by simp)).alloc _) hb
    obtain ⟨r0, r1, r2, s0, s1, s2⟩ := b1.three
    go_wp2
    exact bodyPost_ret (v := .tuple #[v3 0 0 0, .int .i64 0, .int .i64 6]) (by simp [results, Try.results27, go_sem, r0, r1, r2]) rfl ⟨rfl, by (repeat (first | exact Below.refl _ _ | (refine Below.setCell ?_ (by first | omega | (simp; done) | (simp; omega)) _) | (refine Below.alloc ?_ (by first | omega | (simp; done) | (simp; omega)) _) | (refine Below.trans ?_ (Below.mono hb (by first | omega | (simp; done) | (simp; omega))))))⟩
end Go.Proofs.Ytnhoabehemnpnaa
