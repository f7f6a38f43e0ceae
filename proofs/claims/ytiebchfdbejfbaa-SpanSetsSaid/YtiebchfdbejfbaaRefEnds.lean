/- The reference's ends: the numbers at which intervals begin or behind which they end. -/
import Derived.Test.YtiebchfdbejfbaaRefAdd
import Derived.Test.YtiebchfdbejfbaaWSound
namespace Go.Proofs.Ytiebchfdbejfbaa
open Go.RowKit
attribute [local go_sem ↓] Go.wp_at_zero Go.wp_at_succ

/-- The numbers zs are the ends of the intervals xs, increasing. -/
def EndsOf (xs : List (Int × Int)) (zs : List Int) : Prop := zs.Pairwise (· < ·) ∧ (∀ m, m ∈ zs ↔ ∃ x ∈ xs, m = x.1 ∨ m = x.2 + 1) ∧ zs.length ≤ 2 * xs.length
theorem EndsOf.nil : EndsOf [] [] := ⟨List.Pairwise.nil, fun m => by simp, by simp⟩
theorem EndsOf.step {xs : List (Int × Int)} {zs : List Int} {k : Nat} {x : Int × Int} (h : EndsOf (xs.take k) zs) (hx : xs[k]? = some x) : EndsOf (xs.take (k + 1)) (addL (x.2 + 1) (addL x.1 zs)) := by
  obtain ⟨h1, h2, h3⟩ := h
  have l1 := addL_len x.1 zs
  have l2 := addL_len (x.2 + 1) (addL x.1 zs)
  refine ⟨addL_sorted _ _ (addL_sorted _ _ h1), fun m => ?_, ?_⟩
  · rw [addL_mem, addL_mem, h2 m, take_next hx]
    constructor
    · rintro (h | h | ⟨y, hy, h⟩)
      · exact ⟨x, by simp, .inr h⟩
      · exact ⟨x, by simp, .inl h⟩
      · exact ⟨y, List.mem_append_left _ hy, h⟩
    · rintro ⟨y, hy, h⟩
      rcases List.mem_append.1 hy with hy | hy
      · exact .inr (.inr ⟨y, hy, h⟩)
      · simp at hy; subst hy
        rcases h with h | h
        · exact .inr (.inl h)
        · exact .inl h
  · rw [take_next hx, List.length_append]
    simp only [List.length_cons, List.length_nil]
    omega
/-- What ends hands back. -/
def EndsRet (xs : List (Int × Int)) (w : World) (e : Ending) (w' : World) : Prop :=
  ∃ b off n c zs, e = .returned (.slice (some ⟨b, off, none⟩) n c) ∧ n ≤ c ∧ c ≤ 9223372036854775807 ∧ RowI w' b off n zs ∧ EndsOf xs zs ∧ Below w.heap.size w w'

set_option maxHeartbeats 1600000 in
theorem ends_any (A : Option Addr) (n c : Nat) (xs : List (Int × Int)) (w : World) (h : Ivs w w.heap.size A n xs) (hn : n ≤ 100000) (hr : InR xs) :
    Calls Try.prog 56 #[.slice A n c] w (EndsRet xs w) := by
  have hlen := h.len
  go_enter Try.func56, Try.ntmps56
  go_wp2
  go_loopw [3, 4] (fun v i wr => ∃ (k b off m c : Nat) (zs : List Int), k ≤ n ∧ i = .int .i64 k ∧ v = .slice (some ⟨b, off, none⟩) m c ∧ m ≤ c ∧ c ≤ 9223372036854775807 ∧ RowI wr b off m zs ∧ EndsOf (xs.take k) zs ∧ Below w.heap.size w wr) (fun _ i _ => n - (intOf i).toNat)
  case atStart => exact ⟨0, w.heap.size, 0, 0, 0, [], Nat.zero_le _, rfl, rfl, Nat.le_refl _, by simp, ⟨rfl, by simp, fun j z hz => by simp at hz⟩, EndsOf.nil, below_new (Nat.le_refl _) _⟩
  case round =>
    obtain ⟨k, b2, o2, m, c2, zs, hk, rfl, rfl, k1, k2, hrow, hends, hbel⟩ := hrel
    by_cases hlt : k < n
    · obtain ⟨b, off, lo, hi, rfl, hbB, hx, hc1, hc2⟩ := (h.below hbel).at_ hlt
      have ho := hr _ (List.mem_of_getElem? hx)
      dsimp only at ho
      obtain ⟨q1, q2, q3, q4⟩ := ho
      have hnext := hends.step hx
      have hl1 := addL_len lo zs
      have hl0 := hrow.1
      have hl2 := hends.2.2
      rw [List.length_take] at hl2
      have hm : m ≤ 200000 := by omega
      have hm2 : (addL lo zs).length ≤ 200001 := by omega
      have Hnext := Lib.hid hnext
      have Hm2 := Lib.hid hm2
      clear hx hnext hends hl1 hl0 hl2 hm2
      have hszr := hbel.size
      have hbd : Below wr.heap.size wr wr.drew := (Below.refl _ _).drew
      have hb0 : Below wr.heap.size wr wr := Below.refl _ _
      have g0 : (0 : Int) ≤ (k : Int) := by omega
      have g1 : (k : Int) < (n : Int) := by omega
      have hw1 : IntKind.i64.wrap (hi + 1) = hi + 1 := IntWalk.i64_in _ (by omega)
      go_wp2
      go_region_held3 (fun w' => w'.cell? ⟨b, off + k * 2, none⟩ = some (.int .i64 lo) ∧ w'.cell? ⟨b, off + k * 2 + 1, none⟩ = some (.int .i64 hi))
        (first | go_keep | exact ⟨by assumption, by assumption⟩)
        (first
          | (go_at_call 61; refine (put_any b4 o4 n4 c4 (addL lo zs) (hi + 1) _ t3 t1 t2 t0).mono ?_; rintro e w5 ⟨b5, o5, n5, c5, rfl, t4, t5, t6, hb5⟩; have acc5 : Below wr.heap.size wr w5 := acc_next' acc4 hb5; have r2 : w5.cell? ⟨b, off + k * 2, none⟩ = some (.int .i64 lo) := cell_kept' hb5 (by assumption); have r3 : w5.cell? ⟨b, off + k * 2 + 1, none⟩ = some (.int .i64 hi) := cell_kept' hb5 (by assumption))
          | (go_at_call 61; (fail_if_success (have := b4)); refine (put_any b2 o2 m c2 zs lo _ (hrow.kept hbd) k1 k2 (by omega)).mono ?_; rintro e w4 ⟨b4, o4, n4, c4, rfl, t1, t2, t3, hb4⟩; have acc4 : Below wr.heap.size wr w4 := acc_next' hbd hb4; have r0 : w4.cell? ⟨b, off + k * 2, none⟩ = some (.int .i64 lo) := cell_kept' hb4 (by assumption); have r1 : w4.cell? ⟨b, off + k * 2 + 1, none⟩ = some (.int .i64 hi) := cell_kept' hb4 (by assumption); have t0 : n4 ≤ 1000000 := by have := Hm2.out; have := t3.1; omega))
      all_goals
        go_wp2
        go_roundw
        case rel => exact ⟨k + 1, b5, o5, n5, c5, _, by omega, by go_num, rfl, t4, t5, t6, Hnext.out, hbel.trans (acc5.mono hszr)⟩
        case measure => simp [intOf]; omega
    · have hxk : xs.take k = xs := List.take_of_length_le (by omega)
      rw [hxk] at hends
      clear hxk
      go_wp2
      go_ret
      exact ⟨_, _, _, _, zs, rfl, k1, k2, hrow, hends, hbel⟩
end Go.Proofs.Ytiebchfdbejfbaa
