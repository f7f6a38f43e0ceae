/- slices.Grow at the nil slice, and slices.Concat, at lists of intervals. -/
import Derived.Test.YtiebchfdbejfbaaAppends
import Derived.Lib.AppendZerosOnto
namespace Go.Proofs.Ytiebchfdbejfbaa
open Go.RowKit

/-- A call hands back a slice of its own that reads as xs. -/
def OwnRet (xs : List (Int × Int)) (w : World) (e : Ending) (w' : World) : Prop := ∃ v, e = .returned v ∧ Own w' w.heap.size v xs ∧ Below w.heap.size w w'

theorem run_zeros (n : Nat) (h0 : 0 < n) (hn : n ≤ 1000000000) (w : World) : ∀ ty, (Builtin.append_ #[33, 3] ty #[.slice none 0 0, .int .i64 n]).run Try.prog w =
    .ok (.slice (some ⟨w.heap.size, 0, none⟩) n (grownCap w n 0 23)) (w.drew.alloc (.cells (Builtin.zeroCells #[.int .i64 0, .int .i64 0] n ++ Builtin.zeroCells #[.int .i64 0, .int .i64 0] (grownCap w n 0 23 - n)) 23)) := by
  intro ty
  obtain ⟨i0, hi0, hz0, hz1, hz2⟩ := info_parts iv_info
  have h := Lib.run_append_grow_zeros (P := Try.prog) w 33 3 ty 23 i0 _ .i64 .i64 Try.underlying33 Try.underlying3 hi0 hz0 none 0 0 []
    (run_firstCells_none w.drew i0.size 0 0 0) n h0 (by omega) (by omega) (by omega) (by rw [hz2]; omega) (by rw [Nat.zero_add, hz2]; have := nextslicecap_le h0; omega)
  rw [Nat.zero_add] at h
  simpa [Value.cells] using h

theorem grow_any (n : Nat) (w : World) (hn : n ≤ 1000000000) :
    Calls Try.prog 57 #[.slice none 0 0, .int .i64 n] w (OwnRet [] w) := by
  rcases Nat.eq_zero_or_pos n with h0 | h0
  · subst h0
    go_enter Try.func57, Try.ntmps57
    go_wp2
    go_ret
    exact ⟨_, rfl, Own.nil _ _, Below.refl _ _⟩
  · have hz := run_zeros n h0 hn w
    have hG := grownCap_ge w n 0 23
    have hG2 := grownCap_le_maxLen w n 0 23 (by unfold maxLen; omega)
    obtain ⟨G, hg⟩ : ∃ G, G = grownCap w n 0 23 := ⟨_, rfl⟩
    rw [← hg] at hz hG hG2
    have hcs : (Builtin.zeroCells #[.int .i64 0, .int .i64 0] n ++ Builtin.zeroCells #[.int .i64 0, .int .i64 0] (G - n)).size = G * 2 := by
      rw [Array.size_append, size_zeroCells, size_zeroCells]; simp; omega
    generalize Builtin.zeroCells #[.int .i64 0, .int .i64 0] n ++ Builtin.zeroCells #[.int .i64 0, .int .i64 0] (G - n) = cs at hz hcs
    have Hz := Lib.hid hz
    have Hcs := Lib.hid hcs
    have hG3 : G ≤ 9223372036854775807 := by unfold maxLen at hG2; omega
    have HG2 := Lib.hid hG2
    clear hg hz hcs hG2
    have hn0 : (0 : Int) < (n : Int) := by omega
    go_enter Try.func57, Try.ntmps57
    go_wp2_with (at_builtin; refine Lib.wpList_append_run _ rfl _ _ _ _ rfl _ _ rfl rfl _ _ (Hz.out _) ?_)
    go_ret
    exact ⟨_, rfl, World.ownsRow_made w.drew cs G (Nat.le_refl _) HG2.out Hcs.out, (Below.refl _ _).drew.alloc (Nat.le_refl _) _⟩
/-- A list of intervals as it lies in memory: address, length, capacity, what it reads as. -/
structure Lst where
  A : Option Addr
  n : Nat
  c : Nat
  xs : List (Int × Int)
/-- All intervals of lists, in order. -/
def cat : List Lst → List (Int × Int)
  | [] => []
  | l :: Ls => l.xs ++ cat Ls
theorem cat_append (a b : List Lst) : cat (a ++ b) = cat a ++ cat b := by
  induction a with
  | nil => rfl
  | cons l a ih => simp [cat, ih]
theorem cat_next {Ls : List Lst} {k : Nat} {l : Lst} (h : Ls[k]? = some l) : cat (Ls.take (k + 1)) = cat (Ls.take k) ++ l.xs := by
  rw [List.take_succ_eq_append_getElem (List.getElem?_eq_some_iff.1 h).1, (List.getElem?_eq_some_iff.1 h).2, cat_append]
  simp [cat]
theorem cat_take_le (Ls : List Lst) (k : Nat) : (cat (Ls.take k)).length ≤ (cat Ls).length := by
  conv => rhs; rw [← List.take_append_drop k Ls]
  rw [cat_append, List.length_append]
  omega
/-- A slice of slices that reads as these lists. -/
def Lsts (w : World) (B : Nat) (A : Option Addr) (Ls : List Lst) : Prop :=
  (∀ k l, Ls[k]? = some l → ∃ b off, A = some ⟨b, off, none⟩ ∧ b < B ∧ w.cell? ⟨b, off + k, none⟩ = some (.slice l.A l.n l.c)) ∧ ∀ l ∈ Ls, Ivs w B l.A l.n l.xs
theorem Lsts.below {w w' : World} {B : Nat} {A : Option Addr} {Ls : List Lst} (h : Lsts w B A Ls) (hb : Below B w w') : Lsts w' B A Ls :=
  ⟨fun k l hk => by
    obtain ⟨b, off, e, hB, hc⟩ := h.1 k l hk
    exact ⟨b, off, e, hB, (hb.cell (p := ⟨b, off + k, none⟩) hB).trans hc⟩, fun l hl => (h.2 l hl).below hb⟩

theorem concat_any (A : Option Addr) (n c : Nat) (Ls : List Lst) (w : World) (h : Lsts w w.heap.size A Ls) (hn : Ls.length = n) (hn2 : n ≤ 1000000) (hsz : (cat Ls).length ≤ 1000000000) :
    Calls Try.prog 53 #[.slice A n c] w (OwnRet (cat Ls) w) := by
  have Hn := Lib.hid hn
  clear hn
  go_enter Try.func53, Try.ntmps53
  go_wp2
  go_loop [3, 11] (fun s i => ∃ k : Nat, k ≤ n ∧ i = .int .i64 k ∧ s = .int .i64 ((cat (Ls.take k)).length : Nat)) (fun _ i => n - (intOf i).toNat)
  case atStart => exact ⟨0, Nat.zero_le _, rfl, rfl⟩
  case round =>
    obtain ⟨k, hk, rfl, rfl⟩ := hrel
    by_cases hlt : k < n
    · have hx : Ls[k]? = some (Ls[k]'(by have := Hn.out; omega)) := List.getElem?_eq_getElem _
      generalize Ls[k]'(by have := Hn.out; omega) = l at hx
      obtain ⟨b, off, rfl, hbB, hc1⟩ := h.1 k l hx
      have hlen := (h.2 l (List.mem_of_getElem? hx)).len
      have hnext := cat_next hx
      have hle := cat_take_le Ls (k + 1)
      rw [hnext, List.length_append, hlen] at hle
      have Hx := Lib.hid hx
      have e1 : (cat (Ls.take (k + 1))).length = (cat (Ls.take k)).length + l.n := by rw [hnext, List.length_append, hlen]
      have E1 := Lib.hid e1
      have Hlen := Lib.hid hlen
      clear hx hnext e1 hlen
      go_wp2
      go_round
      case rel => exact ⟨k + 1, by omega, by go_num, by rw [E1.out]; go_num⟩
      case measure => simp [intOf]; omega
    · have hkn : k = n := by omega
      subst hkn
      have hxk : Ls.take k = Ls := List.take_of_length_le (by have := Hn.out; omega)
      rw [hxk]
      clear hxk
      go_wp2_with (go_at_call 57; refine (grow_any _ _ hsz).mono ?_; rintro e w1 ⟨v0, rfl, hown0, hb0⟩)
      go_loopw [6, 27] (fun v i wr => ∃ j : Nat, j ≤ k ∧ i = .int .i64 j ∧ Own wr w.heap.size v (cat (Ls.take j)) ∧ Below w.heap.size w wr) (fun _ i _ => k - (intOf i).toNat)
      case atStart => exact ⟨0, Nat.zero_le _, rfl, hown0, hb0⟩
      case round =>
        obtain ⟨j, hj, rfl, hown, hbel⟩ := hrel
        by_cases hlt2 : j < k
        · have hx : Ls[j]? = some (Ls[j]'(by have := Hn.out; omega)) := List.getElem?_eq_getElem _
          generalize Ls[j]'(by have := Hn.out; omega) = l at hx
          obtain ⟨b, off, rfl, hbB, hc1⟩ := (h.below hbel).1 j l hx
          have hiv := ((h.below hbel).2 l (List.mem_of_getElem? hx))
          have hlen := hiv.len
          have hnext := cat_next hx
          have hle := cat_take_le Ls (j + 1)
          rw [hnext, List.length_append, hlen] at hle
          have Hnext := Lib.hid hnext
          clear hx hnext hlen
          go_wp2_with (at_builtin; refine wpList_append_ivs rfl (.tmp 31) (.tmp 32) rfl w.heap.size _ (cat (Ls.take j)) rfl hown _ l.A l.n l.c l.xs rfl hiv (by omega) hbel.size ?_; intro v' w2 hown2 hg2 _)
          go_roundw
          case rel => exact ⟨j + 1, by omega, by go_num, by rw [Hnext.out]; exact hown2, below_grown hbel hg2 hbel.size (fun g hg => (hown.form.choose_spec.choose_spec.2.2.2.2 g hg).1)⟩
          case measure => simp [intOf]; omega
        · have hjk : j = k := by omega
          subst hjk
          have hxk : Ls.take j = Ls := List.take_of_length_le (by have := Hn.out; omega)
          rw [hxk] at hown
          clear hxk
          go_wp2
          go_ret
          exact ⟨_, rfl, hown, hbel⟩
end Go.Proofs.Ytiebchfdbejfbaa
