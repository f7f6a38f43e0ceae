/- The small functions of package vector: what each call returns, in whatever memory it is called. -/
import Derived.Test.YtklkkehhmmipeaaChecked
import Derived.WalkKit
import Derived.Handy
import Derived.WalkLawsBesides
import Derived.WalkSpells
import Derived.Outline
import Derived.RegionTactic
import Derived.ChangeAlike
import Derived.Lib.Hide
import Derived.Laws.StructEq
import Derived.Deep.QuietTactic
import Derived.BigQuiet
import Derived.Test.YtklkkehhmmipeaaVM
import Derived.Test.YtklkkehhmmipeaaVG
import Derived.Test.YtklkkehhmmipeaaVX
namespace Go.Proofs.Ytklkkehhmmipeaa
open Go.RowKit

theorem ret_bool {a b : Bool} (h : a = b) : Ending.returned (.bool a) = .returned (.bool b) := by rw [h]
theorem ret_int {k : IntKind} {a b : Int} (h : a = b) : Ending.returned (.int k a) = .returned (.int k b) := by rw [h]
/-- A vector, or an array of three numbers. -/
abbrev v3 (x y z : Int) : Value := .agg #[.int .i64 x, .int .i64 y, .int .i64 z]
/-- A point of a plane. -/
abbrev v2 (x y : Int) : Value := .agg #[.int .i64 x, .int .i64 y]
/-- What a call has left of the memory that it found: every old cell and every old mark reads as before. -/
theorem old_cells {W w1 : World} (hb : Below W.heap.size W w1) : (∀ b o, b < W.heap.size → w1.cell? ⟨b, o, none⟩ = W.cell? ⟨b, o, none⟩) ∧ (∀ b o, b < W.heap.size → w1.frozen? ⟨b, o, none⟩ = W.frozen? ⟨b, o, none⟩) :=
  ⟨fun b o h => hb.cell (p := ⟨b, o, none⟩) h, fun b o h => hb.frozen (p := ⟨b, o, none⟩) h⟩

theorem coordinates_any (x y z : Int) (w : World) :
    Calls Try.prog 74 #[v3 x y z] w fun e w' => e = .returned (v3 x y z) ∧ Below w.heap.size w w' := by
  go_enter Try.func74, Try.ntmps74
  go_wp2
  exact bodyPost_ret (v := v3 x y z) (by simp [results, Try.results74, go_sem]) rfl ⟨rfl, by go_grown⟩

theorem flat_any (x y : Int) (w : World) :
    Calls Try.prog 73 #[v2 x y] w fun e w' => e = .returned (v3 x y 0) ∧ Below w.heap.size w w' := by
  go_enter Try.func73, Try.ntmps73
  go_wp2
  exact bodyPost_ret (v := v3 x y 0) (by simp [results, Try.results73, go_sem]) rfl ⟨rfl, by go_grown⟩

/-- A coordinate is in range. -/
def inB (x : Int) : Bool := decide (-1000000 ≤ x ∧ x ≤ 1000000)
theorem inB_true {x : Int} (h : inB x = true) : -1000000 ≤ x ∧ x ≤ 1000000 := by simpa [inB] using h
theorem inB_false {x : Int} (h : inB x = false) : x < -1000000 ∨ 1000000 < x := by simp [inB] at h; omega
def inV (x y z : Int) : Bool := inB x && inB y && inB z
theorem inV_true {x y z : Int} (h : inV x y z = true) : (-1000000 ≤ x ∧ x ≤ 1000000) ∧ (-1000000 ≤ y ∧ y ≤ 1000000) ∧ (-1000000 ≤ z ∧ z ≤ 1000000) := by
  simp [inV, inB] at h; omega
theorem inV_mk {x y z : Int} (h1 : -1000000 ≤ x ∧ x ≤ 1000000) (h2 : -1000000 ≤ y ∧ y ≤ 1000000) (h3 : -1000000 ≤ z ∧ z ≤ 1000000) : inV x y z = true := by
  simp [inV, inB]; omega
/-- The error of a list of vectors. -/
def errB (b : Bool) : Int := if b = true then 0 else 6

/-- A list of vectors as it lies in memory. -/
def Vecs (w : World) (B : Nat) (A : Option Addr) (n : Nat) (xs : List (Int × Int × Int)) : Prop :=
  xs.length = n ∧ ∃ b off, A = some ⟨b, off, none⟩ ∧ b < B ∧ ∀ k x, xs[k]? = some x → w.cell? ⟨b, off + k * 3, none⟩ = some (.int .i64 x.1) ∧ w.cell? ⟨b, off + k * 3 + 1, none⟩ = some (.int .i64 x.2.1) ∧ w.cell? ⟨b, off + k * 3 + 2, none⟩ = some (.int .i64 x.2.2)
theorem Vecs.below {w w' : World} {A : Option Addr} {n : Nat} {xs : List (Int × Int × Int)} (h : Vecs w w.heap.size A n xs) (hb : Below w.heap.size w w') : Vecs w' w.heap.size A n xs := by
  obtain ⟨hl, b, off, e, hB, hc⟩ := h
  refine ⟨hl, b, off, e, hB, fun k x hx => ?_⟩
  obtain ⟨c1, c2, c3⟩ := hc k x hx
  exact ⟨(hb.cell (p := ⟨b, _, none⟩) hB).trans c1, (hb.cell (p := ⟨b, _, none⟩) hB).trans c2, (hb.cell (p := ⟨b, _, none⟩) hB).trans c3⟩

theorem idx0 (x y z : Int) (w : World) : (Instr.index 84 (v3 x y z) (.int .i64 0)).run Try.prog w = .ok (.int .i64 x) w := by kernel_rfl
theorem idx1 (x y z : Int) (w : World) : (Instr.index 84 (v3 x y z) (.int .i64 1)).run Try.prog w = .ok (.int .i64 y) w := by kernel_rfl
theorem idx2 (x y z : Int) (w : World) : (Instr.index 84 (v3 x y z) (.int .i64 2)).run Try.prog w = .ok (.int .i64 z) w := by kernel_rfl
theorem allV_snoc {xs : List (Int × Int × Int)} {k : Nat} {x y z : Int} (h : xs[k]? = some (x, y, z)) (hn : ((xs.take k).all fun v => inV v.1 v.2.1 v.2.2) = true) (hv : inV x y z = true) : ((xs.take (k + 1)).all fun v => inV v.1 v.2.1 v.2.2) = true := by
  rw [List.take_succ_eq_append_getElem (List.getElem?_eq_some_iff.1 h).1, (List.getElem?_eq_some_iff.1 h).2, List.all_append, hn]
  simp [hv]
theorem allV_not {xs : List (Int × Int × Int)} {k : Nat} {x y z : Int} (h : xs[k]? = some (x, y, z)) (hv : ¬ inV x y z = true) : (6 : Int) = errB (xs.all fun v => inV v.1 v.2.1 v.2.2) := by
  have : (xs.all fun v => inV v.1 v.2.1 v.2.2) = false := by
    rw [List.all_eq_false]
    exact ⟨_, List.mem_of_getElem? h, hv⟩
  rw [this]; rfl

set_option maxHeartbeats 800000 in
theorem checkAll_any (A : Option Addr) (n c : Nat) (xs : List (Int × Int × Int)) (w : World) (h : Vecs w w.heap.size A n xs) (hn : n ≤ 1000) :
    Calls Try.prog 79 #[.slice A n c] w fun e w' => e = .returned (.int .i64 (errB (xs.all fun v => inV v.1 v.2.1 v.2.2))) ∧ Below w.heap.size w w' := by
  go_enter Try.func79, Try.ntmps79
  go_wp2
  go_loopw [9] (fun i wr => ∃ k : Nat, k ≤ n ∧ i = .int .i64 k ∧ ((xs.take k).all fun v => inV v.1 v.2.1 v.2.2) = true ∧ Below w.heap.size w wr) (fun i _ => n - (intOf i).toNat)
  case atStart => exact ⟨0, Nat.zero_le _, rfl, rfl, Below.refl _ _⟩
  case round =>
    obtain ⟨k, hk, rfl, hno, hbel⟩ := hrel
    have Hno := Lib.hid hno
    clear hno
    by_cases hlt : k < n
    · have hl := h.1
      obtain ⟨_, b, off, rfl, hbB, hc⟩ := h.below hbel
      obtain ⟨x, hx⟩ : ∃ x, xs[k]? = some x := ⟨_, List.getElem?_eq_getElem (by omega)⟩
      obtain ⟨c1, c2, c3⟩ := hc k x hx
      obtain ⟨x, y, z⟩ := x
      dsimp only at c1 c2 c3
      have Hx := Lib.hid hx
      have Hl := Lib.hid hl
      have hsz := hbel.size
      clear hx hc hl h
      have hcases : (x < -1000000 ∨ 1000000 < x) ∨ ((-1000000 ≤ x ∧ x ≤ 1000000) ∧ (y < -1000000 ∨ 1000000 < y)) ∨ (((-1000000 ≤ x ∧ x ≤ 1000000) ∧ (-1000000 ≤ y ∧ y ≤ 1000000)) ∧ (z < -1000000 ∨ 1000000 < z)) ∨ ((-1000000 ≤ x ∧ x ≤ 1000000) ∧ (-1000000 ≤ y ∧ y ≤ 1000000) ∧ (-1000000 ≤ z ∧ z ≤ 1000000)) := by omega
      have i0 := idx0 x y z
      have i1 := idx1 x y z
      have i2 := idx2 x y z
      rcases hcases with (k1 | k1) | ⟨⟨j1, j2⟩, (k1 | k1)⟩ | ⟨⟨⟨j1, j2⟩, j3, j4⟩, (k1 | k1)⟩ | ⟨⟨j1, j2⟩, ⟨j3, j4⟩, j5, j6⟩
      rotate_right
      · go_wp2_with (go_at_call 74; refine (coordinates_any x y z _).mono ?_; rintro e w1 ⟨rfl, hb1⟩; obtain ⟨hq, hf⟩ := old_cells hb1)
        refine wp_loop_rounds 4 ?_
        rw [rounds_succ]
        go_wp2
        rw [rounds_succ]
        go_wp2
        rw [rounds_succ]
        go_wp2
        rw [rounds_succ]
        go_wp2
        go_roundw
        case rel => exact ⟨k + 1, by omega, by go_num, allV_snoc Hx.out Hno.out (inV_mk ⟨j1, j2⟩ ⟨j3, j4⟩ ⟨j5, j6⟩), (hbel.alloc (by omega) _).trans (hb1.mono (by simp; omega))⟩
        case measure => simp [intOf]; omega
      all_goals
        go_wp2_with (go_at_call 74; refine (coordinates_any x y z _).mono ?_; rintro e w1 ⟨rfl, hb1⟩; obtain ⟨hq, hf⟩ := old_cells hb1)
        refine wp_loop_rounds 4 ?_
        repeat (rw [rounds_succ]; go_wp2)
        go_ret
        refine ⟨ret_int ?_, ?_⟩
        · exact allV_not Hx.out (fun hv => by have := inV_true hv; omega)
        · exact (hbel.alloc (by omega) _).trans (hb1.mono (by simp; omega))
    · have hl := h.1
      have e : xs.take k = xs := List.take_of_length_le (by omega)
      rw [e] at Hno
      clear e hl
      go_wp2
      go_ret
      exact ⟨ret_int (by rw [Hno.out]; rfl), hbel⟩
end Go.Proofs.Ytklkkehhmmipeaa
