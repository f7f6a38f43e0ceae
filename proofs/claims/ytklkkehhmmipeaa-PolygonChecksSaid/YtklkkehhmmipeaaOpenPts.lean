/- How a list of points that comes in as an argument reads. -/
import Derived.Test.YtklkkehhmmipeaaPA
import Derived.Deep.Slices
import Derived.Deep.Fields
import Derived.ProofKit
import Derived.ChangeSame
namespace Go.Proofs.Ytklkkehhmmipeaa
open Go.ChangeShapes Go.WideShapes Go.RowKit

theorem cells_pt2 : Try.prog.cellsOf 31 = 2 := by kernel_rfl

theorem open_add (b off k : Nat) : ({ block := b, off := off } : Addr).add k = ⟨b, off + k, none⟩ := by
  unfold Addr.add
  split <;> simp_all
theorem open_pts {H : Type} {enc : TypeId × Value → H} {W : World} {base : Nat} {spare : Nat → Bool} {held : Bool} {fuel : Nat} {cs : List Value} {x : DataW H × List MemPlace}
    (h : DataW.trod enc Try.prog W base spare held fuel 22 cs = some x) :
    ∃ A n c xs, cs = [.slice A n c] ∧ Row W W.heap.size A n xs ∧ n ≤ maxLen ∧ (A = none → c = 0) := by
  rcases Go.Deep.open_slice Try.underlying22 h with ⟨hc, _⟩ | ⟨a, len, cap, m, k, D, Pl, hc, hb, hl, hm, hmm, hx, hi⟩
  · exact ⟨none, 0, 0, [], hc, Row.nil, by simp [maxLen], fun _ => rfl⟩
  · have hlm : len ≤ m := by rw [hmm]; split <;> omega
    have step : ∀ i, i < len → ∃ p q : Int, W.cell? (a.add (i * 2)) = some (.int .i64 p) ∧ W.cell? (a.add (i * 2 + 1)) = some (.int .i64 q) := by
      intro i hil
      obtain ⟨cs', hcs, ht⟩ := hi i (by omega)
      rw [cells_pt2] at hcs
      obtain ⟨_, hcl, hat⟩ := World.cells?_some hcs
      match cs', hcl with
      | [u0, u1], _ =>
        have a0 := hat 0 (by omega)
        have a1 := hat 1 (by omega)
        rw [Go.Deep.add_add] at a0 a1
        simp at a0 a1
        obtain ⟨y0, y1, k1, _, _, h0, h1⟩ := trod_struct2 Try.underlying31 ht
        have g0 : DataW.trod enc Try.prog W base spare held k1 3 [u0] = some y0 := by
          have e : Try.prog.cellsOf 3 = 1 := by kernel_rfl
          simp only [e] at h0
          exact h0
        have g1 : DataW.trod enc Try.prog W base spare held k1 3 [u1] = some y1 := by
          have e : Try.prog.cellsOf 3 = 1 := by kernel_rfl
          simp only [e] at h1
          exact h1
        obtain ⟨p, e0, _, _⟩ := DataW.trod_int Try.underlying3 g0
        obtain ⟨q, e1, _, _⟩ := DataW.trod_int Try.underlying3 g1
        simp at e0 e1
        subst e0 e1
        exact ⟨p, q, a0, a1⟩
    let xs : List (Int × Int) := (List.range len).map fun i => (match W.cell? (a.add (i * 2)) with | some (.int _ p) => p | _ => 0, match W.cell? (a.add (i * 2 + 1)) with | some (.int _ q) => q | _ => 0)
    have hat : ∀ i, i < len → ∃ p q : Int, xs[i]? = some (p, q) ∧ W.cell? (a.add (i * 2)) = some (.int .i64 p) ∧ W.cell? (a.add (i * 2 + 1)) = some (.int .i64 q) := by
      intro i hil
      obtain ⟨p, q, c0, c1⟩ := step i hil
      exact ⟨p, q, by simp [xs, hil, c0, c1], c0, c1⟩
    refine ⟨some a, len, cap, xs, hc, ⟨by simp [xs], fun hn => ?_⟩, by omega, fun h => by cases h⟩
    obtain ⟨b, off, spot⟩ := a
    obtain ⟨_, _, _, c0, _⟩ := hat 0 hn
    have hs : spot = none := by
      have := World.cell?_spot c0
      simpa [Addr.add] using this
    subst hs
    refine ⟨b, off, rfl, ?_, fun k x hx => ?_⟩
    · have := World.block_lt_of_cell? _ _ c0
      simpa [Addr.add] using this
    · have hk : k < len := by
        have := (List.getElem?_eq_some_iff.1 hx).1
        simpa [xs] using this
      obtain ⟨p, q, hx', c0, c1⟩ := hat k hk
      rw [hx] at hx'
      injection hx' with hx'
      subst hx'
      refine ⟨?_, ?_⟩
      · rw [open_add] at c0; exact c0
      · rw [open_add] at c1; exact c1
theorem open_pol {H : Type} {enc : TypeId × Value → H} {W : World} {base : Nat} {spare : Nat → Bool} {held : Bool} {fuel : Nat} {cs : List Value} {x : DataW H × List MemPlace}
    (h : DataW.trod enc Try.prog W base spare held fuel 23 cs = some x) :
    ∃ A n c xs, cs = [.slice A n c] ∧ Row W W.heap.size A n xs ∧ n ≤ maxLen ∧ (A = none → c = 0) := by
  rcases Go.Deep.open_slice Try.underlying23 h with ⟨hc, _⟩ | ⟨a, len, cap, m, k, D, Pl, hc, hb, hl, hm, hmm, hx, hi⟩
  · exact ⟨none, 0, 0, [], hc, Row.nil, by simp [maxLen], fun _ => rfl⟩
  · have hlm : len ≤ m := by rw [hmm]; split <;> omega
    have step : ∀ i, i < len → ∃ p q : Int, W.cell? (a.add (i * 2)) = some (.int .i64 p) ∧ W.cell? (a.add (i * 2 + 1)) = some (.int .i64 q) := by
      intro i hil
      obtain ⟨cs', hcs, ht⟩ := hi i (by omega)
      rw [cells_pt2] at hcs
      obtain ⟨_, hcl, hat⟩ := World.cells?_some hcs
      match cs', hcl with
      | [u0, u1], _ =>
        have a0 := hat 0 (by omega)
        have a1 := hat 1 (by omega)
        rw [Go.Deep.add_add] at a0 a1
        simp at a0 a1
        obtain ⟨y0, y1, k1, _, _, h0, h1⟩ := trod_struct2 Try.underlying31 ht
        have g0 : DataW.trod enc Try.prog W base spare held k1 3 [u0] = some y0 := by
          have e : Try.prog.cellsOf 3 = 1 := by kernel_rfl
          simp only [e] at h0
          exact h0
        have g1 : DataW.trod enc Try.prog W base spare held k1 3 [u1] = some y1 := by
          have e : Try.prog.cellsOf 3 = 1 := by kernel_rfl
          simp only [e] at h1
          exact h1
        obtain ⟨p, e0, _, _⟩ := DataW.trod_int Try.underlying3 g0
        obtain ⟨q, e1, _, _⟩ := DataW.trod_int Try.underlying3 g1
        simp at e0 e1
        subst e0 e1
        exact ⟨p, q, a0, a1⟩
    let xs : List (Int × Int) := (List.range len).map fun i => (match W.cell? (a.add (i * 2)) with | some (.int _ p) => p | _ => 0, match W.cell? (a.add (i * 2 + 1)) with | some (.int _ q) => q | _ => 0)
    have hat : ∀ i, i < len → ∃ p q : Int, xs[i]? = some (p, q) ∧ W.cell? (a.add (i * 2)) = some (.int .i64 p) ∧ W.cell? (a.add (i * 2 + 1)) = some (.int .i64 q) := by
      intro i hil
      obtain ⟨p, q, c0, c1⟩ := step i hil
      exact ⟨p, q, by simp [xs, hil, c0, c1], c0, c1⟩
    refine ⟨some a, len, cap, xs, hc, ⟨by simp [xs], fun hn => ?_⟩, by omega, fun h => by cases h⟩
    obtain ⟨b, off, spot⟩ := a
    obtain ⟨_, _, _, c0, _⟩ := hat 0 hn
    have hs : spot = none := by
      have := World.cell?_spot c0
      simpa [Addr.add] using this
    subst hs
    refine ⟨b, off, rfl, ?_, fun k x hx => ?_⟩
    · have := World.block_lt_of_cell? _ _ c0
      simpa [Addr.add] using this
    · have hk : k < len := by
        have := (List.getElem?_eq_some_iff.1 hx).1
        simpa [xs] using this
      obtain ⟨p, q, hx', c0, c1⟩ := hat k hk
      rw [hx] at hx'
      injection hx' with hx'
      subst hx'
      refine ⟨?_, ?_⟩
      · rw [open_add] at c0; exact c0
      · rw [open_add] at c1; exact c1
end Go.Proofs.Ytklkkehhmmipeaa
