/- How a list of numbers that comes in as an argument reads. -/
import Derived.Test.YtiebchfdbejfbaaWSound
import Derived.ProofKit
namespace Go.Proofs.Ytiebchfdbejfbaa
open Go.ChangeShapes Go.WideShapes Go.RowKit

theorem open_introw {H : Type} {enc : TypeId × Value → H} {W : World} {base : Nat} {spare : Nat → Bool} {held : Bool} {fuel : Nat} {A : Option Addr} {n c : Nat} {x : DataW H × List MemPlace}
    (h : DataW.trod enc Try.prog W base spare held fuel 36 (Value.slice A n c).cells.toList = some x) : ∃ zs, IntRow W A n zs := by
  rcases open_ints Try.underlying36 Try.underlying3 (by kernel_rfl) h with ⟨hc, _⟩ | ⟨a, len, cap, zs, hc, _, hl, hm, hz, _, hcell, _⟩
  · simp [Value.cells] at hc
    obtain ⟨rfl, rfl, rfl⟩ := hc
    exact ⟨[], rfl, fun h => absurd h (by omega)⟩
  · simp [Value.cells] at hc
    obtain ⟨rfl, rfl, rfl⟩ := hc
    have hll : n ≤ zs.length := by rw [hz]; split <;> omega
    refine ⟨zs.take n, by rw [List.length_take]; omega, fun hn => ?_⟩
    obtain ⟨b, off, spot⟩ := a
    have c0 := hcell 0 (by omega)
    have hs : spot = none := by
      have := World.cell?_spot c0
      simpa [Addr.add] using this
    subst hs
    refine ⟨b, off, rfl, ?_, fun k z hz => ?_⟩
    · have := World.block_lt_of_cell? _ _ c0
      simpa [Addr.add] using this
    · have hk : k < n := by
        have := (List.getElem?_eq_some_iff.1 hz).1
        rw [List.length_take] at this; omega
      have ck := hcell k (by omega)
      rw [List.getElem?_take, if_pos hk] at hz
      have e : zs.getD k 0 = z := by simp [List.getD, hz]
      rw [e] at ck
      rw [← ck]; congr 1; unfold Addr.add; split <;> simp_all
end Go.Proofs.Ytiebchfdbejfbaa
