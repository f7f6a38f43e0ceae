/- Loops round by round: what they come to. -/
import Derived.Test.YtgcmejgiodhldaaDoorX17
import Derived.IntWalk
namespace Go.Proofs.YtgcmejgiodhldaaDoor.Vx
open Go Go.RowKit
theorem wid {x : Int} (h : -9223372036854775808 ≤ x ∧ x ≤ 9223372036854775807) : IntKind.i64.wrap x = x := IntWalk.i64_in x (by omega)
theorem cand (p q : Bool) : (bif p then q else Bool.false) = (p && q) := by cases p <;> rfl
theorem cor (p q : Bool) : (bif p then Bool.true else q) = (p || q) := by cases p <;> rfl
/-- A loop that goes on from number to number as long as a test holds. -/
theorem scan_lgo {S : Type} {next : S → Option S} (mk : Int → S) (p : Int → Bool) (n : Int)
    (hin : ∀ i, 0 ≤ i → i < n → next (mk i) = if p i = true then some (mk (i + 1)) else none) (hend : next (mk n) = none) :
    ∀ (k : Nat) (i : Int), 0 ≤ i → i ≤ n → n - i ≤ k → ∃ j, lgo next k (mk i) = mk j ∧ i ≤ j ∧ j ≤ n ∧ (∀ m, i ≤ m → m < j → p m = true) ∧ (j < n → p j = false) := by
  intro k
  induction k with
  | zero =>
    intro i h0 hn hk
    have : i = n := by omega
    subst this
    exact ⟨i, rfl, Int.le_refl _, hn, fun m h1 h2 => by omega, fun h => by omega⟩
  | succ k ih =>
    intro i h0 hn hk
    by_cases he : i = n
    · subst he
      exact ⟨i, lgo_none hend, Int.le_refl _, hn, fun m h1 h2 => by omega, fun h => by omega⟩
    · have h1 := hin i h0 (by omega)
      cases hp : p i with
      | true =>
        rw [hp, if_pos rfl] at h1
        obtain ⟨j, h2, h3, h4, h5, h6⟩ := ih (i + 1) (by omega) (by omega) (by omega)
        refine ⟨j, by rw [lgo_some h1]; exact h2, by omega, h4, fun m h7 h8 => ?_, h6⟩
        by_cases hm : m = i
        · subst hm; exact hp
        · exact h5 m (by omega) h8
      | false =>
        rw [hp, if_neg (by simp)] at h1
        exact ⟨i, lgo_none h1, Int.le_refl _, hn, fun m h7 h8 => by omega, fun _ => hp⟩
/-- Whether all numbers below a bound pass. -/
theorem scan_all {S : Type} {next : S → Option S} (mk : Int → S) (p : Int → Bool) (n : Int) (hn : 0 ≤ n)
    (hin : ∀ i, 0 ≤ i → i < n → next (mk i) = if p i = true then some (mk (i + 1)) else none) (hend : next (mk n) = none) {k : Nat} (hk : n ≤ k) :
    ∃ j, lgo next k (mk 0) = mk j ∧ 0 ≤ j ∧ j ≤ n ∧ (j < n → p j = false) ∧ ((∀ m, 0 ≤ m → m < n → p m = true) ↔ j = n) := by
  obtain ⟨j, h1, h2, h3, h4, h5⟩ := scan_lgo mk p n hin hend k 0 (Int.le_refl _) hn (by omega)
  refine ⟨j, h1, h2, h3, h5, fun h => ?_, fun h m h6 h7 => h4 m h6 (by omega)⟩
  rcases Int.lt_or_eq_of_le h3 with h6 | h6
  · have := h j h2 h6
    rw [h5 h6] at this
    cases this
  · exact h6
end Go.Proofs.YtgcmejgiodhldaaDoor.Vx
