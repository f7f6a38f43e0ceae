/- The loop of normal: from a sorted list to the normal form. -/
import Derived.Test.YtiebchfdbejfbaaChecks
namespace Go.Proofs.Ytiebchfdbejfbaa
open Go.RowKit

/-- The least interval that contains both. -/
def hullI (x y : Int × Int) : Int × Int := (min x.1 y.1, max x.2 y.2)
/-- One step of the loop: the next interval joins the last one, or stands behind it. -/
def stepN (zs : List (Int × Int)) (a : Int × Int) : List (Int × Int) :=
  match zs.getLast? with
  | none => [a]
  | some l => if a.1 ≤ l.2 + 1 then zs.dropLast ++ [hullI l a] else zs ++ [a]
theorem stepN_nil (a : Int × Int) : stepN [] a = [a] := rfl
theorem stepN_join (ws : List (Int × Int)) (l a : Int × Int) (h : a.1 ≤ l.2 + 1) : stepN (ws ++ [l]) a = ws ++ [hullI l a] := by
  unfold stepN
  rw [List.getLast?_concat]
  simp [h]
theorem stepN_next (ws : List (Int × Int)) (l a : Int × Int) (h : ¬ a.1 ≤ l.2 + 1) : stepN (ws ++ [l]) a = ws ++ [l] ++ [a] := by
  unfold stepN
  rw [List.getLast?_concat]
  simp [h]
/-- All ends are in range. -/
def InR (zs : List (Int × Int)) : Prop := ∀ x ∈ zs, -1000000000000 ≤ x.1 ∧ x.1 ≤ 1000000000000 ∧ -1000000000000 ≤ x.2 ∧ x.2 ≤ 1000000000000
theorem InR.step {zs : List (Int × Int)} {a : Int × Int} (h : InR zs) (ha : -1000000000000 ≤ a.1 ∧ a.1 ≤ 1000000000000 ∧ -1000000000000 ≤ a.2 ∧ a.2 ≤ 1000000000000) : InR (stepN zs a) := by
  rcases List.eq_nil_or_concat zs with rfl | ⟨ws, l, rfl⟩
  · intro x hx; simp [stepN_nil] at hx; subst hx; exact ha
  · rw [List.concat_eq_append] at h ⊢
    have hl := h l (by simp)
    by_cases hle : a.1 ≤ l.2 + 1
    · rw [stepN_join _ _ _ hle]
      intro x hx
      rw [List.mem_append] at hx
      rcases hx with hx | hx
      · exact h x (List.mem_append_left _ hx)
      · simp at hx; subst hx; simp only [hullI]; omega
    · rw [stepN_next _ _ _ hle]
      intro x hx
      rw [List.mem_append] at hx
      rcases hx with hx | hx
      · exact h x hx
      · simp at hx; subst hx; exact ha
theorem stepN_len (zs : List (Int × Int)) (a : Int × Int) : (stepN zs a).length ≤ zs.length + 1 := by
  rcases List.eq_nil_or_concat zs with rfl | ⟨ws, l, rfl⟩
  · simp [stepN_nil]
  · rw [List.concat_eq_append]
    by_cases hle : a.1 ≤ l.2 + 1
    · rw [stepN_join _ _ _ hle]; simp
    · rw [stepN_next _ _ _ hle]; simp
/-- The normal form of a sorted list. -/
def foldN (ys : List (Int × Int)) : List (Int × Int) := ys.foldl stepN []
theorem foldN_next {ys : List (Int × Int)} {k : Nat} {x : Int × Int} (h : ys[k]? = some x) : foldN (ys.take (k + 1)) = stepN (foldN (ys.take k)) x := by
  unfold foldN; rw [take_next h, List.foldl_append]; rfl
theorem foldN_inR {ys : List (Int × Int)} (h : InR ys) : InR (foldN ys) := by
  have key : ∀ (ys zs : List (Int × Int)), InR zs → InR ys → InR (ys.foldl stepN zs) := by
    intro ys
    induction ys with
    | nil => intro zs h1 _; exact h1
    | cons y ys ih => intro zs h1 h2; exact ih _ (h1.step (h2 y List.mem_cons_self)) (fun x hx => h2 x (List.mem_cons_of_mem _ hx))
  exact key ys [] (fun x hx => by cases hx) h
theorem foldN_len (ys : List (Int × Int)) : (foldN ys).length ≤ ys.length := by
  have key : ∀ (ys zs : List (Int × Int)), (ys.foldl stepN zs).length ≤ zs.length + ys.length := by
    intro ys
    induction ys with
    | nil => simp
    | cons y ys ih => intro zs; have := ih (stepN zs y); have := stepN_len zs y; simp; omega
  simpa [foldN] using key ys []

theorem flat_set (ws : List (Int × Int)) (l x : Int × Int) : ((flat (ws ++ [l])).set (ws.length * 2) (.int .i64 x.1)).set (ws.length * 2 + 1) (.int .i64 x.2) = flat (ws ++ [x]) := by
  rw [flat_append, flat_append, ← flat_len]
  simp [flat]
/-- A slice of the call's own that has a last interval. -/
theorem Own.last {w : World} {base : Nat} {v : Value} {ws : List (Int × Int)} {l : Int × Int} (h : Own w base v (ws ++ [l])) :
    ∃ g cap, v = .slice (some ⟨g, 0, none⟩) (ws.length + 1) cap ∧ base ≤ g ∧ g < w.heap.size ∧ ws.length + 1 ≤ cap ∧ cap ≤ maxLen ∧
      w.cell? ⟨g, ws.length * 2, none⟩ = some (.int .i64 l.1) ∧ w.cell? ⟨g, ws.length * 2 + 1, none⟩ = some (.int .i64 l.2) ∧ w.frozen? ⟨g, ws.length * 2, none⟩ = false ∧ w.frozen? ⟨g, ws.length * 2 + 1, none⟩ = false := by
  have hlen : (ws ++ [l]).length = ws.length + 1 := by simp
  have hlt := World.ownsRow.lt h
  have h2 := h.2
  rcases h2 with ⟨_, h0⟩ | ⟨g, cap, cur, rfl, hb, hg, hnc, hcm, hcs, htake⟩
  · omega
  · rw [hlen] at h hlt hnc
    have hx : (ws ++ [l])[ws.length]? = some l := by simp
    obtain ⟨f0, f1⟩ := flat_at (ws ++ [l]) ws.length l hx
    refine ⟨g, cap, by rw [hlen], hb, (hlt g rfl).2, hnc, hcm, ?_, ?_, ?_, ?_⟩
    · rw [World.ownsRow.cellAt (by unfold Own at h; rw [hlen] at h; exact h) _ (by omega), f0]
    · rw [World.ownsRow.cellAt (by unfold Own at h; rw [hlen] at h; exact h) _ (by omega), f1]
    · exact frozen_of_row w g _ cur _ hg
    · exact frozen_of_row w g _ cur _ hg
theorem Own.low {w : World} {base base' : Nat} {v : Value} {xs : List (Int × Int)} (h : Own w base v xs) (hB : base' ≤ base) : Own w base' v xs := by
  refine ⟨h.1, ?_⟩
  rcases h.2 with h2 | ⟨g, cap, cur, e, hb, r⟩
  · exact .inl h2
  · exact .inr ⟨g, cap, cur, e, by omega, r⟩
theorem Own.store {w : World} {base g cap : Nat} {ws : List (Int × Int)} {l : Int × Int} (h : Own w base (.slice (some ⟨g, 0, none⟩) (ws.length + 1) cap) (ws ++ [l])) (x : Int × Int) :
    Own ((w.setCell ⟨g, ws.length * 2, none⟩ (.int .i64 x.1)).setCell ⟨g, ws.length * 2 + 1, none⟩ (.int .i64 x.2)) base (.slice (some ⟨g, 0, none⟩) (ws.length + 1) cap) (ws ++ [x]) := by
  have hlen : (ws ++ [l]).length = ws.length + 1 := by simp
  have hlen' : (ws ++ [x]).length = ws.length + 1 := by simp
  unfold Own at h ⊢
  rw [hlen] at h
  rw [hlen', ← flat_set ws l x]
  exact ((h.stored _ _).1.stored _ _).1
end Go.Proofs.Ytiebchfdbejfbaa
