/- Plain facts on the differences and intersections that package span computes. -/
import Derived.Test.YtiebchfdbejfbaaSetMath
namespace Go.Proofs.Ytiebchfdbejfbaa

/-- What is left of an interval beside increasing holes. -/
def cutL (lo hi : Int) : List (Int × Int) → List (Int × Int)
  | [] => if lo ≤ hi then [(lo, hi)] else []
  | y :: ys => if hi < y.1 then (if lo ≤ hi then [(lo, hi)] else []) else (if lo < y.1 then [(lo, y.1 - 1)] else []) ++ cutL (y.2 + 1) hi ys
/-- The holes that do not end before a number. -/
def dropB (lo : Int) : List (Int × Int) → List (Int × Int)
  | [] => []
  | y :: ys => if y.2 < lo then dropB lo ys else y :: ys
/-- a without b. -/
def minusL : List (Int × Int) → List (Int × Int) → List (Int × Int)
  | [], _ => []
  | x :: xs, ys => cutL x.1 x.2 (dropB x.1 ys) ++ minusL xs (dropB x.1 ys)
/-- The part of an interval in another one. -/
def partI (x y : Int × Int) : List (Int × Int) := if max x.1 y.1 ≤ min x.2 y.2 then [(max x.1 y.1, min x.2 y.2)] else []
/-- The common part. -/
def commonL : List (Int × Int) → List (Int × Int) → List (Int × Int)
  | [], _ => []
  | _ :: _, [] => []
  | x :: xs, y :: ys => partI x y ++ (if x.2 < y.2 then commonL xs (y :: ys) else commonL (x :: xs) ys)
termination_by xs ys => xs.length + ys.length

theorem one_spec (lo hi : Int) : NF (if lo ≤ hi then [(lo, hi)] else []) ∧ (∀ p ∈ (if lo ≤ hi then [(lo, hi)] else []), lo ≤ p.1 ∧ p.2 ≤ hi) ∧ ∀ n, Mem n (if lo ≤ hi then [(lo, hi)] else []) ↔ lo ≤ n ∧ n ≤ hi := by
  by_cases h : lo ≤ hi
  · rw [if_pos h]
    exact ⟨nf_one h, fun p hp => by simp at hp; subst hp; simp, fun n => by rw [mem_cons]; simp [mem_nil]⟩
  · rw [if_neg h]
    exact ⟨nf_nil, by simp, fun n => by simp [mem_nil]; omega⟩

theorem cutL_spec : ∀ (ys : List (Int × Int)) (lo hi : Int), NF ys → (∀ y ∈ ys, lo ≤ y.2 + 1) →
    NF (cutL lo hi ys) ∧ (∀ p ∈ cutL lo hi ys, lo ≤ p.1 ∧ p.2 ≤ hi) ∧ ∀ n, Mem n (cutL lo hi ys) ↔ lo ≤ n ∧ n ≤ hi ∧ ¬ Mem n ys
  | [], lo, hi, _, _ => by
    obtain ⟨a, b, c⟩ := one_spec lo hi
    unfold cutL
    exact ⟨a, b, fun n => by rw [c n]; simp [mem_nil]⟩
  | y :: ys, lo, hi, hn, hl => by
    obtain ⟨y1, y2, y3⟩ := nf_cons.1 hn
    unfold cutL
    by_cases h : hi < y.1
    · rw [if_pos h]
      obtain ⟨a, b, c⟩ := one_spec lo hi
      refine ⟨a, b, fun n => ?_⟩
      rw [c n, mem_cons]
      constructor
      · rintro ⟨h1, h2⟩
        refine ⟨h1, h2, ?_⟩
        rintro (h3 | ⟨z, hz, h3⟩)
        · omega
        · have := y2 z hz; omega
      · rintro ⟨h1, h2, _⟩; exact ⟨h1, h2⟩
    · rw [if_neg h]
      have hly := hl y List.mem_cons_self
      obtain ⟨a, b, c⟩ := cutL_spec ys (y.2 + 1) hi y3 (fun z hz => by have := y2 z hz; have := y3.1 z hz; omega)
      have key : (if lo < y.1 then [(lo, y.1 - 1)] else []) = if lo ≤ y.1 - 1 then [(lo, y.1 - 1)] else [] := by
        by_cases hh : lo < y.1
        · rw [if_pos hh, if_pos (by omega)]
        · rw [if_neg hh, if_neg (by omega)]
      rw [key]
      obtain ⟨a', b', c'⟩ := one_spec lo (y.1 - 1)
      refine ⟨nf_append a' a (fun p hp q hq => by have := b' p hp; have := b q hq; omega), fun p hp => ?_, fun n => ?_⟩
      · rcases List.mem_append.1 hp with hp | hp
        · have := b' p hp; omega
        · have := b p hp; omega
      · rw [mem_append, c' n, c n, mem_cons]
        constructor
        · rintro (⟨h1, h2⟩ | ⟨h1, h2, h3⟩)
          · refine ⟨h1, by omega, ?_⟩
            rintro (h4 | ⟨z, hz, h4⟩)
            · omega
            · have := y2 z hz; omega
          · refine ⟨by omega, h2, ?_⟩
            rintro (h4 | h4)
            · omega
            · exact h3 h4
        · rintro ⟨h1, h2, h3⟩
          by_cases h4 : n < y.1
          · exact .inl ⟨h1, by omega⟩
          · refine .inr ⟨?_, h2, fun h5 => h3 (.inr h5)⟩
            by_cases h6 : n ≤ y.2
            · exact absurd (.inl ⟨by omega, h6⟩) h3
            · omega

theorem dropB_spec : ∀ (ys : List (Int × Int)) (lo : Int), NF ys → NF (dropB lo ys) ∧ (∀ y ∈ dropB lo ys, lo ≤ y.2) ∧ (∀ y ∈ dropB lo ys, y ∈ ys) ∧ ∀ n, lo ≤ n → (Mem n (dropB lo ys) ↔ Mem n ys)
  | [], lo, _ => ⟨nf_nil, by simp [dropB], by simp [dropB], fun n _ => Iff.rfl⟩
  | y :: ys, lo, hn => by
    obtain ⟨y1, y2, y3⟩ := nf_cons.1 hn
    unfold dropB
    by_cases h : y.2 < lo
    · rw [if_pos h]
      obtain ⟨a, b, c, d⟩ := dropB_spec ys lo y3
      refine ⟨a, b, fun z hz => List.mem_cons_of_mem _ (c z hz), fun n hn => ?_⟩
      rw [d n hn, mem_cons]
      constructor
      · exact .inr
      · rintro (h1 | h1)
        · omega
        · exact h1
    · rw [if_neg h]
      refine ⟨hn, fun z hz => ?_, fun z hz => hz, fun n _ => Iff.rfl⟩
      rcases List.mem_cons.1 hz with rfl | hz
      · omega
      · have := y2 z hz; have := y3.1 z hz; omega

theorem minusL_spec : ∀ (xs ys : List (Int × Int)), NF xs → NF ys → NF (minusL xs ys) ∧ (∀ p ∈ minusL xs ys, ∃ x ∈ xs, x.1 ≤ p.1 ∧ p.2 ≤ x.2) ∧ ∀ n, Mem n (minusL xs ys) ↔ Mem n xs ∧ ¬ Mem n ys
  | [], ys, _, _ => ⟨nf_nil, by simp [minusL], fun n => by simp [minusL, mem_nil]⟩
  | x :: xs, ys, hx, hy => by
    obtain ⟨x1, x2, x3⟩ := nf_cons.1 hx
    obtain ⟨d1, d2, d3, d4⟩ := dropB_spec ys x.1 hy
    obtain ⟨a, b, c⟩ := cutL_spec (dropB x.1 ys) x.1 x.2 d1 (fun y hy => by have := d2 y hy; omega)
    obtain ⟨a', b', c'⟩ := minusL_spec xs (dropB x.1 ys) x3 d1
    unfold minusL
    refine ⟨nf_append a a' (fun p hp q hq => ?_), fun p hp => ?_, fun n => ?_⟩
    · obtain ⟨z, hz, h1, h2⟩ := b' q hq
      have := b p hp; have := x2 z hz; omega
    · rcases List.mem_append.1 hp with hp | hp
      · exact ⟨x, List.mem_cons_self, b p hp⟩
      · obtain ⟨z, hz, h⟩ := b' p hp
        exact ⟨z, List.mem_cons_of_mem _ hz, h⟩
    · rw [mem_append, c n, c' n, mem_cons]
      constructor
      · rintro (⟨h1, h2, h3⟩ | ⟨⟨z, hz, h1⟩, h3⟩)
        · exact ⟨.inl ⟨h1, h2⟩, fun h => h3 ((d4 n h1).2 h)⟩
        · refine ⟨.inr ⟨z, hz, h1⟩, fun h => h3 ((d4 n ?_).2 h)⟩
          have := x2 z hz; omega
      · rintro ⟨h1 | ⟨z, hz, h1⟩, h3⟩
        · exact .inl ⟨h1.1, h1.2, fun h => h3 ((d4 n h1.1).1 h)⟩
        · refine .inr ⟨⟨z, hz, h1⟩, fun h => h3 ((d4 n ?_).1 h)⟩
          have := x2 z hz; omega

theorem partI_spec (x y : Int × Int) : NF (partI x y) ∧ (∀ p ∈ partI x y, x.1 ≤ p.1 ∧ p.2 ≤ x.2 ∧ y.1 ≤ p.1 ∧ p.2 ≤ y.2) ∧ ∀ n, Mem n (partI x y) ↔ (x.1 ≤ n ∧ n ≤ x.2) ∧ (y.1 ≤ n ∧ n ≤ y.2) := by
  obtain ⟨a, b, c⟩ := one_spec (max x.1 y.1) (min x.2 y.2)
  unfold partI
  exact ⟨a, fun p hp => by have := b p hp; omega, fun n => by rw [c n]; omega⟩

theorem commonL_spec (xs ys : List (Int × Int)) (hx : NF xs) (hy : NF ys) : NF (commonL xs ys) ∧ (∀ p ∈ commonL xs ys, (∃ x ∈ xs, x.1 ≤ p.1 ∧ p.2 ≤ x.2) ∧ ∃ y ∈ ys, y.1 ≤ p.1 ∧ p.2 ≤ y.2) ∧ ∀ n, Mem n (commonL xs ys) ↔ Mem n xs ∧ Mem n ys := by
  match xs, ys with
  | [], ys => exact ⟨by rw [commonL]; exact nf_nil, by rw [commonL]; simp, fun n => by rw [commonL]; simp [mem_nil]⟩
  | x :: xs, [] => exact ⟨by rw [commonL]; exact nf_nil, by rw [commonL]; simp, fun n => by rw [commonL]; simp [mem_nil]⟩
  | x :: xs, y :: ys =>
    obtain ⟨x1, x2, x3⟩ := nf_cons.1 hx
    obtain ⟨y1, y2, y3⟩ := nf_cons.1 hy
    obtain ⟨a, b, c⟩ := partI_spec x y
    rw [commonL]
    by_cases h : x.2 < y.2
    · rw [if_pos h]
      obtain ⟨a', b', c'⟩ := commonL_spec xs (y :: ys) x3 hy
      refine ⟨nf_append a a' (fun p hp q hq => ?_), fun p hp => ?_, fun n => ?_⟩
      · obtain ⟨⟨z, hz, h1⟩, _⟩ := b' q hq
        have := b p hp; have := x2 z hz; omega
      · rcases List.mem_append.1 hp with hp | hp
        · have := b p hp
          exact ⟨⟨x, List.mem_cons_self, by omega⟩, ⟨y, List.mem_cons_self, by omega⟩⟩
        · obtain ⟨⟨z, hz, h1⟩, h2⟩ := b' p hp
          exact ⟨⟨z, List.mem_cons_of_mem _ hz, h1⟩, h2⟩
      · rw [mem_append, c n, c' n, mem_cons, mem_cons]
        constructor
        · rintro (⟨h1, h2⟩ | ⟨h1, h2⟩)
          · exact ⟨.inl h1, .inl h2⟩
          · exact ⟨.inr h1, h2⟩
        · rintro ⟨h1 | h1, h2 | ⟨z, hz, h2⟩⟩
          · exact .inl ⟨h1, h2⟩
          · have := y2 z hz; omega
          · exact .inr ⟨h1, .inl h2⟩
          · exact .inr ⟨h1, .inr ⟨z, hz, h2⟩⟩
    · rw [if_neg h]
      obtain ⟨a', b', c'⟩ := commonL_spec (x :: xs) ys hx y3
      refine ⟨nf_append a a' (fun p hp q hq => ?_), fun p hp => ?_, fun n => ?_⟩
      · obtain ⟨_, ⟨z, hz, h1⟩⟩ := b' q hq
        have := b p hp; have := y2 z hz; omega
      · rcases List.mem_append.1 hp with hp | hp
        · have := b p hp
          exact ⟨⟨x, List.mem_cons_self, by omega⟩, ⟨y, List.mem_cons_self, by omega⟩⟩
        · obtain ⟨h1, ⟨z, hz, h2⟩⟩ := b' p hp
          exact ⟨h1, ⟨z, List.mem_cons_of_mem _ hz, h2⟩⟩
      · rw [mem_append, c n, c' n, mem_cons, mem_cons]
        constructor
        · rintro (⟨h1, h2⟩ | ⟨h1, h2⟩)
          · exact ⟨.inl h1, .inl h2⟩
          · exact ⟨h1, .inr h2⟩
        · rintro ⟨h1 | ⟨z, hz, h1⟩, h2 | h2⟩
          · exact .inl ⟨h1, h2⟩
          · exact .inr ⟨.inl h1, h2⟩
          · have := x2 z hz; omega
          · exact .inr ⟨.inr ⟨z, hz, h1⟩, h2⟩
termination_by xs.length + ys.length
end Go.Proofs.Ytiebchfdbejfbaa
