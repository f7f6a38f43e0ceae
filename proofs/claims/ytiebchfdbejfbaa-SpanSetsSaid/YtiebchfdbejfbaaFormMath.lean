/- Plain facts: the normal form that the reference builds between the ends of the intervals. -/
import Derived.Test.YtiebchfdbejfbaaRefEnds
import Derived.Test.YtiebchfdbejfbaaSetCount
namespace Go.Proofs.Ytiebchfdbejfbaa

/-- Does a set of this kind keep a number: 1 in one or the other, 2 in the first alone, 3 in both. -/
def keepB (kd : Int) (x y : Bool) : Bool := if kd = 1 then x || y else if kd = 2 then x && !y else x && y
theorem es_gap {es : List Int} (h : es.Pairwise (· < ·)) {k : Nat} {p q : Int} (hp : es[k]? = some p) (hq : es[k + 1]? = some q) : p < q ∧ ∀ e ∈ es, e ≤ p ∨ q ≤ e := by
  obtain ⟨l1, rfl⟩ := List.getElem?_eq_some_iff.1 hp
  obtain ⟨l2, rfl⟩ := List.getElem?_eq_some_iff.1 hq
  have hw := List.pairwise_iff_getElem.1 h
  refine ⟨hw k (k + 1) l1 l2 (by omega), fun e he => ?_⟩
  obtain ⟨j, lj, rfl⟩ := List.mem_iff_getElem.1 he
  rcases Nat.lt_trichotomy j k with hj | rfl | hj
  · left; have := hw j k lj l1 hj; omega
  · left; omega
  · right
    rcases Nat.lt_or_ge (k + 1) j with h1 | h1
    · have := hw (k + 1) j l2 lj h1; omega
    · have e1 : j = k + 1 := by omega
      subst e1; omega
theorem es_first {es : List Int} (h : es.Pairwise (· < ·)) {p : Int} (hp : es[0]? = some p) : ∀ e ∈ es, p ≤ e := by
  obtain ⟨l1, rfl⟩ := List.getElem?_eq_some_iff.1 hp
  intro e he
  obtain ⟨j, lj, rfl⟩ := List.mem_iff_getElem.1 he
  rcases Nat.eq_zero_or_pos j with rfl | hj
  · omega
  · have := List.pairwise_iff_getElem.1 h 0 j l1 lj hj; omega
theorem es_last {es : List Int} (h : es.Pairwise (· < ·)) {k : Nat} {p : Int} (hk : ¬ k + 1 < es.length) (hp : es[k]? = some p) : ∀ e ∈ es, e ≤ p := by
  obtain ⟨l1, rfl⟩ := List.getElem?_eq_some_iff.1 hp
  intro e he
  obtain ⟨j, lj, rfl⟩ := List.mem_iff_getElem.1 he
  rcases Nat.lt_or_ge j k with hj | hj
  · have := List.pairwise_iff_getElem.1 h j k lj l1 hj; omega
  · have e1 : j = k := by omega
    subst e1; omega
theorem mem_const {xs : List (Int × Int)} {es : List Int} {p q n : Int} (h1 : ∀ x ∈ xs, x.1 ∈ es ∧ x.2 + 1 ∈ es) (hg : ∀ e ∈ es, e ≤ p ∨ q ≤ e) (hn : p ≤ n) (hq : n < q) : memB n xs = memB p xs := by
  apply bool_ext
  rw [memB_iff, memB_iff]
  constructor
  · rintro ⟨x, hx, a, b⟩
    obtain ⟨e1, e2⟩ := h1 x hx
    have g1 := hg _ e1
    have g2 := hg _ e2
    exact ⟨x, hx, by omega, by omega⟩
  · rintro ⟨x, hx, a, b⟩
    obtain ⟨e1, e2⟩ := h1 x hx
    have g1 := hg _ e1
    have g2 := hg _ e2
    exact ⟨x, hx, by omega, by omega⟩
theorem keepB_mem {kd : Int} {x y : Bool} (h : keepB kd x y = true) : x = true ∨ y = true := by
  unfold keepB at h
  split at h
  · simpa using h
  · split at h
    · simp at h; exact .inl h.1
    · simp at h; exact .inl h.1
/-- Is a number kept? -/
def keptN (kd : Int) (as' bs : List (Int × Int)) (n : Int) : Prop := keepB kd (memB n as') (memB n bs) = true
/-- What holds of the list built up to an end. -/
def FInv (kd : Int) (as' bs : List (Int × Int)) (es : List Int) (k : Nat) (zs : List (Int × Int)) : Prop :=
  NF zs ∧ InR zs ∧ (∀ p, es[k]? = some p → (∀ z ∈ zs, z.2 + 1 ≤ p) ∧ ∀ n, Mem n zs ↔ n < p ∧ keptN kd as' bs n) ∧ (es = [] → zs = []) ∧ zs.length ≤ k

section
variable {kd : Int} {as' bs : List (Int × Int)} {es : List Int}
theorem ends_in (he : EndsOf (as' ++ bs) es) : (∀ x ∈ as', x.1 ∈ es ∧ x.2 + 1 ∈ es) ∧ ∀ x ∈ bs, x.1 ∈ es ∧ x.2 + 1 ∈ es :=
  ⟨fun x hx => ⟨(he.2.1 _).2 ⟨x, List.mem_append_left _ hx, .inl rfl⟩, (he.2.1 _).2 ⟨x, List.mem_append_left _ hx, .inr rfl⟩⟩,
    fun x hx => ⟨(he.2.1 _).2 ⟨x, List.mem_append_right _ hx, .inl rfl⟩, (he.2.1 _).2 ⟨x, List.mem_append_right _ hx, .inr rfl⟩⟩⟩
theorem kept_in (he : EndsOf (as' ++ bs) es) {n : Int} (h : keptN kd as' bs n) : ∃ x : Int × Int, x.1 ∈ es ∧ x.2 + 1 ∈ es ∧ x.1 ≤ n ∧ n ≤ x.2 := by
  obtain ⟨h1, h2⟩ := ends_in he
  rcases keepB_mem h with h | h
  · obtain ⟨x, hx, a, b⟩ := memB_iff.1 h
    exact ⟨x, (h1 x hx).1, (h1 x hx).2, a, b⟩
  · obtain ⟨x, hx, a, b⟩ := memB_iff.1 h
    exact ⟨x, (h2 x hx).1, (h2 x hx).2, a, b⟩
theorem FInv.start (he : EndsOf (as' ++ bs) es) : FInv kd as' bs es 0 [] := by
  refine ⟨nf_nil, (fun x hx => by cases hx), fun p hp => ⟨by simp, fun n => ?_⟩, fun _ => rfl, by simp⟩
  constructor
  · intro h; exact absurd h mem_nil
  · rintro ⟨h1, h2⟩
    obtain ⟨x, e1, _, h3, _⟩ := kept_in he h2
    have := es_first he.1 hp _ e1
    omega
theorem FInv.done (he : EndsOf (as' ++ bs) es) {k : Nat} {zs : List (Int × Int)} (h : FInv kd as' bs es k zs) (hk : ¬ k + 1 < es.length) (hk2 : k < es.length ∨ es.length = 0) : NF zs ∧ ∀ n, Mem n zs ↔ keptN kd as' bs n := by
  refine ⟨h.1, fun n => ?_⟩
  rcases hk2 with hk2 | hk2
  · have hp : es[k]? = some es[k] := List.getElem?_eq_getElem hk2
    rw [(h.2.2.1 _ hp).2 n]
    constructor
    · exact fun h => h.2
    · intro h2
      obtain ⟨x, _, e2, _, h4⟩ := kept_in he h2
      have := es_last he.1 hk hp _ e2
      exact ⟨by omega, h2⟩
  · have hes : es = [] := List.eq_nil_of_length_eq_zero hk2
    rw [h.2.2.2.1 hes]
    constructor
    · intro h; exact absurd h mem_nil
    · intro h2
      obtain ⟨x, e1, _⟩ := kept_in he h2
      rw [hes] at e1; cases e1
theorem FInv.const (he : EndsOf (as' ++ bs) es) {k : Nat} {p q n : Int} (hp : es[k]? = some p) (hq : es[k + 1]? = some q) (h1 : p ≤ n) (h2 : n < q) : keptN kd as' bs n ↔ keptN kd as' bs p := by
  obtain ⟨_, hg⟩ := es_gap he.1 hp hq
  obtain ⟨i1, i2⟩ := ends_in he
  unfold keptN
  rw [mem_const i1 hg h1 h2, mem_const i2 hg h1 h2]
theorem FInv.skip (he : EndsOf (as' ++ bs) es) {k : Nat} {zs : List (Int × Int)} {p q : Int} (h : FInv kd as' bs es k zs) (hp : es[k]? = some p) (hq : es[k + 1]? = some q) (hn : ¬ keptN kd as' bs p) : FInv kd as' bs es (k + 1) zs := by
  obtain ⟨a, b, c, d, e⟩ := h
  obtain ⟨c1, c2⟩ := c p hp
  have hpq := (es_gap he.1 hp hq).1
  refine ⟨a, b, fun q' hq' => ?_, d, by omega⟩
  rw [hq] at hq'
  injection hq' with hq'
  subst hq'
  refine ⟨fun z hz => by have := c1 z hz; omega, fun n => ?_⟩
  rw [c2 n]
  constructor
  · exact fun h => ⟨by omega, h.2⟩
  · rintro ⟨h1, h2⟩
    refine ⟨?_, h2⟩
    rcases Int.lt_or_le n p with h3 | h3
    · exact h3
    · exact absurd ((FInv.const he hp hq h3 h1).1 h2) hn
theorem es_bound (he : EndsOf (as' ++ bs) es) (hr : InR (as' ++ bs)) {k : Nat} {p : Int} (hp : es[k]? = some p) : -1000000000000 ≤ p ∧ p ≤ 1000000000001 := by
  obtain ⟨x, hx, h⟩ := (he.2.1 p).1 (List.mem_of_getElem? hp)
  have := hr x hx
  omega
theorem FInv.add (he : EndsOf (as' ++ bs) es) (hr : InR (as' ++ bs)) {k : Nat} {zs : List (Int × Int)} {p q : Int} (h : FInv kd as' bs es k zs) (hp : es[k]? = some p) (hq : es[k + 1]? = some q) (hn : keptN kd as' bs p) (hgap : ∀ z ∈ zs, z.2 + 1 < p) : FInv kd as' bs es (k + 1) (zs ++ [(p, q - 1)]) := by
  obtain ⟨a, b, c, d, e⟩ := h
  obtain ⟨c1, c2⟩ := c p hp
  have hpq := (es_gap he.1 hp hq).1
  have bp := es_bound he hr hp
  have bq := es_bound he hr hq
  refine ⟨nf_append a (nf_one (by show p ≤ q - 1; omega)) fun x hx y hy => ?_, fun x hx => ?_, fun q' hq' => ?_, fun h => ?_, by simp; omega⟩
  · simp at hy; subst hy
    have := hgap x hx
    show x.2 + 2 ≤ p; omega
  · rcases List.mem_append.1 hx with hx | hx
    · exact b x hx
    · simp at hx; subst hx; dsimp only; omega
  · rw [hq] at hq'
    injection hq' with hq'
    subst hq'
    refine ⟨fun z hz => ?_, fun n => ?_⟩
    · rcases List.mem_append.1 hz with hz | hz
      · have := c1 z hz; omega
      · simp at hz; subst hz; dsimp only; omega
    · rw [mem_append, c2 n, mem_cons]
      constructor
      · rintro (h1 | h1 | h1)
        · exact ⟨by omega, h1.2⟩
        · dsimp only at h1
          exact ⟨by omega, (FInv.const he hp hq h1.1 (by omega)).2 hn⟩
        · exact absurd h1 mem_nil
      · rintro ⟨h1, h2⟩
        rcases Int.lt_or_le n p with h3 | h3
        · exact .inl ⟨h3, h2⟩
        · exact .inr (.inl ⟨h3, by dsimp only; omega⟩)
  · rw [h] at hp; cases hp
theorem FInv.join (he : EndsOf (as' ++ bs) es) (hr : InR (as' ++ bs)) {k : Nat} {ws : List (Int × Int)} {l : Int × Int} {p q : Int} (h : FInv kd as' bs es k (ws ++ [l])) (hp : es[k]? = some p) (hq : es[k + 1]? = some q) (hn : keptN kd as' bs p) (hl : l.2 + 1 = p) : FInv kd as' bs es (k + 1) (ws ++ [(l.1, q - 1)]) := by
  obtain ⟨a, b, c, d, e⟩ := h
  obtain ⟨c1, c2⟩ := c p hp
  have hpq := (es_gap he.1 hp hq).1
  have bq := es_bound he hr hq
  have hll := a.1 l (by simp)
  have hpw := List.pairwise_append.1 a.2
  have bl := b l (by simp)
  refine ⟨⟨fun x hx => ?_, List.pairwise_append.2 ⟨hpw.1, by simp, fun x hx y hy => ?_⟩⟩, fun x hx => ?_, fun q' hq' => ?_, fun h => ?_, by simp at e ⊢; omega⟩
  · rcases List.mem_append.1 hx with hx | hx
    · exact a.1 x (List.mem_append_left _ hx)
    · simp at hx; subst hx; dsimp only; omega
  · simp at hy; subst hy
    exact hpw.2.2 x hx l (by simp)
  · rcases List.mem_append.1 hx with hx | hx
    · exact b x (List.mem_append_left _ hx)
    · simp at hx; subst hx; dsimp only; omega
  · rw [hq] at hq'
    injection hq' with hq'
    subst hq'
    refine ⟨fun z hz => ?_, fun n => ?_⟩
    · rcases List.mem_append.1 hz with hz | hz
      · have := c1 z (List.mem_append_left _ hz); omega
      · simp at hz; subst hz; dsimp only; omega
    · have c3 := c2 n
      rw [mem_append, mem_cons] at c3 ⊢
      dsimp only
      constructor
      · rintro (h1 | h1 | h1)
        · have := c3.1 (.inl h1)
          exact ⟨by omega, this.2⟩
        · rcases Int.lt_or_le n p with h3 | h3
          · have := c3.1 (.inr (.inl ⟨h1.1, by omega⟩))
            exact ⟨by omega, this.2⟩
          · exact ⟨by omega, (FInv.const he hp hq h3 (by omega)).2 hn⟩
        · exact absurd h1 mem_nil
      · rintro ⟨h1, h2⟩
        rcases Int.lt_or_le n p with h3 | h3
        · rcases c3.2 ⟨h3, h2⟩ with h4 | h4 | h4
          · exact .inl h4
          · exact .inr (.inl ⟨h4.1, by omega⟩)
          · exact absurd h4 mem_nil
        · exact .inr (.inl ⟨by omega, by omega⟩)
  · rw [h] at hp; cases hp
end
/-- The set of a kind. -/
def setL (kd : Int) (as' bs : List (Int × Int)) : List (Int × Int) := if kd = 1 then normL (as' ++ bs) else if kd = 2 then minusL (normL as') (normL bs) else commonL (normL as') (normL bs)
theorem setL_eq {kd : Int} {as' bs zs : List (Int × Int)} (hv : Val (as' ++ bs)) (hz : NF zs) (hm : ∀ n, Mem n zs ↔ keptN kd as' bs n) : zs = setL kd as' bs := by
  have hvx : Val as' := fun x hx => hv x (List.mem_append_left _ hx)
  have hvy : Val bs := fun x hx => hv x (List.mem_append_right _ hx)
  have nx := normL_nf hvx
  have ny := normL_nf hvy
  unfold setL
  unfold keptN keepB at hm
  split
  · rename_i h
    simp only [h, if_true] at hm
    exact nf_ext hz (normL_nf hv) fun n => by rw [hm n, ← memB_union hv, memB_iff]
  · rename_i h
    simp only [h, if_false] at hm
    split
    · rename_i h2
      simp only [h2, if_true] at hm
      exact nf_ext hz (minusL_spec _ _ nx ny).1 fun n => by rw [hm n, ← memB_minus hvx hvy, memB_iff]
    · rename_i h2
      simp only [h2, if_false] at hm
      exact nf_ext hz (commonL_spec _ _ nx ny).1 fun n => by rw [hm n, ← memB_common hvx hvy, memB_iff]
end Go.Proofs.Ytiebchfdbejfbaa
