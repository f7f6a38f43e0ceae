/- Plain facts on sets of numbers that are written as lists of intervals: normal forms, differences, intersections. -/
import Derived.Test.YtiebchfdbejfbaaNormalWalk
namespace Go.Proofs.Ytiebchfdbejfbaa

/-- A number lies in one of the intervals. -/
def Mem (n : Int) (zs : List (Int × Int)) : Prop := ∃ x ∈ zs, x.1 ≤ n ∧ n ≤ x.2
theorem mem_nil {n : Int} : ¬ Mem n [] := fun ⟨_, h, _⟩ => by cases h
theorem mem_cons {n : Int} {x : Int × Int} {zs : List (Int × Int)} : Mem n (x :: zs) ↔ (x.1 ≤ n ∧ n ≤ x.2) ∨ Mem n zs := by
  constructor
  · rintro ⟨y, hy, h⟩
    rcases List.mem_cons.1 hy with rfl | hy
    · exact .inl h
    · exact .inr ⟨y, hy, h⟩
  · rintro (h | ⟨y, hy, h⟩)
    · exact ⟨x, List.mem_cons_self, h⟩
    · exact ⟨y, List.mem_cons_of_mem _ hy, h⟩
theorem mem_append {n : Int} {us vs : List (Int × Int)} : Mem n (us ++ vs) ↔ Mem n us ∨ Mem n vs := by
  constructor
  · rintro ⟨y, hy, h⟩
    rcases List.mem_append.1 hy with hy | hy
    · exact .inl ⟨y, hy, h⟩
    · exact .inr ⟨y, hy, h⟩
  · rintro (⟨y, hy, h⟩ | ⟨y, hy, h⟩)
    · exact ⟨y, List.mem_append_left _ hy, h⟩
    · exact ⟨y, List.mem_append_right _ hy, h⟩
theorem mem_perm {n : Int} {us vs : List (Int × Int)} (h : us.Perm vs) : Mem n us ↔ Mem n vs :=
  ⟨fun ⟨x, hx, hh⟩ => ⟨x, h.mem_iff.1 hx, hh⟩, fun ⟨x, hx, hh⟩ => ⟨x, h.mem_iff.2 hx, hh⟩⟩

/-- A normal form: valid intervals, increasing, not touching. -/
def NF (zs : List (Int × Int)) : Prop := (∀ x ∈ zs, x.1 ≤ x.2) ∧ zs.Pairwise fun x y => x.2 + 2 ≤ y.1
theorem nf_nil : NF [] := ⟨by simp, List.Pairwise.nil⟩
theorem nf_cons {x : Int × Int} {zs : List (Int × Int)} : NF (x :: zs) ↔ x.1 ≤ x.2 ∧ (∀ y ∈ zs, x.2 + 2 ≤ y.1) ∧ NF zs := by
  unfold NF
  rw [List.pairwise_cons]
  constructor
  · rintro ⟨h1, h2, h3⟩
    exact ⟨h1 x List.mem_cons_self, h2, fun y hy => h1 y (List.mem_cons_of_mem _ hy), h3⟩
  · rintro ⟨h1, h2, h3, h4⟩
    exact ⟨fun y hy => by rcases List.mem_cons.1 hy with rfl | hy; exact h1; exact h3 y hy, h2, h4⟩
theorem nf_append {us vs : List (Int × Int)} (ha : NF us) (hb : NF vs) (h : ∀ x ∈ us, ∀ y ∈ vs, x.2 + 2 ≤ y.1) : NF (us ++ vs) :=
  ⟨fun x hx => by rcases List.mem_append.1 hx with hx | hx; exact ha.1 x hx; exact hb.1 x hx, List.pairwise_append.2 ⟨ha.2, hb.2, h⟩⟩
theorem nf_one {x : Int × Int} (h : x.1 ≤ x.2) : NF [x] := nf_cons.2 ⟨h, by simp, nf_nil⟩

/-- Two normal forms of one set are equal. -/
theorem nf_ext : ∀ {zs ws : List (Int × Int)}, NF zs → NF ws → (∀ n, Mem n zs ↔ Mem n ws) → zs = ws
  | [], [], _, _, _ => rfl
  | [], y :: ws, _, hw, h => by
    have := (nf_cons.1 hw).1
    exact absurd ((h y.1).2 (mem_cons.2 (.inl ⟨by omega, this⟩))) mem_nil
  | x :: zs, [], hz, _, h => by
    have := (nf_cons.1 hz).1
    exact absurd ((h x.1).1 (mem_cons.2 (.inl ⟨by omega, this⟩))) mem_nil
  | x :: zs, y :: ws, hz, hw, h => by
    obtain ⟨x1, x2, x3⟩ := nf_cons.1 hz
    obtain ⟨y1, y2, y3⟩ := nf_cons.1 hw
    have lowx : ∀ n, Mem n (x :: zs) → x.1 ≤ n := fun n hn => by
      rcases mem_cons.1 hn with hn | ⟨z, hz, hn⟩
      · exact hn.1
      · have := x2 z hz; omega
    have lowy : ∀ n, Mem n (y :: ws) → y.1 ≤ n := fun n hn => by
      rcases mem_cons.1 hn with hn | ⟨z, hz, hn⟩
      · exact hn.1
      · have := y2 z hz; omega
    have e1 : x.1 = y.1 := by
      have a := lowy _ ((h x.1).1 (mem_cons.2 (.inl ⟨by omega, x1⟩)))
      have b := lowx _ ((h y.1).2 (mem_cons.2 (.inl ⟨by omega, y1⟩)))
      omega
    have e2 : x.2 = y.2 := by
      rcases Int.lt_trichotomy x.2 y.2 with hl | hl | hl
      · rcases mem_cons.1 ((h (x.2 + 1)).2 (mem_cons.2 (.inl ⟨by omega, by omega⟩))) with hn | ⟨z, hz, hn⟩
        · omega
        · have := x2 z hz; omega
      · exact hl
      · rcases mem_cons.1 ((h (y.2 + 1)).1 (mem_cons.2 (.inl ⟨by omega, by omega⟩))) with hn | ⟨z, hz, hn⟩
        · omega
        · have := y2 z hz; omega
    have exy : x = y := by cases x; cases y; simp_all
    subst exy
    have := nf_ext x3 y3 fun n => by
      constructor
      · intro hn
        rcases mem_cons.1 ((h n).1 (mem_cons.2 (.inr hn))) with hh | hh
        · obtain ⟨z, hz, hn⟩ := hn
          have := x2 z hz; omega
        · exact hh
      · intro hn
        rcases mem_cons.1 ((h n).2 (mem_cons.2 (.inr hn))) with hh | hh
        · obtain ⟨z, hz, hn⟩ := hn
          have := y2 z hz; omega
        · exact hh
    rw [this]

/-- Valid intervals. -/
def Val (zs : List (Int × Int)) : Prop := ∀ x ∈ zs, x.1 ≤ x.2

theorem foldN_spec : ∀ (ys zs : List (Int × Int)), NF zs → Val ys → ys.Pairwise (fun x y => x.1 ≤ y.1) → (∀ z ∈ zs, ∀ y ∈ ys, z.1 ≤ y.1) →
    NF (ys.foldl stepN zs) ∧ ∀ n, Mem n (ys.foldl stepN zs) ↔ Mem n zs ∨ Mem n ys
  | [], zs, hz, _, _, _ => ⟨hz, fun n => by simp [mem_nil]⟩
  | a :: ys, zs, hz, hv, hp, hl => by
    have ha : a.1 ≤ a.2 := hv a List.mem_cons_self
    have hv' : Val ys := fun x hx => hv x (List.mem_cons_of_mem _ hx)
    obtain ⟨hp1, hp2⟩ := List.pairwise_cons.1 hp
    rcases List.eq_nil_or_concat zs with rfl | ⟨ws, l, rfl⟩
    · have ih := foldN_spec ys [a] (nf_one ha) hv' hp2 (fun z hz y hy => by simp at hz; subst hz; exact hp1 y hy)
      refine ⟨ih.1, fun n => ?_⟩
      rw [List.foldl_cons, stepN_nil, ih.2 n, mem_cons, mem_cons]
      simp [mem_nil]
    · rw [List.concat_eq_append] at hz hl ⊢
      have hzl := hz.1 l (by simp)
      have hws : NF ws := ⟨fun x hx => hz.1 x (List.mem_append_left _ hx), (List.pairwise_append.1 hz.2).1⟩
      have hwl : ∀ x ∈ ws, x.2 + 2 ≤ l.1 := fun x hx => (List.pairwise_append.1 hz.2).2.2 x hx l (by simp)
      have hla : l.1 ≤ a.1 := hl l (by simp) a List.mem_cons_self
      by_cases hle : a.1 ≤ l.2 + 1
      · have e : hullI l a = (l.1, max l.2 a.2) := by unfold hullI; rw [show min l.1 a.1 = l.1 from by omega]
        have ih := foldN_spec ys (ws ++ [hullI l a]) (nf_append hws (nf_one (by rw [e]; show l.1 ≤ max l.2 a.2; omega)) (fun x hx y hy => by simp at hy; subst hy; rw [e]; exact hwl x hx)) hv' hp2
          (fun z hz' y hy => by
            have hay := hp1 y hy
            rcases List.mem_append.1 hz' with hz' | hz'
            · have := hwl z hz'; have := hws.1 z hz'; omega
            · simp at hz'; subst hz'; rw [e]; show l.1 ≤ y.1; omega)
        rw [List.foldl_cons, stepN_join _ _ _ hle]
        refine ⟨ih.1, fun n => ?_⟩
        rw [ih.2 n, mem_append, mem_append, mem_cons, mem_cons, mem_cons, e]
        have key : (l.1 ≤ n ∧ n ≤ max l.2 a.2) ↔ ((l.1 ≤ n ∧ n ≤ l.2) ∨ (a.1 ≤ n ∧ n ≤ a.2)) := by omega
        show (Mem n ws ∨ (l.1 ≤ n ∧ n ≤ max l.2 a.2) ∨ Mem n []) ∨ Mem n ys ↔ _
        rw [key]
        simp only [mem_nil, or_false]
        constructor
        · rintro ((h | h | h) | h)
          · exact .inl (.inl h)
          · exact .inl (.inr h)
          · exact .inr (.inl h)
          · exact .inr (.inr h)
        · rintro ((h | h) | h | h)
          · exact .inl (.inl h)
          · exact .inl (.inr (.inl h))
          · exact .inl (.inr (.inr h))
          · exact .inr h
      · have ih := foldN_spec ys (ws ++ [l] ++ [a]) (nf_append hz (nf_one ha) (fun x hx y hy => by
            simp at hy; subst hy
            rcases List.mem_append.1 hx with hx | hx
            · have := hwl x hx; omega
            · simp at hx; subst hx; omega)) hv' hp2
          (fun z hz' y hy => by
            have hay := hp1 y hy
            rcases List.mem_append.1 hz' with hz' | hz'
            · have := hl z hz' a List.mem_cons_self; omega
            · simp at hz'; subst hz'; exact hay)
        rw [List.foldl_cons, stepN_next _ _ _ hle]
        refine ⟨ih.1, fun n => ?_⟩
        rw [ih.2 n, mem_append, mem_cons, mem_cons]
        simp only [mem_nil, or_false, or_assoc]

theorem normL_spec (xs : List (Int × Int)) (hv : Val xs) : NF (foldN (sortI xs)) ∧ ∀ n, Mem n (foldN (sortI xs)) ↔ Mem n xs := by
  have h := foldN_spec (sortI xs) [] nf_nil (fun x hx => hv x ((sortI_perm xs).mem_iff.1 hx)) ((sortI_pairwise xs).imp fun {a b} h => by rw [leI_iff] at h; omega) (by simp)
  refine ⟨h.1, fun n => ?_⟩
  show Mem n (foldN (sortI xs)) ↔ _
  unfold foldN
  rw [h.2 n, mem_perm (sortI_perm xs)]
  simp [mem_nil]
end Go.Proofs.Ytiebchfdbejfbaa
