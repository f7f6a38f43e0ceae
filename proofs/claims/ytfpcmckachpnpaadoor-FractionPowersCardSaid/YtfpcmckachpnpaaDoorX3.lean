/- The run over a memory with names of its own answers what the model answers: operations that look at no memory. -/
import Derived.Test.YtfpcmckachpnpaaDoorX2
namespace Go.Proofs.YtfpcmckachpnpaaDoor.Vx
open Go Go.RowKit

section
variable {P : Program} {α β : Type}
theorem pureRun_bind (s : Sem α) (f : α → Sem β) : pureRun P (s >>= f) = (pureRun P s).bind fun a => pureRun P (f a) := by
  show pureRun P (s.bind f) = _
  induction s with
  | pure a => rfl
  | program k ih => simp only [Sem.bind, pureRun]; exact ih P
  | mark m k ih => simp only [Sem.bind, pureRun]; exact ih
  | _ => rfl
theorem pureRun_pure (a : α) : pureRun P (pure a : Sem α) = some a := rfl
theorem pureRun_run {s : Sem α} {a : α} (h : pureRun P s = some a) (w : World) : s.run P w = .ok a w := by
  induction s with
  | pure b => simp only [pureRun, Option.some.injEq] at h; subst h; rfl
  | program k ih => simp only [pureRun] at h; simp only [Sem.run]; exact ih P h
  | mark m k ih => simp only [pureRun] at h; simp only [Sem.run]; exact ih h
  | _ => simp [pureRun] at h
theorem pureRun_program : pureRun P program = some P := rfl
theorem pureRun_underlying (t : TypeId) : pureRun P (underlying t) = P.underlying t := by
  unfold underlying
  rw [pureRun_bind, pureRun_program]
  simp only [Option.bind_some]
  cases P.underlying t <;> rfl
theorem pureRun_typeInfo (t : TypeId) : pureRun P (typeInfo t) = P.info? t := by
  unfold typeInfo
  rw [pureRun_bind, pureRun_program]
  simp only [Option.bind_some]
  cases P.info? t <;> rfl
theorem pureRun_sizeOf (t : TypeId) : pureRun P (sizeOf t) = (P.info? t).map (·.size) := by
  unfold sizeOf
  rw [pureRun_bind, pureRun_typeInfo]
  cases P.info? t <;> rfl
theorem pureRun_zero {t : TypeId} {z : Array Value} (h : zerosOf P t = some z) : ∃ i v, P.info? t = some i ∧ i.zero = some v ∧ v.cells = z ∧ (∀ c ∈ z.toList, flat1 c = true) ∧ pureRun P (zeroValue t) = some v ∧ z.size = i.size := by
  unfold zerosOf at h
  split at h <;> try (cases h; done)
  rename_i i hi
  split at h <;> try (cases h; done)
  rename_i v hv
  split at h <;> try (cases h; done)
  rename_i hf
  injection h with h
  simp only [Bool.and_eq_true, beq_iff_eq] at hf
  refine ⟨i, v, hi, hv, h, ?_, ?_, ?_⟩
  · subst h; exact fun c hc => List.all_eq_true.1 hf.1 c hc
  · unfold zeroValue
    rw [pureRun_bind, pureRun_typeInfo, hi]
    simp only [Option.bind_some, hv]
    rfl
  · subst h; exact hf.2
theorem pureRun_isAgg (t : TypeId) : pureRun P (isAgg t) = aggT P t := by
  unfold isAgg aggT
  rw [pureRun_bind, pureRun_underlying]
  cases h : P.underlying t with
  | none => rfl
  | some d => cases d <;> rfl
end

theorem part_ok {P : Program} {p : Ren} {t : TypeId} {xs ys : Array Value} {off : Nat} {v : Value} (hx : AR p xs ys) (h : pureRun P (part t xs off) = some v) :
    ∃ v', pureRun P (part t ys off) = some v' ∧ VR p v v' := by
  unfold part at h ⊢
  rw [pureRun_bind, pureRun_isAgg] at h ⊢
  cases ha : aggT P t with
  | none => rw [ha] at h; cases h
  | some b =>
    rw [ha] at h
    simp only [Option.bind_some] at h ⊢
    cases b with
    | true =>
      simp only [if_true, pureRun_bind, pureRun_sizeOf] at h ⊢
      cases hi : P.info? t with
      | none => rw [hi] at h; cases h
      | some i =>
        rw [hi] at h
        simp only [Option.map_some, Option.bind_some, pureRun_pure, Option.some.injEq] at h ⊢
        subst h
        refine ⟨_, rfl, .agg (by simp [hx.1]) fun k a b => ?_⟩
        simp only [Array.getElem_extract]
        exact hx.2 _ _ _
    | false =>
      simp only [Bool.false_eq_true, if_false] at h ⊢
      cases hc : xs[off]? with
      | none => rw [hc] at h; cases h
      | some c =>
        rw [hc] at h
        simp only [pureRun_pure, Option.some.injEq] at h
        subst h
        obtain ⟨v', hv', hr⟩ := hx.get hc
        exact ⟨v', by rw [hv']; rfl, hr⟩

theorem field_ok {P : Program} {p : Ren} {T : TypeId} {x x' v : Value} {f : Nat} (hx : VR p x x') (h : pureRun P (Instr.field T x f) = some v) :
    ∃ v', pureRun P (Instr.field T x' f) = some v' ∧ VR p v v' := by
  unfold Instr.field at h ⊢
  rw [pureRun_bind, pureRun_underlying] at h ⊢
  cases hu : P.underlying T with
  | none => rw [hu] at h; cases h
  | some d =>
    rw [hu] at h
    simp only [Option.bind_some] at h ⊢
    cases d with
    | struct fs =>
      simp only at h ⊢
      cases hf : fs[f]? with
      | none => rw [hf] at h; cases h
      | some fd =>
        rw [hf] at h
        simp only [pureRun_bind] at h ⊢
        cases hx with
        | agg hs hv =>
          simp only [asAgg, pureRun_pure, Option.bind_some] at h ⊢
          exact part_ok ⟨hs, hv⟩ h
        | same hfl => cases x <;> first | (simp [flat1] at hfl; done) | (simp [asAgg, stuck, pureRun] at h; done)
        | _ => simp [asAgg, stuck, pureRun] at h
    | _ => simp [stuck, pureRun] at h

theorem extract_ok {P : Program} {p : Ren} {x x' v : Value} {i : Nat} (hx : VR p x x') (hl : x ≠ lost) (h : pureRun P (Instr.extract x i) = some v) :
    ∃ v', pureRun P (Instr.extract x' i) = some v' ∧ VR p v v' := by
  unfold Instr.extract at h ⊢
  cases hx with
  | tup hs hv =>
    rename_i xs ys
    simp only at h ⊢
    cases hc : xs[i]? with
    | none => rw [hc] at h; cases h
    | some c =>
      rw [hc] at h
      simp only [pureRun_pure, Option.some.injEq] at h
      subst h
      obtain ⟨v', hv', hr⟩ := AR.get ⟨hs, hv⟩ hc
      exact ⟨v', by simp only [hv']; rfl, hr⟩
  | same hf => cases x <;> first | (simp [flat1] at hf; done) | (simp [stuck, pureRun] at h; done)
  | junk => exact absurd rfl hl
  | _ => simp [stuck, pureRun] at h

/-- Parts of a literal, one by one. -/
def PR (p : Ren) (xs ys : List (Nat × Value)) : Prop := xs.length = ys.length ∧ ∀ i (h : i < xs.length) (h' : i < ys.length), xs[i].1 = ys[i].1 ∧ VR p xs[i].2 ys[i].2 ∧ xs[i].2 ≠ lost
theorem PR.uncons {p : Ren} {i : Nat} {x : Value} {xs zs : List (Nat × Value)} (k : PR p ((i, x) :: xs) zs) : ∃ y ys, zs = (i, y) :: ys ∧ (VR p x y ∧ x ≠ lost) ∧ PR p xs ys := by
  cases zs with
  | nil => exact absurd k.1 (by simp)
  | cons y ys =>
    have h0 := k.2 0 (by simp) (by simp)
    simp only [List.getElem_cons_zero] at h0
    obtain ⟨j, y⟩ := y
    simp only at h0
    obtain ⟨rfl, h0⟩ := h0
    exact ⟨y, ys, rfl, h0, by simpa using k.1, fun i a b => k.2 (i + 1) (by simpa using a) (by simpa using b)⟩

theorem zfold_ok {p : Ren} (off : Nat) : ∀ (us vs : List Value) (n : Nat) (xs ys : Array Value), LR p us vs → AR p xs ys →
    AR p ((us.zipIdx n).foldl (fun cs (c, j) => cs.setIfInBounds (off + j) c) xs) ((vs.zipIdx n).foldl (fun cs (c, j) => cs.setIfInBounds (off + j) c) ys) := by
  intro us
  induction us with
  | nil => intro vs n xs ys h k; obtain rfl := h.unnil; exact k
  | cons u us ih =>
    intro vs n xs ys h k
    obtain ⟨v, vs, rfl, hv, hr⟩ := h.uncons
    simp only [List.zipIdx_cons, List.foldl_cons]
    exact ih vs (n + 1) _ _ hr (k.set _ hv)

theorem fill_ok {p : Ren} {place : Nat → Option (Nat × Nat)} : ∀ (ps qs : List (Nat × Value)) (xs ys zs : Array Value), PR p ps qs → AR p xs ys → Instr.fill place xs ps = some zs →
    ∃ zs', Instr.fill place ys qs = some zs' ∧ AR p zs zs' := by
  intro ps
  induction ps with
  | nil =>
    intro qs xs ys zs h k hf
    have : qs = [] := by cases qs with
      | nil => rfl
      | cons y ys => exact absurd h.1 (by simp)
    subst this
    simp only [Instr.fill, Option.some.injEq] at hf ⊢
    subst hf
    exact ⟨ys, rfl, k⟩
  | cons x ps ih =>
    intro qs xs ys zs h k hf
    obtain ⟨i, v⟩ := x
    obtain ⟨v', qs, rfl, ⟨hv, hvl⟩, hr⟩ := h.uncons
    simp only [Instr.fill] at hf ⊢
    have hc := hv.cells hvl
    cases hp : place i with
    | none => rw [hp] at hf; cases hf
    | some os =>
      obtain ⟨off, size⟩ := os
      rw [hp] at hf
      simp only at hf ⊢
      rw [← hc.1, ← k.1]
      split at hf
      · cases hf
      · rename_i hcond
        rw [if_neg hcond]
        refine ih qs _ _ zs hr ?_ hf
        have := zfold_ok off v.cells.toList v'.cells.toList 0 xs ys hc.list k
        rw [← Array.foldl_toList, ← Array.foldl_toList, Array.toList_zipIdx, Array.toList_zipIdx]
        exact this

theorem flats_AR {p : Ren} {z : Array Value} (h : ∀ c ∈ z.toList, flat1 c = true) : AR p z z :=
  ⟨rfl, fun i a b => .same (h _ (by simp))⟩

theorem build_ok {P : Program} {p : Ren} {T : TypeId} {ps qs : Array (Nat × Value)} {v : Value} (hp : PR p ps.toList qs.toList)
    (hz : ∀ z, pureRun P (zeroValue T) = some z → AR p z.cells z.cells) (h : pureRun P (Instr.build T ps) = some v) :
    ∃ v', pureRun P (Instr.build T qs) = some v' ∧ VR p v v' := by
  unfold Instr.build at h ⊢
  rw [pureRun_bind] at h ⊢
  cases hzv : pureRun P (zeroValue T) with
  | none => rw [hzv] at h; cases h
  | some z =>
    have hz := hz z hzv
    rw [hzv] at h
    simp only [Option.bind_some, pureRun_bind, pureRun_underlying] at h ⊢
    cases hu : P.underlying T with
    | none => rw [hu] at h; cases h
    | some d =>
      rw [hu] at h
      simp only [Option.bind_some] at h ⊢
      cases d with
      | struct fs =>
        simp only [pureRun_bind] at h ⊢
        generalize pureRun P (Array.mapM (m := Sem) (fun f => do pure (Field.offset f, ← sizeOf (Field.type f))) fs) = pl at h ⊢
        cases pl with
        | none => cases h
        | some places =>
          simp only [Option.bind_some] at h ⊢
          cases hf : Instr.fill (fun x => places[x]?) z.cells ps.toList with
          | none => rw [hf] at h; simp [stuck, pureRun] at h
          | some cells =>
            obtain ⟨c', hc', hr⟩ := fill_ok _ _ _ _ _ hp hz hf
            rw [hf] at h; rw [hc']
            simp only [pureRun_pure, Option.some.injEq] at h ⊢
            subst h
            exact ⟨_, rfl, .agg hr.1 hr.2⟩
      | array len e =>
        simp only [pureRun_bind, pureRun_sizeOf] at h ⊢
        cases hi : P.info? e with
        | none => rw [hi] at h; cases h
        | some i =>
          rw [hi] at h
          simp only [Option.map_some, Option.bind_some] at h ⊢
          cases hf : Instr.fill (fun k => some (k * i.size, i.size)) z.cells ps.toList with
          | none => rw [hf] at h; simp [stuck, pureRun] at h
          | some cells =>
            obtain ⟨c', hc', hr⟩ := fill_ok _ _ _ _ _ hp hz hf
            rw [hf] at h; rw [hc']
            simp only [pureRun_pure, Option.some.injEq] at h ⊢
            subst h
            exact ⟨_, rfl, .agg hr.1 hr.2⟩
      | _ => simp [stuck, pureRun] at h
end Go.Proofs.YtfpcmckachpnpaaDoor.Vx
