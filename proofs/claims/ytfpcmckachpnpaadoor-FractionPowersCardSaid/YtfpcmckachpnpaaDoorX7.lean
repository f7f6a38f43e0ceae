/- The run over a memory with names of its own answers what the model answers: slices that are made, appended to and copied. -/
import Derived.Test.YtfpcmckachpnpaaDoorX6
namespace Go.Proofs.YtfpcmckachpnpaaDoor.Vx
open Go Go.RowKit

section
variable {P : Program} {p : Ren} {H H' : AH} {w : World} {t : Array Value} {a : Act} {v : Value} {o : Oper}

theorem newRow_run (e : TypeId) (c : Array Value) (w : World) : (newRow e c).run P w = .ok ⟨w.heap.size, 0, none⟩ { w with heap := w.heap.push (.cells c e) } := by
  simp [newRow, newObj, Sem.run]

theorem buildSlice_ok (hs : SR p H w) {T : TypeId} {n : Nat} {ps : Array (Nat × Operand)} (ho : o.op = .buildSlice T n ps) (hk : ∀ x ∈ ps.toList, VR p (aev t x.2) (a.eval x.2) ∧ aev t x.2 ≠ lost)
    (h : abuildSlice P T n (ps.toList.map fun (i, x) => (i, aev t x)) H = some (v, H')) : Gives P o a p H w v H' := by
  unfold abuildSlice at h
  split at h
  · rename_i e hu
    split at h
    · rename_i i z hi hz
      split at h
      · cases h
      · rename_i hlim
        split at h
        · rename_i cells hfill
          simp only [Option.some.injEq, Prod.mk.injEq] at h
          obtain ⟨rfl, rfl⟩ := h
          obtain ⟨i', u, hi', hu', rfl, hfl, hrun, _⟩ := pureRun_zero hz
          have hpr : PR p (ps.toList.map fun (i, x) => (i, aev t x)) (ps.map fun x => (x.1, a.eval x.2)).toList := by
            refine ⟨by simp, fun k h1 h2 => ?_⟩
            simp only [List.getElem_map, Array.toList_map, true_and]
            exact (hk _ (by simp))
          have hrep := rep_flat hfl (n * i.size)
          obtain ⟨cells', hf', hr⟩ := fill_ok _ _ _ _ _ hpr (flats_AR (p := p) hrep) hfill
          refine ⟨_, .slice (some ⟨w.heap.size, 0, none⟩) n n, _, .inl ?_, .sl (Ren.add_self _ _ _) (Nat.le_refl _) (fun _ => rfl) (fun h0 _ => by simp [h0]), new_ok hs cells.toList cells' e i.size fun k c hc => ?_⟩
          · have hsz := pureRun_run (P := P) (s := sizeOf e) (a := i.size) (by rw [pureRun_sizeOf, hi]; rfl) w
            unfold rep at hf'
            simp only [execOp, ho, Instr.buildSlice, Sem.run_bind, pureRun_run (P := P) (s := underlying T) (a := .slice e) (by rw [pureRun_underlying]; exact hu) w, Result.andThen_ok, hsz,
              if_neg hlim]
            by_cases h0 : n * i.size = 0
            · simp only [h0, if_true] at hf' ⊢
              simp only [Sem.run_bind, Sem.run_pure, Result.andThen_ok, hf', newRow_run]
            · simp only [if_neg h0] at hf' ⊢
              simp only [Sem.run_bind, Sem.run_pure, Result.andThen_ok, pureRun_run hrun w, hf', newRow_run]
          · obtain ⟨v', h1, h2⟩ := hr.list.get hc
            exact ⟨v', by simpa using h1, h2⟩
        · cases h
    · cases h
  · cases h

theorem makeSlice_ok (hs : SR p H w) {T : TypeId} {x y : Operand} (ho : o.op = .makeSlice T x y) (hx : VR p (aev t x) (a.eval x)) (hy : VR p (aev t y) (a.eval y))
    (h : amakeSlice P T (aev t x) (aev t y) H = some (v, H')) : Gives P o a p H w v H' := by
  have h1 := hx
  have h2 := hy
  have ints : ∀ {u u' : Value} {n : Int}, VR p u u' → intArg u = some n → (asInt u').run P w = .ok n w := by
    intro u u' n hv hi
    unfold intArg at hi
    split at hi
    · injection hi with hi; subst hi
      rw [hv.int]
      simp [asInt, asIntOf]
    · cases hi
  unfold amakeSlice at h
  split at h
  · rename_i e len cap hu hl hc
    split at h
    · rename_i i z hi hz
      split at h
      · rename_i hcond
        obtain ⟨hw1, hw2, hl0, hlc, hb⟩ := hcond
        simp only [Option.some.injEq, Prod.mk.injEq] at h
        obtain ⟨rfl, rfl⟩ := h
        obtain ⟨i', u, hi', hu', rfl, hfl, hrun, _⟩ := pureRun_zero hz
        have hrep := rep_flat hfl (cap.toNat * i.size)
        refine ⟨_, .slice (some ⟨w.heap.size, 0, none⟩) len.toNat cap.toNat, _, .inl ?_, .sl (Ren.add_self _ _ _) (by omega) (fun _ => rfl) (fun h0 _ => by simp [h0]),
          new_ok hs _ (rep (if cap.toNat * i.size = 0 then #[] else u.cells) (cap.toNat * i.size)) e i.size fun k c hc => ⟨c, by simpa using hc, .same (hrep c (List.mem_of_getElem? hc))⟩⟩
        have hroom : ∀ b : Nat, (askRoom b).run P w = .ok () w := fun b => by unfold askRoom; split <;> rfl
        simp only [execOp, ho, Instr.makeSlice, Sem.run_bind, pureRun_run (P := P) (s := underlying T) (a := .slice e) (by rw [pureRun_underlying]; exact hu) w, Result.andThen_ok, ints h1 hl, ints h2 hc,
          pureRun_run (P := P) (s := typeInfo e) (a := i) (by rw [pureRun_typeInfo]; exact hi) w, hw1, hw2]
        rw [if_neg (by simp; omega)]
        simp only [Sem.run_bind, hroom, Result.andThen_ok, pureRun_run (P := P) (s := sizeOf e) (a := i.size) (by rw [pureRun_sizeOf, hi]; rfl) w]
        unfold rep
        by_cases h0 : cap.toNat * i.size = 0
        · simp only [h0, if_true]
          simp only [Sem.run_bind, Sem.run_pure, Result.andThen_ok, newRow_run]
        · simp only [if_neg h0]
          simp only [Sem.run_bind, Sem.run_pure, Result.andThen_ok, pureRun_run hrun w, newRow_run]
      · cases h
    · cases h
  · cases h
end
end Go.Proofs.YtfpcmckachpnpaaDoor.Vx
