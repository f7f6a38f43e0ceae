/- The run over a memory with names of its own answers what the model answers: operations that make, read and write memory. -/
import Derived.Test.YtfpcmckachpnpaaDoorX4
namespace Go.Proofs.YtfpcmckachpnpaaDoor.Vx
open Go Go.RowKit

section
variable {P : Program} {p : Ren} {H H' : AH} {w : World} {t : Array Value} {a : Act} {v : Value} {o : Oper}

theorem opd_ok (ht : AR p t a.tmps) {x : Operand} (h : okOpd x = true) : VR p (aev t x) (a.eval x) := by
  cases x with
  | tmp i =>
    simp only [aev, Act.eval, Array.getD_eq_getD_getElem?]
    cases hi : t[i]? with
    | none => rw [ht.none hi]; exact .tup rfl fun i h => by simp at h
    | some u => obtain ⟨u', h1, h2⟩ := ht.get hi; rw [h1]; exact h2
  | const u => exact flat_refl h
  | global g =>
    have h : (globs.any fun x => x.1 == g) = true := h
    simp only [aev, h, if_true]
    exact .glob
  | func f => exact .fn rfl (fun i h => by simp at h) rfl (fun i h => by simp at h)

theorem opds_ok {xs : Array Operand} (h : ∀ x ∈ xs.toList, VR p (aev t x) (a.eval x)) : AR p (xs.map (aev t)) (xs.map a.eval) :=
  ⟨by simp, fun i h1 h2 => by simp only [Array.getElem_map]; exact (h _ (by simp))⟩

/-- The operation answers v (or nothing), in a world that goes with H'. -/
def Gives (P : Program) (o : Oper) (a : Act) (p : Ren) (H : AH) (w : World) (v : Value) (H' : AH) : Prop :=
  ∃ p' v' w', ((execOp a.eval o).run P w = .ok (.value v') w' ∨ ((execOp a.eval o).run P w = .ok .skip w' ∧ v' = undef)) ∧ VR p' v v' ∧ St p H w p' H' w'

theorem Gives.wp (h : Gives P o a p H w v H') {next : Act → World → Prop} {Q : Exit → Act → World → Prop}
    (hn : ∀ p' v' w', VR p' v v' → St p H w p' H' w' → next (a.put o.dst v') w') : o.wp P a w next Q := by
  obtain ⟨p', v', w', hr, hv, hs⟩ := h
  unfold Oper.wp
  rcases hr with hr | ⟨hr, rfl⟩ <;> rw [hr]
  · exact hn p' v' w' hv hs
  · exact hn p' _ w' hv hs

/-- A text that asks nothing but the program gives its answer, in the same world. -/
theorem Gives.pure (hs : SR p H w) {v' : Value} (h : pureRun P (execOp a.eval o) = some (.value v')) (hv : VR p v v') : Gives P o a p H w v H :=
  ⟨p, v', w, .inl (pureRun_run h w), hv, .refl hs⟩

theorem aev_eq {x : Operand} (h : VR p (aev t x) (a.eval x)) (hf : flat (aev t x) = true) : a.eval x = aev t x := (h).flat_eq hf

theorem aflat_ok (hs : SR p H w) (hsel : ∀ cs b, o.op ≠ .select cs b) (hk : ∀ x ∈ o.op.operands.toList, VR p (aev t x) (a.eval x)) (h : aflat P t H o = some (v, H')) :
    H' = H ∧ Gives P o a p H w v H := by
  unfold aflat at h
  split at h
  · rename_i hf
    have he : execOp a.eval o = execOp (aev t) o := execOp_congr o hsel fun x hx => by
      have hx' : x ∈ o.op.operands.toList := by simpa using hx
      exact aev_eq (hk x hx') (List.all_eq_true.1 hf x hx')
    split at h
    · rename_i u hu
      split at h
      · rename_i hfl
        simp only [Option.some.injEq, Prod.mk.injEq] at h
        obtain ⟨rfl, rfl⟩ := h
        exact ⟨rfl, .pure hs (by rw [he]; exact hu) (flat_refl hfl)⟩
      · cases h
    · cases h
  · cases h

theorem aload_ok (hs : SR p H w) (hg : Gl p H w) {T : TypeId} {x x' : Value} (hx : VR p x x') (h : aload P T H x = some v) :
    ∃ v', (Instr.loadAt T x').run P w = .ok v' w ∧ VR p v v' := by
  unfold aload at h
  split at h
  · rename_i id off
    cases hx with
    | same hf => simp [flat1] at hf
    | ptr hr =>
      rename_i r
      split at h
      · rename_i b hl hagg
        split at h
        · rename_i i hi
          split at h
          · rename_i hn
            injection h with h; subst h
            obtain ⟨r', ys, hr', hlr, hlen, hcell⟩ := cells_ok hs hl hn
            rw [hr] at hr'; injection hr' with hr'; subst hr'
            have := run_loadCells_list (P := P) w _ ys hcell
            refine ⟨.agg ys.toArray, ?_, .agg (hlr.array).1 (hlr.array).2⟩
            rw [hlen] at this
            simp only [Instr.loadAt, Instr.sureAddr, loadVar, Sem.run_bind, Sem.run_pure, Result.andThen_ok, pureRun_run (by rw [pureRun_isAgg]; exact hagg) w, if_true,
              pureRun_run (P := P) (s := sizeOf T) (a := i.size) (by rw [pureRun_sizeOf, hi]; rfl) w, this]
          · cases h
        · cases h
      · rename_i b hl hagg
        obtain ⟨r', hr', hbr⟩ := hs.blk id b (live_some hl)
        rw [hr] at hr'; injection hr' with hr'; subst hr'
        obtain ⟨v', h1, h2⟩ := hbr.cell off v h
        refine ⟨v', ?_, h2⟩
        simp only [Instr.loadAt, Instr.sureAddr, loadVar, Sem.run_bind, Sem.run_pure, Result.andThen_ok, pureRun_run (by rw [pureRun_isAgg]; exact hagg) w, Bool.false_eq_true, if_false, run_load, h1]
      · cases h
  · rename_i g off
    cases hx with
    | same hf => simp [flat1] at hf
    | glob =>
      have mem : ∀ {y : Nat × List Value}, globs.find? (fun x => x.1 == g) = some y → (g, y.2) ∈ globs := fun {y} hy => by
        have h1 := List.mem_of_find?_eq_some hy
        have h2 := List.find?_some hy
        simp only [beq_iff_eq] at h2
        subst h2; exact h1
      have hadd : ∀ j, (⟨g, off, none⟩ : Addr).add j = ⟨g, off + j, none⟩ := fun j => by unfold Addr.add; split <;> simp_all
      split at h
      · rename_i nm cs hf hagg
        have hin := mem hf
        split at h
        · rename_i i hi
          split at h
          · rename_i hn
            injection h with h; subst h
            have hcell : ∀ j v, ((cs.drop off).take i.size)[j]? = some v → flat1 v = true ∧ w.cell? ((⟨g, off, none⟩ : Addr).add j) = some v := fun j v hj => by
              rw [hadd]
              rw [List.getElem?_take] at hj
              split at hj
              · rw [List.getElem?_drop] at hj
                exact (hg.gl g cs hin).2 _ v hj
              · cases hj
            have := run_loadCells_list (P := P) w _ _ (fun j v hj => (hcell j v hj).2)
            rw [show ((cs.drop off).take i.size).length = i.size by simp; omega] at this
            refine ⟨.agg ((cs.drop off).take i.size).toArray, ?_, .agg rfl fun j h1 h2 => .same (hcell j _ (by rw [← List.getElem?_toArray]; exact Array.getElem?_eq_getElem h1)).1⟩
            simp only [Instr.loadAt, Instr.sureAddr, loadVar, Sem.run_bind, Sem.run_pure, Result.andThen_ok, pureRun_run (by rw [pureRun_isAgg]; exact hagg) w, if_true,
              pureRun_run (P := P) (s := sizeOf T) (a := i.size) (by rw [pureRun_sizeOf, hi]; rfl) w, this]
          · cases h
        · cases h
      · rename_i nm cs hf hagg
        obtain ⟨h1, h2⟩ := (hg.gl g cs (mem hf)).2 off v h
        refine ⟨v, ?_, .same h1⟩
        simp only [Instr.loadAt, Instr.sureAddr, loadVar, Sem.run_bind, Sem.run_pure, Result.andThen_ok, pureRun_run (by rw [pureRun_isAgg]; exact hagg) w, Bool.false_eq_true, if_false, run_load, h2]
      · cases h
  · cases h

theorem load_ok (hs : SR p H w) (hg : Gl p H w) {T : TypeId} {x : Operand} (ho : o.op = .load T x) (hk : VR p (aev t x) (a.eval x)) (h : aload P T H (aev t x) = some v) : Gives P o a p H w v H := by
  obtain ⟨v', h1, h2⟩ := aload_ok (P := P) hs hg (hk) h
  exact ⟨p, v', w, .inl (by simp only [execOp, ho, Sem.run_bind, h1, Result.andThen_ok, Sem.run_pure]), h2, .refl hs⟩

theorem store_gives (hs : SR p H w) {T : TypeId} {x y : Operand} (ho : o.op = .store T x y) (hx : VR p (aev t x) (a.eval x)) (hy : VR p (aev t y) (a.eval y)) (hl : aev t y ≠ lost) (h : astore P T H (aev t x) (aev t y) = some H') :
    Gives P o a p H w undef H' := by
  have h1 := hx
  have h2 := hy
  unfold astore at h
  split at h
  · rename_i id off i hax hi
    rw [hax] at h1
    generalize hae : a.eval x = x' at h1
    cases h1 with
    | same hf => simp [flat1] at hf
    | ptr hr =>
      rename_i r
      split at h
      · rename_i hsz
        obtain ⟨r', w', hr', hrun, hst⟩ := store_ok (P := P) hs (h2.cells hl).list h
        rw [hr] at hr'; injection hr' with hr'; subst hr'
        refine ⟨p, undef, w', .inr ⟨?_, rfl⟩, .tup rfl (fun i h => by simp at h), hst⟩
        simp only [execOp, ho, hae, Sem.run_bind, Instr.storeAt, Instr.sureAddr, Sem.run_pure, Result.andThen_ok, storeVar,
          pureRun_run (P := P) (s := sizeOf T) (a := i.size) (by rw [pureRun_sizeOf, hi]; rfl) w, ← (h2.cells hl).1, hsz, ne_eq, not_true_eq_false, if_false, hrun]
      · cases h
  · cases h

theorem newVar_run (e : TypeId) (u : Value) (w : World) : (newVar e u).run P w = .ok ⟨w.heap.size, 0, none⟩ { w with heap := w.heap.push (.cells u.cells e) } := by
  simp [newVar, newRow, newObj, Sem.run]

theorem alloc_ok (hs : SR p H w) {e : TypeId} (ho : o.op = .alloc e) (h : aalloc P e H = some (v, H')) : Gives P o a p H w v H' := by
  unfold aalloc at h
  split at h
  · rename_i z hz
    simp only [Option.some.injEq, Prod.mk.injEq] at h
    obtain ⟨rfl, rfl⟩ := h
    obtain ⟨i, u, hi, hu, rfl, hfl, hrun, _⟩ := pureRun_zero hz
    refine ⟨_, _, _, .inl ?_, .ptr (Ren.add_self _ _ _), new_ok hs u.cells.toList u.cells e 0 fun k c hc => ⟨c, by simpa using hc, .same (hfl c ?_)⟩⟩
    · simp only [execOp, ho, Instr.alloc, Sem.run_bind, pureRun_run hrun w, Result.andThen_ok, newVar_run, Sem.run_pure, Nat.zero_add]
    · obtain ⟨hk, rfl⟩ := List.getElem?_eq_some_iff.1 hc; simp
  · cases h

theorem box_ok (hs : SR p H w) {e : TypeId} {x : Operand} (ho : o.op = .box e x) (hk : VR p (aev t x) (a.eval x)) (hl : aev t x ≠ lost) :
    Gives P o a p H w (.pointer (some ⟨H.length, 0, none⟩)) (H ++ [some ⟨(aev t x).cells.toList, true, true, 0⟩]) := by
  have hx := hk
  refine ⟨_, _, _, .inl ?_, .ptr (Ren.add_self _ _ _), new_ok hs _ (a.eval x).cells e 0 fun k c hc => ?_⟩
  · simp only [execOp, ho, Instr.box, Sem.run_bind, Result.andThen_ok, newVar_run, Sem.run_pure, Nat.zero_add]
  · obtain ⟨v', h1, h2⟩ := (hx.cells hl).list.get hc
    exact ⟨v', by simpa using h1, h2⟩

theorem fieldAddr_ok (hs : SR p H w) {s : TypeId} {x : Operand} {f : Nat} (ho : o.op = .fieldAddr s x f) (hk : VR p (aev t x) (a.eval x)) (h : afieldAddr P s f (aev t x) = some v) :
    Gives P o a p H w v H := by
  have h1 := hk
  unfold afieldAddr at h
  split at h
  · rename_i id off hax
    rw [hax] at h1
    generalize hae : a.eval x = x' at h1
    cases h1 with
    | same hf => simp [flat1] at hf
    | ptr hr =>
      rename_i r
      split at h
      · rename_i fs hu
        split at h
        · rename_i fd hfd
          split at h
          · rename_i i hi
            split at h
            · cases h
            · rename_i hsz
              injection h with h; subst h
              refine .pure hs (v' := .pointer (some ⟨r.blk, r.base + (off + fd.offset), none⟩)) ?_ (.ptr hr)
              have hadd : (⟨r.blk, r.base + off, none⟩ : Addr).add fd.offset = ⟨r.blk, r.base + (off + fd.offset), none⟩ := by
                unfold Addr.add; split <;> simp_all [Nat.add_assoc]
              simp only [execOp, ho, hae, pureRun_bind, Instr.fieldAt, pureRun_underlying, hu, Option.bind_some, hfd, Instr.sureAddr, pureRun_pure, fieldPlace, pureRun_sizeOf, hi, Option.map_some, hsz, if_false, hadd]
          · cases h
        · cases h
      · cases h
  · rename_i g off hax
    rw [hax] at h1
    generalize hae : a.eval x = x' at h1
    generalize hq : (some 0 : Option Nat) = q at h1
    cases h1 with
    | same hf => simp [flat1] at hf
    | ptr hr => cases hq
    | glob =>
      split at h
      · rename_i fs hu
        split at h
        · rename_i fd hfd
          split at h
          · rename_i i hi
            split at h
            · cases h
            · rename_i hsz
              injection h with h; subst h
              refine .pure hs (v' := .pointer (some ⟨g, off + fd.offset, none⟩)) ?_ .glob
              have hadd : (⟨g, off, none⟩ : Addr).add fd.offset = ⟨g, off + fd.offset, none⟩ := by
                unfold Addr.add; split <;> simp_all
              simp only [execOp, ho, hae, pureRun_bind, Instr.fieldAt, pureRun_underlying, hu, Option.bind_some, hfd, Instr.sureAddr, pureRun_pure, fieldPlace, pureRun_sizeOf, hi, Option.map_some, hsz, if_false, hadd]
          · cases h
        · cases h
      · cases h
  · cases h

theorem indexAddr_ok (hs : SR p H w) {T : TypeId} {x y : Operand} (ho : o.op = .indexAddr T x y) (hx : VR p (aev t x) (a.eval x)) (hy : VR p (aev t y) (a.eval y)) (h : aindexAddr P T (aev t x) (aev t y) = some v) :
    Gives P o a p H w v H := by
  have h1 := hx
  have h2 := hy
  unfold aindexAddr at h
  have hadd : ∀ (r : Rb) (off k : Nat), (⟨r.blk, r.base + off, none⟩ : Addr).add k = ⟨r.blk, r.base + (off + k), none⟩ := fun r off k => by
    unfold Addr.add; split <;> simp_all [Nat.add_assoc]
  split at h
  · rename_i len e id off k n hu hax hay
    rw [hax] at h1; rw [hay] at h2
    have h2 := h2.int
    generalize hae : a.eval x = x' at h1
    cases h1 with
    | same hf => simp [flat1] at hf
    | ptr hr =>
      rename_i r
      split at h
      · rename_i ie hi
        split at h
        · rename_i hn
          injection h with h; subst h
          refine .pure hs (v' := .pointer (some ⟨r.blk, r.base + (off + n.toNat * ie.size), none⟩)) ?_ (.ptr hr)
          simp only [execOp, ho, hae, h2, pureRun_bind, Instr.indexAt, asIntOf, pureRun_pure, Option.bind_some, pureRun_underlying, hu, Instr.sureAddr, hn, and_self, if_true, pureRun_sizeOf, hi, Option.map_some, hadd]
        · cases h
      · cases h
  · rename_i e id off len c k n hu hax hay
    rw [hax] at h1; rw [hay] at h2
    have h2 := h2.int
    generalize hae : a.eval x = x' at h1
    cases h1 with
    | same hf => simp [flat1] at hf
    | sl hr hn' hc' ho' =>
      rename_i c' r
      split at h
      · rename_i ie hi
        split at h
        · rename_i hn
          injection h with h; subst h
          refine .pure hs (v' := .pointer (some ⟨r.blk, r.base + (off + n.toNat * ie.size), none⟩)) ?_ (.ptr hr)
          simp only [execOp, ho, hae, h2, pureRun_bind, Instr.indexAt, asIntOf, pureRun_pure, Option.bind_some, pureRun_underlying, hu, hn, and_self, if_true, pureRun_sizeOf, hi, Option.map_some, hadd]
        · cases h
      · cases h
  · rename_i len e g off k n hu hax hay
    rw [hax] at h1; rw [hay] at h2
    have h2 := h2.int
    generalize hae : a.eval x = x' at h1
    generalize hq : (some 0 : Option Nat) = q at h1
    cases h1 with
    | same hf => simp [flat1] at hf
    | ptr hr => cases hq
    | glob =>
      split at h
      · rename_i ie hi
        split at h
        · rename_i hn
          injection h with h; subst h
          have hadd2 : ∀ k, (⟨g, off, none⟩ : Addr).add k = ⟨g, off + k, none⟩ := fun k => by unfold Addr.add; split <;> simp_all
          refine .pure hs (v' := .pointer (some ⟨g, off + n.toNat * ie.size, none⟩)) ?_ .glob
          simp only [execOp, ho, hae, h2, pureRun_bind, Instr.indexAt, asIntOf, pureRun_pure, Option.bind_some, pureRun_underlying, hu, Instr.sureAddr, hn, and_self, if_true, pureRun_sizeOf, hi, Option.map_some, hadd2]
        · cases h
      · cases h
  · cases h
end
end Go.Proofs.YtfpcmckachpnpaaDoor.Vx
