/- The run over a memory with names of its own answers what the model answers: a region that draws its order. What is known of its text. -/
import Derived.Test.YtfpcmckachpnpaaDoorX11
namespace Go.Proofs.YtfpcmckachpnpaaDoor.Vx
open Go Go.RowKit

def upto (p : Ren) (L : Nat) : Ren := fun id => if id < L then p id else none
theorem upto_lt {p : Ren} {L id : Nat} (h : id < L) : upto p L id = p id := by simp [upto, h]
theorem upto_ge {p : Ren} {L id : Nat} (h : L ≤ id) : upto p L id = none := by simp [upto]; omega
theorem upto_ext (p : Ren) (L : Nat) : Ext (upto p L) p := fun id r h => by
  unfold upto at h; split at h
  · exact h
  · cases h
theorem upto_mono {p q : Ren} {L M : Nat} (h : ∀ id r, id < L → p id = some r → q id = some r) (hl : L ≤ M) : Ext (upto p L) (upto q M) := fun id r hr => by
  unfold upto at hr ⊢
  split at hr
  · rename_i hi; rw [if_pos (by omega)]; exact h id r hi hr
  · cases hr

section
variable {P : Program} {callf : CallF} {ops : Array Oper} {mode L0 : Nat}

theorem apre_append : ∀ (l k : List Nat) (t : Array Value) (H : AH), apre P callf mode L0 ops (l ++ k) t H = (apre P callf mode L0 ops l t H).bind fun x => (apre P callf mode L0 ops k x.1 x.2.1).map fun y => (y.1, y.2.1, x.2.2 ++ y.2.2) := by
  intro l
  induction l with
  | nil => intro k t H; simp only [List.nil_append, apre, Option.bind_some, List.nil_append]; simp
  | cons i r ih =>
    intro k t H
    simp only [List.cons_append, apre]
    cases pre1 P callf mode L0 ops i t H with
    | none => rfl
    | some x =>
      simp only [ih]
      cases apre P callf mode L0 ops r x.1 x.2.1 with
      | none => rfl
      | some y =>
        simp only [Option.bind_some, Option.map_some, pushF]
        cases apre P callf mode L0 ops k y.1 y.2.1 <;> rfl

theorem pre_of : ∀ (m : Nat) (t t' : Array Value) (H H' : AH) (F : List Foot), apre P callf mode L0 ops (List.range m) t H = some (t', H', F) →
    ∃ (tt : Nat → Array Value) (HH : Nat → AH) (ft : Nat → Foot), tt 0 = t ∧ HH 0 = H ∧ tt m = t' ∧ HH m = H' ∧ F.length = m ∧ (∀ j, j < m → F[j]? = some (ft j)) ∧
      ∀ j, j < m → pre1 P callf mode L0 ops j (tt j) (HH j) = some (tt (j + 1), HH (j + 1), ft j) := by
  intro m
  induction m with
  | zero =>
    intro t t' H H' F h
    simp only [List.range_zero, apre, Option.some.injEq, Prod.mk.injEq] at h
    obtain ⟨h1, h2, rfl⟩ := h
    exact ⟨fun _ => t, fun _ => H, fun _ => ⟨false, [], []⟩, rfl, rfl, h1, h2, rfl, fun j hj => by omega, fun j hj => by omega⟩
  | succ m ih =>
    intro t t' H H' F h
    rw [List.range_succ, apre_append] at h
    cases hq : apre P callf mode L0 ops (List.range m) t H with
    | none => rw [hq] at h; cases h
    | some x =>
      obtain ⟨t1, H1, F1⟩ := x
      rw [hq] at h
      simp only [Option.bind_some, apre] at h
      cases hp : pre1 P callf mode L0 ops m t1 H1 with
      | none => rw [hp] at h; cases h
      | some y =>
        obtain ⟨t2, H2, f⟩ := y
        rw [hp] at h
        simp only [Option.map_some, pushF, Option.some.injEq, Prod.mk.injEq] at h
        obtain ⟨rfl, rfl, rfl⟩ := h
        obtain ⟨tt, HH, ft, h0, h1, h2, h3, hl, hF, h4⟩ := ih t t1 H H1 F1 hq
        refine ⟨fun j => if j ≤ m then tt j else t2, fun j => if j ≤ m then HH j else H2, fun j => if j < m then ft j else f, by simp [h0], by simp [h1], if_neg (by omega), if_neg (by omega), by simp [hl], fun j hj => ?_, fun j hj => ?_⟩
        · by_cases hjm : j < m
          · simp only [hjm, if_true]; rw [List.getElem?_append_left (by omega)]; exact hF j hjm
          · have : j = m := by omega
            subst this
            simp [hl]
        · by_cases hjm : j < m
          · simp only [Nat.le_of_lt hjm, if_true, show j + 1 ≤ m by omega, hjm]; exact h4 j hjm
          · have : j = m := by omega
            subst this
            simp only [Nat.le_refl, if_true, show ¬ (j + 1 ≤ j) by omega, if_false, h2, h3, hjm]; exact hp

theorem aop_all {t : Array Value} {H K : AH} {o : Oper} {v : Value} (h : aop P callf t H o = some (v, K)) : o.op.operands.toList.all okOpd = true := by
  unfold aop at h
  split at h
  · cases h
  · rename_i hf; exact (okT_all hf).1

theorem reach_mem {op : Op} {x : Operand} (h : x ∈ reach op) : x ∈ op.operands.toList := by
  cases op <;> simp_all [reach, Op.operands, Call.operands]
theorem marks_mem {op : Op} {x : Operand} (h : x ∈ marks op) : x ∈ reach op := by
  cases op with
  | call c => exact List.mem_of_mem_take (i := 1) h
  | _ => simp_all [reach, marks]
theorem ids_of_id {v : Value} {id : Nat} (h : idOf v = some id) : id ∈ idsOf v := by
  unfold idOf at h
  split at h
  · injection h with h; subst h; simp [idsOf, idsN]
  · injection h with h; subst h; simp [idsOf, idsN]
  · cases h

theorem seen_len (f : Foot) (H : AH) : (seen f H).length = H.length := by simp [seen]
theorem seen_at {f : Foot} {H : AH} {id : Nat} (hf : f.ro = false) (hi : id ∈ f.sees) : (seen f H)[id]? = H[id]? := by
  unfold seen
  by_cases hl : id < H.length
  · rw [List.getElem?_map, List.getElem?_eq_getElem (by simpa using hl)]
    simp only [Option.map_some, List.getElem_range, List.contains_iff_mem, hi, if_true, hf, Bool.false_eq_true, if_false]
    rw [List.getElem?_eq_getElem hl]
    cases H[id] <;> rfl
  · rw [List.getElem?_eq_none (by simp; omega), List.getElem?_eq_none (by omega)]
theorem seen_get {f : Foot} {H : AH} {id : Nat} {b : ABlk} (h : (seen f H)[id]? = some (some b)) : id < H.length ∧ id ∈ f.sees ∧ ∃ b0, H[id]? = some (some b0) ∧
    ((f.ro = true ∧ b = { b0 with wr := false }) ∨ (f.ro = false ∧ b = b0)) := by
  have hl : id < H.length := by have := (List.getElem?_eq_some_iff.1 h).1; rwa [seen_len] at this
  unfold seen at h
  rw [List.getElem?_map, List.getElem?_eq_getElem (by simpa using hl)] at h
  simp only [Option.map_some, List.getElem_range, Option.some.injEq] at h
  split at h
  · rename_i hi
    refine ⟨hl, by simpa using hi, ?_⟩
    split at h
    · rename_i b0 h0
      simp only [Option.some.injEq] at h
      refine ⟨b0, h0, ?_⟩
      split at h
      · rename_i hr; exact .inl ⟨hr, h.symm⟩
      · rename_i hr; exact .inr ⟨by simpa using hr, h.symm⟩
    · cases h
  · cases h
theorem mayWrite_iff {H : AH} {id : Nat} : mayWrite H id = true ↔ ∃ b, H[id]? = some (some b) ∧ b.wr = true := by
  unfold mayWrite
  split
  · rename_i b h; exact ⟨fun hw => ⟨b, h, hw⟩, fun ⟨b1, h1, h2⟩ => by rw [h] at h1; simp only [Option.some.injEq] at h1; subst h1; exact h2⟩
  · rename_i h; exact ⟨fun h => (by cases h), fun ⟨b1, h1, h2⟩ => absurd h1 (h b1)⟩

/-- What one operation does. -/
structure Does (P : Program) (callf : CallF) (L0 : Nat) (ops : Array Oper) (t : Array Value) (H : AH) (f : Foot) (o : Oper) (v : Value) (Hn N : AH) : Prop where
  open_ : blind ops t o = false
  len : Hn.length = H.length + N.length
  new : Hn.drop H.length = N
  same : ∀ id, id < H.length → id ∉ f.sets → Hn[id]? = H[id]?
  back : ∀ id (b : ABlk), id ∈ f.sets → id < H.length → Hn[id]? = some (some b) → ∃ b0, H[id]? = some (some b0) ∧ (b.wr = true → b0.wr = true)
  still : ∀ id (b : ABlk), id ∈ f.sets → H[id]? = some (some b) → b.wr = false → Hn[id]? = some (some b)
  sub : ∀ id ∈ f.sets, id ∈ f.sees
  sees : ∀ id ∈ f.sees, id < L0 ∨ ∃ x ∈ o.op.operands.toList, id ∈ idsOf (aev t x)
  idle : Region.wanted o (yielded ops t) = false → f.sees = [] ∧ f.sets = []
  run : (Region.wanted o (yielded ops t) = false ∧ v = undef ∧ N = [] ∧ Hn = H) ∨
       (Region.wanted o (yielded ops t) = true ∧ o.op.operands.toList.all okOpd = true ∧ ∃ K, aop P callf t (seen f H) o = some (v, K) ∧ K.drop H.length = N ∧
          (∀ id ∈ f.sets, ∀ b, Hn[id]? = some (some b) → K[id]? = some (some b)) ∧
          (∀ id ∈ f.sees, id ∉ f.sets → mayWrite (seen f H) id = true → ∀ b, Hn[id]? = some (some b) → K[id]? = some (some b)))

theorem Does.plain {L0 : Nat} {t : Array Value} {H : AH} {f : Foot} {o : Oper} {v : Value} {N : AH} (hbl : blind ops t o = false) (hsets : f.sets = []) (hro : f.ro = false)
    (hsees : ∀ id ∈ f.sees, id < L0 ∨ ∃ x ∈ o.op.operands.toList, id ∈ idsOf (aev t x)) (hw : Region.wanted o (yielded ops t) = true) (hall : o.op.operands.toList.all okOpd = true)
    (hrun : aop P callf t (seen f H) o = some (v, seen f H ++ N)) : Does P callf L0 ops t H f o v (H ++ N) N :=
  { open_ := hbl
    len := by simp
    new := by simp
    same := fun id hl _ => List.getElem?_append_left hl
    back := fun id b h => by rw [hsets] at h; cases h
    still := fun id b h => by rw [hsets] at h; cases h
    sub := fun id h => by rw [hsets] at h; cases h
    sees := hsees
    idle := fun h => by rw [hw] at h; cases h
    run := .inr ⟨hw, hall, _, hrun, (by rw [← seen_len f H]; simp), fun id h => (by rw [hsets] at h; cases h), fun id hi _ hm b hb => by
      obtain ⟨b1, h1, _⟩ := mayWrite_iff.1 hm
      have hl := (seen_get h1).1
      rw [List.getElem?_append_left hl] at hb
      rw [List.getElem?_append_left (by rw [seen_len]; exact hl), seen_at hro hi]; exact hb⟩ }

theorem pre_step {mode L0 j : Nat} {t t' : Array Value} {H H' : AH} {f : Foot} (h : pre1 P callf mode L0 ops j t H = some (t', H', f)) :
    ∃ o v N, ops[j]? = some o ∧ t' = aput t o.dst v ∧ Does P callf L0 ops t H f o v H' N := by
  unfold pre1 at h
  cases ho : ops[j]? with
  | none => rw [ho] at h; cases h
  | some o =>
    rw [ho] at h
    simp only at h
    split at h
    · cases h
    rename_i hbl
    have hbl : blind ops t o = false := by simpa using hbl
    split at h
    · rename_i hw
      cases hk : kindOf o.op with
      | barrier => rw [hk] at h; cases h
      | call =>
        rw [hk] at h
        simp only at h
        split at h
        · rename_i v K hv
          simp only [Option.some.injEq, Prod.mk.injEq] at h
          obtain ⟨rfl, rfl, rfl⟩ := h
          have hfacts : (∀ id ∈ (footOf mode L0 t H o).sees, id < L0 ∨ ∃ x ∈ o.op.operands.toList, id ∈ idsOf (aev t x)) ∧ (∀ id ∈ (footOf mode L0 t H o).sets, id ∈ (footOf mode L0 t H o).sees ∧ mayWrite H id = true) ∧
              ((footOf mode L0 t H o).ro = true ∨ ∀ id ∈ (footOf mode L0 t H o).sees, mayWrite H id = true → id ∈ (footOf mode L0 t H o).sets) := by
            unfold footOf
            rw [hk]
            simp only
            split
            · refine ⟨fun id hid => ?_, by simp, .inl rfl⟩
              simp only [List.mem_append, List.mem_range, List.mem_flatMap] at hid
              exact hid
            · refine ⟨fun id hid => .inr (by simpa using hid), fun id hid => ?_, .inr fun id hid hm => List.mem_filter.2 ⟨hid, hm⟩⟩
              exact List.mem_filter.1 hid
            · refine ⟨fun id hid => ?_, fun id hid => ?_, .inr fun id hid hm => List.mem_filter.2 ⟨hid, hm⟩⟩
              · simp only [List.mem_append, List.mem_filter, decide_eq_true_eq, List.mem_flatMap] at hid
                rcases hid with ⟨_, h⟩ | h
                · exact .inl h
                · exact .inr h
              · exact List.mem_filter.1 hid
          generalize footOf mode L0 t H o = f at hv hfacts ⊢
          obtain ⟨hsees, hsets, hro⟩ := hfacts
          have hml : (mergeH f.sets H K).length = H.length + (K.drop H.length).length := by unfold mergeH; split <;> simp
          have hmd : (mergeH f.sets H K).drop H.length = K.drop H.length := by
            unfold mergeH; split
            · simp
            · rw [List.drop_append]; simp
          have hsame : ∀ id, id < H.length → id ∉ f.sets → (mergeH f.sets H K)[id]? = H[id]? := fun id hl hns => by
            unfold mergeH
            split
            · exact List.getElem?_append_left hl
            · rw [List.getElem?_append_left (by simpa using hl), List.getElem?_map, List.getElem?_eq_getElem (by simpa using hl)]
              simp only [Option.map_some, List.getElem_range, List.contains_iff_mem, hns, if_false]
              rw [List.getElem?_eq_getElem hl]; rfl
          refine ⟨o, v, K.drop H.length, rfl, rfl, ⟨hbl, hml, hmd, hsame, fun id b hid hl _ => ?_, fun id b hid hb hwf => ?_, fun id hid => (hsets id hid).1, hsees, fun h => (by rw [hw] at h; cases h),
            .inr ⟨hw, aop_all hv, K, hv, rfl, fun id hid b hb => ?_, fun id hid hns hm b _ => ?_⟩⟩⟩
          · obtain ⟨b0, h0, h1⟩ := mayWrite_iff.1 (hsets id hid).2
            exact ⟨b0, h0, fun _ => h1⟩
          · obtain ⟨b0, h0, h1⟩ := mayWrite_iff.1 (hsets id hid).2
            rw [hb] at h0; simp only [Option.some.injEq] at h0; subst h0; rw [hwf] at h1; cases h1
          · obtain ⟨b0, h0, h1⟩ := mayWrite_iff.1 (hsets id hid).2
            have hl := (List.getElem?_eq_some_iff.1 h0).1
            unfold mergeH at hb
            split at hb
            · rename_i he; rw [he] at hid; cases hid
            · rw [List.getElem?_append_left (by simpa using hl), List.getElem?_map, List.getElem?_eq_getElem (by simpa using hl)] at hb
              simp only [Option.map_some, List.getElem_range, List.contains_iff_mem, hid, if_true, Option.some.injEq] at hb
              cases hq : K[id]? with
              | none => rw [hq] at hb; cases hb
              | some x => rw [hq] at hb; simp only [Option.join_some] at hb; rw [hb]
          · obtain ⟨b1, h1, h2⟩ := mayWrite_iff.1 hm
            obtain ⟨_, _, b0, h0, h3⟩ := seen_get h1
            rcases h3 with ⟨h3, rfl⟩ | ⟨h3, rfl⟩
            · cases h2
            · rcases hro with hro | hro
              · rw [hro] at h3; cases h3
              · exact absurd (hro id hid (mayWrite_iff.2 ⟨_, h0, h2⟩)) hns
        · cases h
      | make =>
        rw [hk] at h
        simp only at h
        split at h
        · rename_i v K hv
          simp only [Option.some.injEq, Prod.mk.injEq] at h
          obtain ⟨rfl, rfl, rfl⟩ := h
          obtain ⟨blk, rfl, hany⟩ := make_any hk hv
          have hf : footOf mode L0 t H o = ⟨false, [], []⟩ := by unfold footOf; rw [hk]
          rw [hf]
          exact ⟨o, v, [some blk], rfl, rfl, .plain hbl rfl rfl (by simp) hw (aop_all hv) (hany _ (seen_len _ _))⟩
        · cases h
      | write =>
        rw [hk] at h
        simp only at h
        split at h
        · rename_i v K hv
          simp only [Option.some.injEq, Prod.mk.injEq] at h
          obtain ⟨rfl, rfl, rfl⟩ := h
          have hf : footOf mode L0 t H o = ⟨false, (reach o.op).filterMap fun x => idOf (aev t x), (marks o.op).filterMap fun x => idOf (aev t x)⟩ := by unfold footOf; rw [hk]
          obtain ⟨u, N, rfl, hu, hany⟩ := write_any hk hv
          rw [hf]
          generalize hg : (⟨false, (reach o.op).filterMap fun x => idOf (aev t x), (marks o.op).filterMap fun x => idOf (aev t x)⟩ : Foot) = f
          have hro : f.ro = false := by rw [← hg]
          have hfs : f.sees = (reach o.op).filterMap fun x => idOf (aev t x) := by rw [← hg]
          have hft : f.sets = (marks o.op).filterMap fun x => idOf (aev t x) := by rw [← hg]
          have hne : ∀ id, id ∉ f.sets → ∀ x, u ≠ some (id, x) := fun id hns x hx => hns (by rw [hft]; exact (hu id x hx).1)
          have hcong : ∀ id ∈ f.sees, (app u (seen f H) ++ N)[id]? = (app u H ++ N)[id]? := fun id hid => by
            by_cases hl : id < H.length
            · rw [List.getElem?_append_left (by rw [app_len, seen_len]; exact hl), List.getElem?_append_left (by rw [app_len]; exact hl)]
              exact app_congr (seen_len _ _) (seen_at hro hid)
            · rw [List.getElem?_append_right (by rw [app_len, seen_len]; omega), List.getElem?_append_right (by rw [app_len]; omega), app_len, app_len, seen_len]
          have hsub : ∀ id ∈ f.sets, id ∈ f.sees := fun id hid => by
            rw [hft] at hid; rw [hfs]
            obtain ⟨x, hx, he⟩ := List.mem_filterMap.1 hid
            exact List.mem_filterMap.2 ⟨x, marks_mem hx, he⟩
          refine ⟨o, v, N, rfl, rfl, ⟨hbl, by rw [List.length_append, app_len], by rw [← app_len u H]; simp, fun id hl hns => by rw [List.getElem?_append_left (by rw [app_len]; exact hl), app_ne (hne id hns)],
            fun id b hid hl hb => ?_, fun id b hid hb hwf => ?_, hsub, fun id hid => ?_, fun h => (by rw [hw] at h; cases h),
            .inr ⟨hw, aop_all hv, _, hany (seen f H) (seen_len _ _) (fun id hid => seen_at hro (by rw [hfs]; exact hid)), by rw [← seen_len f H, ← app_len u (seen f H)]; simp,
              fun id hid b hb => by rw [hcong id (hsub id hid)]; exact hb, fun id hid _ _ b hb => by rw [hcong id hid]; exact hb⟩⟩⟩
          · rw [List.getElem?_append_left (by rw [app_len]; exact hl)] at hb
            by_cases hux : ∃ x, u = some (id, x)
            · obtain ⟨x, hux⟩ := hux
              obtain ⟨_, b1, h1, h2⟩ := hu id x hux
              exact ⟨b1, h1, fun _ => h2⟩
            · rw [app_ne fun x hx => hux ⟨x, hx⟩] at hb
              exact ⟨b, hb, fun h => h⟩
          · have hl := (List.getElem?_eq_some_iff.1 hb).1
            rw [List.getElem?_append_left (by rw [app_len]; exact hl), app_ne fun x hx => ?_]
            · exact hb
            · obtain ⟨_, b1, h1, h2⟩ := hu id x hx
              rw [hb] at h1; simp only [Option.some.injEq] at h1; subst h1; rw [hwf] at h2; cases h2
          · rw [hfs] at hid
            obtain ⟨x, hx, he⟩ := List.mem_filterMap.1 hid
            exact .inr ⟨x, reach_mem hx, ids_of_id he⟩
        · cases h
      | calm =>
        rw [hk] at h
        simp only at h
        split at h
        · rename_i v K hv
          simp only [Option.some.injEq, Prod.mk.injEq] at h
          obtain ⟨rfl, rfl, rfl⟩ := h
          have hf : footOf mode L0 t H o = ⟨false, [], []⟩ := by unfold footOf; rw [hk]
          rw [hf]
          have := Does.plain (P := P) (callf := callf) (L0 := L0) (H := H) (f := ⟨false, [], []⟩) (N := []) hbl rfl rfl (by simp) hw (aop_all hv) (by rw [List.append_nil]; exact (calm_any hk hv).2 _)
          rw [List.append_nil] at this
          exact ⟨o, v, [], rfl, rfl, this⟩
        · cases h
      | look =>
        rw [hk] at h
        simp only at h
        split at h
        · rename_i v K hv
          simp only [Option.some.injEq, Prod.mk.injEq] at h
          obtain ⟨rfl, rfl, rfl⟩ := h
          have hf : footOf mode L0 t H o = ⟨false, (reach o.op).filterMap fun x => idOf (aev t x), []⟩ := by unfold footOf; rw [hk]
          rw [hf]
          generalize hg : (⟨false, (reach o.op).filterMap fun x => idOf (aev t x), []⟩ : Foot) = f
          have hro : f.ro = false := by rw [← hg]
          have hfs : f.sees = (reach o.op).filterMap fun x => idOf (aev t x) := by rw [← hg]
          have := Does.plain (P := P) (callf := callf) (L0 := L0) (H := H) (f := f) (N := []) hbl (by rw [← hg]) hro (fun id hid => by
            rw [hfs] at hid
            obtain ⟨x, hx, he⟩ := List.mem_filterMap.1 hid
            exact .inr ⟨x, reach_mem hx, ids_of_id he⟩) hw (aop_all hv) (by
            rw [List.append_nil]
            refine (look_any hk hv).2 _ fun x hx id hid b hb => ⟨b, ?_, rfl, rfl, rfl⟩
            rw [live_congr (seen_at hro (by rw [hfs]; exact List.mem_filterMap.2 ⟨x, hx, hid⟩)), hb])
          rw [List.append_nil] at this
          exact ⟨o, v, [], rfl, rfl, this⟩
        · cases h
    · rename_i hw
      have hw : Region.wanted o (yielded ops t) = false := by simpa using hw
      simp only [Option.some.injEq, Prod.mk.injEq] at h
      obtain ⟨rfl, rfl, rfl⟩ := h
      exact ⟨o, undef, [], rfl, rfl, ⟨hbl, by simp, by simp, fun _ _ _ => rfl, by simp, by simp, by simp, by simp, fun _ => ⟨rfl, rfl⟩, .inl ⟨hw, rfl, rfl, rfl⟩⟩⟩

/-- i stands ahead of j, whatever the order. -/
def Bef (bs : List Nat) (i j : Nat) : Prop := (bs.getD j 0).testBit i = true

def befOf (acc : List Nat) (o : Oper) : Nat := o.after.toList.foldl (fun s e => if Region.binds .any e then s ||| 2 ^ e.on ||| acc.getD e.on 0 else s) 0

theorem befOf_bit (acc : List Nat) (k : Nat) : ∀ (es : List Edge) (s : Nat), (es.foldl (fun s e => if Region.binds .any e then s ||| 2 ^ e.on ||| acc.getD e.on 0 else s) s).testBit k = true →
    s.testBit k = true ∨ ∃ e ∈ es, Region.binds .any e = true ∧ (k = e.on ∨ (acc.getD e.on 0).testBit k = true) := by
  intro es
  induction es with
  | nil => intro s h; exact .inl h
  | cons e es ih =>
    intro s h
    simp only [List.foldl_cons] at h
    rcases ih _ h with h1 | ⟨e', he', h1⟩
    · split at h1
      · rename_i hb
        simp only [Nat.testBit_or, Bool.or_eq_true, Nat.testBit_two_pow, decide_eq_true_eq] at h1
        rcases h1 with (h1 | h1) | h1
        · exact .inl h1
        · exact .inr ⟨e, by simp, hb, .inl h1.symm⟩
        · exact .inr ⟨e, by simp, hb, .inr h1⟩
      · exact .inl h1
    · exact .inr ⟨e', by simp [he'], h1⟩

theorem befores_eq : ∀ (l : List Oper) (acc : List Nat), (befores l acc).length = acc.length + l.length ∧ (∀ i, i < acc.length → (befores l acc)[i]? = acc[i]?) ∧
    ∀ (j : Nat) (o : Oper), l[j]? = some o → ∃ acc2 : List Nat, (befores l acc)[acc.length + j]? = some (befOf acc2 o) ∧ ∀ (i u : Nat), acc2[i]? = some u → (befores l acc)[i]? = some u := by
  intro l
  induction l with
  | nil => intro acc; exact ⟨by simp [befores], fun i _ => by simp [befores], fun j o h => by simp at h⟩
  | cons x l ih =>
    intro acc
    obtain ⟨h1, h2, h3⟩ := ih (acc ++ [befOf acc x])
    have he : befores (x :: l) acc = befores l (acc ++ [befOf acc x]) := rfl
    refine ⟨by rw [he, h1]; simp; omega, fun i hi => by rw [he, h2 i (by simp; omega), List.getElem?_append_left hi], fun j o hj => ?_⟩
    rw [he]
    cases j with
    | zero =>
      simp only [List.getElem?_cons_zero, Option.some.injEq] at hj
      subst hj
      refine ⟨acc, ?_, fun i u hu => ?_⟩
      · rw [Nat.add_zero, h2 _ (by simp)]; simp
      · have hi := (List.getElem?_eq_some_iff.1 hu).1
        rw [h2 i (by simp; omega), List.getElem?_append_left hi]; exact hu
    | succ j =>
      simp only [List.getElem?_cons_succ] at hj
      obtain ⟨acc2, h4, h5⟩ := h3 j o hj
      refine ⟨acc2, ?_, h5⟩
      rw [← h4]; congr 1; simp; omega

theorem bef_edge {l : List Oper} {k j : Nat} {o : Oper} (ho : l[j]? = some o) (h : Bef (befores l []) k j) :
    ∃ e ∈ o.after.toList, Region.binds .any e = true ∧ (k = e.on ∨ Bef (befores l []) k e.on) := by
  obtain ⟨_, _, h3⟩ := befores_eq l []
  obtain ⟨acc2, h4, h5⟩ := h3 j o ho
  simp only [List.length_nil, Nat.zero_add] at h4
  unfold Bef at h
  rw [List.getD_eq_getElem?_getD, h4, Option.getD_some] at h
  rcases befOf_bit acc2 k _ 0 h with h6 | ⟨e, he, hb, h6⟩
  · simp at h6
  · refine ⟨e, he, hb, h6.imp id fun h7 => ?_⟩
    unfold Bef
    rw [List.getD_eq_getElem?_getD] at h7 ⊢
    cases hu : acc2[e.on]? with
    | none => rw [hu] at h7; simp at h7
    | some u => rw [hu] at h7; rw [h5 _ _ hu]; exact h7

theorem cut_spec (bs : List Nat) : ∀ (n j : Nat), cutAt bs n ≤ j → j < n → ∀ i, i < j → Bef bs i j := by
  intro n
  induction n with
  | zero => intro j _ h; omega
  | succ n ih =>
    intro j h1 h2 i hi
    unfold cutAt at h1
    split at h1
    · rename_i hb
      by_cases hj : j = n
      · subst hj
        unfold Bef
        have hb : (bs.getD j 0) % 2 ^ j = 2 ^ j - 1 := by simpa using hb
        have h3 : ((bs.getD j 0) % 2 ^ j).testBit i = true := by rw [hb, Nat.testBit_two_pow_sub_one]; simpa using hi
        rw [Nat.testBit_mod_two_pow] at h3
        simp only [Bool.and_eq_true] at h3
        exact h3.2
      · exact ih j h1 (by omega) i hi
    · omega
theorem cut_le (bs : List Nat) : ∀ n, cutAt bs n ≤ n := by
  intro n
  induction n with
  | zero => exact Nat.le_refl _
  | succ n ih => unfold cutAt; split <;> omega

theorem textual_spec {l : List Oper} (h : textual l = true) {j : Nat} {o : Oper} (ho : l[j]? = some o) {e : Edge} (he : e ∈ o.after.toList) (hb : Region.binds .any e = true) : e.on < j := by
  unfold textual at h
  rw [List.all_eq_true] at h
  have := h (o, j) (by rw [List.mem_zipIdx_iff_getElem?]; exact ho)
  rw [List.all_eq_true] at this
  have := this e he
  simpa [hb] using this

theorem preOk_spec {l : List Oper} {bs : List Nat} {m : Nat} (h : preOk l bs ops m = true) {i j : Nat} {oi oj : Oper} (hi : l[i]? = some oi) (hj : l[j]? = some oj) (him : i < m) (hjm : j < m) (hne : i ≠ j) :
    ∀ d, oi.dst = some d → oj.dst ≠ some d ∧ (d ∈ oj.looksAt ops → (i < j ∧ Bef bs i j) ∨ (j < i ∧ Bef bs j i)) := by
  unfold preOk at h
  simp only [List.all_eq_true] at h
  have mem : ∀ {k : Nat} {o : Oper}, l[k]? = some o → k < m → (o, k) ∈ (l.take m).zipIdx := fun {k o} hk hkm => by
    rw [List.mem_zipIdx_iff_getElem?]; simp only; rw [List.getElem?_take, if_pos hkm]; exact hk
  have := h (oj, j) (mem hj hjm) (oi, i) (mem hi him)
  simp only [Bool.or_eq_true, beq_iff_eq, hne, false_or] at this
  intro d hd
  rw [hd] at this
  simp only [Bool.and_eq_true, bne_iff_ne, ne_eq, Bool.or_eq_true, Bool.not_eq_true'] at this
  refine ⟨this.1, fun hm => ?_⟩
  rcases this.2 with h3 | h3
  · have : (oj.looksAt ops).contains d = true := by simpa using hm
    rw [this] at h3; cases h3
  · split at h3
    · rename_i hlt; exact .inl ⟨hlt, h3⟩
    · rename_i hlt; exact .inr ⟨by omega, h3⟩

theorem foots_spec {F : List Foot} {bs : List Nat} {m : Nat} (h : footsOk F bs m = true) {i j : Nat} {fi fj : Foot} (hi : F[i]? = some fi) (hj : F[j]? = some fj) (him : i < m) (hjm : j < m) (hne : i ≠ j) :
    fi.sets = [] ∨ Bef bs i j ∨ Bef bs j i ∨ (∀ id ∈ fi.sets, id ∉ fj.sees) := by
  unfold footsOk at h
  simp only [List.all_eq_true] at h
  have := h i (by simpa using him)
  rw [hi] at this
  obtain ⟨a, ss, ws⟩ := fi
  cases ws with
  | nil => exact .inl rfl
  | cons x xs =>
    simp only [List.all_eq_true] at this
    have := this j (by simpa using hjm)
    rw [hj] at this
    simp only [Bool.or_eq_true, beq_iff_eq, hne, false_or, List.all_eq_true] at this
    rcases this with (h1 | h1) | h1
    · exact .inr (.inl h1)
    · exact .inr (.inr (.inl h1))
    · exact .inr (.inr (.inr fun id hid hc => by have := h1 id hid; simp [hc] at this))
end
end Go.Proofs.YtfpcmckachpnpaaDoor.Vx
