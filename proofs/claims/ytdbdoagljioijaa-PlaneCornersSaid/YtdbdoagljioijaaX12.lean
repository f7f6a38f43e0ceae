/- The run over a memory with names of its own answers what the model answers: a region that draws its order. What is known of its text. -/
import Derived.Test.YtdbdoagljioijaaX11
namespace Go.Proofs.Ytdbdoagljioijaa.Vx
open Go Go.RowKit

def upto (p : Ren) (L : Nat) : Ren := fun id => if id < L then p id else none
theorem upto_lt {p : Ren} {L id : Nat} (h : id < L) : upto p L id = p id := by simp [upto, h]
theorem upto_ge {p : Ren} {L id : Nat} (h : L ≤ id) : upto p L id = none := by simp [upto]; omega
theorem upto_ext (p : Ren) (L : Nat) : Ext (upto p L) p := fun id r h => by
  unfold upto at h; split at h
  · exact h
  · cases h
theorem upto_mono {p q : Ren} {L M : Nat} (h : ∀ id r, id < L → p id = some r → q id = some r) (hl : L ≤ M) : Ext (upto p L) (upto q M) := fun id r hr => by
  unfold upto at hr ⊢
  split at hr
  · rename_i hi; rw [if_pos (by omega)]; exact h id r hi hr
  · cases hr

section
variable {P : Program} {callf : CallF} {ops : Array Oper}

theorem apre_append : ∀ (l k : List Nat) (t : Array Value) (H : AH), apre P callf ops (l ++ k) t H = (apre P callf ops l t H).bind fun x => apre P callf ops k x.1 x.2 := by
  intro l
  induction l with
  | nil => intro k t H; rfl
  | cons i r ih =>
    intro k t H
    simp only [List.cons_append, apre]
    cases ops[i]? with
    | none => rfl
    | some o =>
      simp only
      split
      · cases kindOf o.op <;> simp only
        · split
          · exact ih _ _ _
          · rfl
        · split
          · exact ih _ _ _
          · rfl
        · split
          · exact ih _ _ _
          · rfl
        · split
          · exact ih _ _ _
          · rfl
        · rfl
      · exact ih _ _ _

theorem pre_of : ∀ (m : Nat) (t t' : Array Value) (H H' : AH), apre P callf ops (List.range m) t H = some (t', H') →
    ∃ (tt : Nat → Array Value) (HH : Nat → AH), tt 0 = t ∧ HH 0 = H ∧ tt m = t' ∧ HH m = H' ∧ ∀ j, j < m → apre P callf ops [j] (tt j) (HH j) = some (tt (j + 1), HH (j + 1)) := by
  intro m
  induction m with
  | zero =>
    intro t t' H H' h
    simp only [List.range_zero, apre, Option.some.injEq, Prod.mk.injEq] at h
    exact ⟨fun _ => t, fun _ => H, rfl, rfl, h.1, h.2, fun j hj => by omega⟩
  | succ m ih =>
    intro t t' H H' h
    rw [List.range_succ, apre_append] at h
    cases hq : apre P callf ops (List.range m) t H with
    | none => rw [hq] at h; cases h
    | some x =>
      obtain ⟨t1, H1⟩ := x
      rw [hq] at h
      simp only [Option.bind_some] at h
      obtain ⟨tt, HH, h0, h1, h2, h3, h4⟩ := ih t t1 H H1 hq
      refine ⟨fun j => if j ≤ m then tt j else t', fun j => if j ≤ m then HH j else H', by simp [h0], by simp [h1], if_neg (by omega), if_neg (by omega), fun j hj => ?_⟩
      by_cases hjm : j < m
      · simp only [Nat.le_of_lt hjm, if_true, show j + 1 ≤ m by omega]; exact h4 j hjm
      · have : j = m := by omega
        subst this
        simp only [Nat.le_refl, if_true, show ¬ (j + 1 ≤ j) by omega, if_false, h2, h3]; exact h

/-- Does a memory serve an operation as H does? -/
structure Fit (o : Oper) (t : Array Value) (H Hx : AH) : Prop where
  len : Hx.length = H.length
  call : kindOf o.op = .call → Hx = roH H
  look : kindOf o.op = .look → ∀ x ∈ o.op.operands.toList, ∀ id, idOf (aev t x) = some id → ∀ b, live H id = some b → ∃ b2, live Hx id = some b2 ∧ b2.cells = b.cells ∧ b2.own = b.own ∧ b2.esz = b.esz

theorem aop_all {t : Array Value} {H K : AH} {o : Oper} {v : Value} (h : aop P callf t H o = some (v, K)) : o.op.operands.toList.all okOpd = true := by
  unfold aop at h
  split at h
  · cases h
  · rename_i hf; simpa using hf

theorem pre_step {j : Nat} {t t' : Array Value} {H H' : AH} (h : apre P callf ops [j] t H = some (t', H')) :
    ∃ o v N, ops[j]? = some o ∧ t' = aput t o.dst v ∧ H' = H ++ N ∧ (N ≠ [] → kindOf o.op = .make ∨ kindOf o.op = .call) ∧
      ((Region.wanted o (yielded ops t) = false ∧ v = undef ∧ N = []) ∨
       (Region.wanted o (yielded ops t) = true ∧ o.op.operands.toList.all okOpd = true ∧ ∀ Hx, Fit o t H Hx → ∃ K, aop P callf t Hx o = some (v, K) ∧ K.drop H.length = N)) := by
  simp only [apre] at h
  cases ho : ops[j]? with
  | none => rw [ho] at h; cases h
  | some o =>
    rw [ho] at h
    simp only at h
    split at h
    · rename_i hw
      cases hk : kindOf o.op with
      | barrier => rw [hk] at h; cases h
      | call =>
        rw [hk] at h
        simp only at h
        split at h
        · rename_i v K hv
          simp only [Option.some.injEq, Prod.mk.injEq] at h
          exact ⟨o, v, K.drop H.length, rfl, h.1.symm, h.2.symm, fun _ => .inr hk, .inr ⟨hw, aop_all hv, fun Hx hf => ⟨K, by rw [hf.call hk]; exact hv, rfl⟩⟩⟩
        · cases h
      | make =>
        rw [hk] at h
        simp only at h
        split at h
        · rename_i v K hv
          simp only [Option.some.injEq, Prod.mk.injEq] at h
          obtain ⟨blk, hb, hany⟩ := make_any hk hv
          exact ⟨o, v, [some blk], rfl, h.1.symm, by rw [← h.2, hb], fun _ => .inl hk, .inr ⟨hw, aop_all hv, fun Hx hf => ⟨_, hany Hx hf.len, by rw [← hf.len]; simp⟩⟩⟩
        · cases h
      | calm =>
        rw [hk] at h
        simp only at h
        split at h
        · rename_i v K hv
          simp only [Option.some.injEq, Prod.mk.injEq] at h
          exact ⟨o, v, [], rfl, h.1.symm, by rw [← h.2]; simp, fun h => absurd rfl h, .inr ⟨hw, aop_all hv, fun Hx hf => ⟨_, (calm_any hk hv).2 Hx, by rw [← hf.len]; simp⟩⟩⟩
        · cases h
      | look =>
        rw [hk] at h
        simp only at h
        split at h
        · rename_i v K hv
          simp only [Option.some.injEq, Prod.mk.injEq] at h
          exact ⟨o, v, [], rfl, h.1.symm, by rw [← h.2]; simp, fun h => absurd rfl h, .inr ⟨hw, aop_all hv, fun Hx hf => ⟨_, (look_any hk hv).2 Hx (hf.look hk), by rw [← hf.len]; simp⟩⟩⟩
        · cases h
    · rename_i hw
      simp only [Option.some.injEq, Prod.mk.injEq] at h
      exact ⟨o, undef, [], rfl, h.1.symm, by rw [← h.2]; simp, fun h => absurd rfl h, .inl ⟨by simpa using hw, rfl, rfl⟩⟩

/-- i stands ahead of j, whatever the order. -/
def Bef (bs : List Nat) (i j : Nat) : Prop := (bs.getD j 0).testBit i = true

def befOf (acc : List Nat) (o : Oper) : Nat := o.after.toList.foldl (fun s e => if Region.binds .any e then s ||| 2 ^ e.on ||| acc.getD e.on 0 else s) 0

theorem befOf_bit (acc : List Nat) (k : Nat) : ∀ (es : List Edge) (s : Nat), (es.foldl (fun s e => if Region.binds .any e then s ||| 2 ^ e.on ||| acc.getD e.on 0 else s) s).testBit k = true →
    s.testBit k = true ∨ ∃ e ∈ es, Region.binds .any e = true ∧ (k = e.on ∨ (acc.getD e.on 0).testBit k = true) := by
  intro es
  induction es with
  | nil => intro s h; exact .inl h
  | cons e es ih =>
    intro s h
    simp only [List.foldl_cons] at h
    rcases ih _ h with h1 | ⟨e', he', h1⟩
    · split at h1
      · rename_i hb
        simp only [Nat.testBit_or, Bool.or_eq_true, Nat.testBit_two_pow, decide_eq_true_eq] at h1
        rcases h1 with (h1 | h1) | h1
        · exact .inl h1
        · exact .inr ⟨e, by simp, hb, .inl h1.symm⟩
        · exact .inr ⟨e, by simp, hb, .inr h1⟩
      · exact .inl h1
    · exact .inr ⟨e', by simp [he'], h1⟩

theorem befores_eq : ∀ (l : List Oper) (acc : List Nat), (befores l acc).length = acc.length + l.length ∧ (∀ i, i < acc.length → (befores l acc)[i]? = acc[i]?) ∧
    ∀ (j : Nat) (o : Oper), l[j]? = some o → ∃ acc2 : List Nat, (befores l acc)[acc.length + j]? = some (befOf acc2 o) ∧ ∀ (i u : Nat), acc2[i]? = some u → (befores l acc)[i]? = some u := by
  intro l
  induction l with
  | nil => intro acc; exact ⟨by simp [befores], fun i _ => by simp [befores], fun j o h => by simp at h⟩
  | cons x l ih =>
    intro acc
    obtain ⟨h1, h2, h3⟩ := ih (acc ++ [befOf acc x])
    have he : befores (x :: l) acc = befores l (acc ++ [befOf acc x]) := rfl
    refine ⟨by rw [he, h1]; simp; omega, fun i hi => by rw [he, h2 i (by simp; omega), List.getElem?_append_left hi], fun j o hj => ?_⟩
    rw [he]
    cases j with
    | zero =>
      simp only [List.getElem?_cons_zero, Option.some.injEq] at hj
      subst hj
      refine ⟨acc, ?_, fun i u hu => ?_⟩
      · rw [Nat.add_zero, h2 _ (by simp)]; simp
      · have hi := (List.getElem?_eq_some_iff.1 hu).1
        rw [h2 i (by simp; omega), List.getElem?_append_left hi]; exact hu
    | succ j =>
      simp only [List.getElem?_cons_succ] at hj
      obtain ⟨acc2, h4, h5⟩ := h3 j o hj
      refine ⟨acc2, ?_, h5⟩
      rw [← h4]; congr 1; simp; omega

theorem bef_edge {l : List Oper} {k j : Nat} {o : Oper} (ho : l[j]? = some o) (h : Bef (befores l []) k j) :
    ∃ e ∈ o.after.toList, Region.binds .any e = true ∧ (k = e.on ∨ Bef (befores l []) k e.on) := by
  obtain ⟨_, _, h3⟩ := befores_eq l []
  obtain ⟨acc2, h4, h5⟩ := h3 j o ho
  simp only [List.length_nil, Nat.zero_add] at h4
  unfold Bef at h
  rw [List.getD_eq_getElem?_getD, h4, Option.getD_some] at h
  rcases befOf_bit acc2 k _ 0 h with h6 | ⟨e, he, hb, h6⟩
  · simp at h6
  · refine ⟨e, he, hb, h6.imp id fun h7 => ?_⟩
    unfold Bef
    rw [List.getD_eq_getElem?_getD] at h7 ⊢
    cases hu : acc2[e.on]? with
    | none => rw [hu] at h7; simp at h7
    | some u => rw [hu] at h7; rw [h5 _ _ hu]; exact h7

theorem cut_spec (bs : List Nat) : ∀ (n j : Nat), cutAt bs n ≤ j → j < n → ∀ i, i < j → Bef bs i j := by
  intro n
  induction n with
  | zero => intro j _ h; omega
  | succ n ih =>
    intro j h1 h2 i hi
    unfold cutAt at h1
    split at h1
    · rename_i hb
      by_cases hj : j = n
      · subst hj
        unfold Bef
        have hb : (bs.getD j 0) % 2 ^ j = 2 ^ j - 1 := by simpa using hb
        have h3 : ((bs.getD j 0) % 2 ^ j).testBit i = true := by rw [hb, Nat.testBit_two_pow_sub_one]; simpa using hi
        rw [Nat.testBit_mod_two_pow] at h3
        simp only [Bool.and_eq_true] at h3
        exact h3.2
      · exact ih j h1 (by omega) i hi
    · omega
theorem cut_le (bs : List Nat) : ∀ n, cutAt bs n ≤ n := by
  intro n
  induction n with
  | zero => exact Nat.le_refl _
  | succ n ih => unfold cutAt; split <;> omega

theorem textual_spec {l : List Oper} (h : textual l = true) {j : Nat} {o : Oper} (ho : l[j]? = some o) {e : Edge} (he : e ∈ o.after.toList) (hb : Region.binds .any e = true) : e.on < j := by
  unfold textual at h
  rw [List.all_eq_true] at h
  have := h (o, j) (by rw [List.mem_zipIdx_iff_getElem?]; exact ho)
  rw [List.all_eq_true] at this
  have := this e he
  simpa [hb] using this

theorem preOk_spec {l : List Oper} {bs : List Nat} {m : Nat} (h : preOk l bs ops m = true) {i j : Nat} {oi oj : Oper} (hi : l[i]? = some oi) (hj : l[j]? = some oj) (him : i < m) (hjm : j < m) (hne : i ≠ j) :
    (∀ d, oi.dst = some d → oj.dst ≠ some d ∧ (d ∈ oj.looksAt ops → (i < j ∧ Bef bs i j) ∨ (j < i ∧ Bef bs j i))) ∧
    (kindOf oi.op = .make ∨ kindOf oi.op = .call → kindOf oj.op = .call → j < i ∨ Bef bs i j) := by
  unfold preOk at h
  simp only [List.all_eq_true] at h
  have mem : ∀ {k : Nat} {o : Oper}, l[k]? = some o → k < m → (o, k) ∈ (l.take m).zipIdx := fun {k o} hk hkm => by
    rw [List.mem_zipIdx_iff_getElem?]; simp only; rw [List.getElem?_take, if_pos hkm]; exact hk
  have := h (oj, j) (mem hj hjm) (oi, i) (mem hi him)
  simp only [Bool.or_eq_true, beq_iff_eq, hne, false_or, Bool.and_eq_true] at this
  obtain ⟨h1, h2⟩ := this
  constructor
  · intro d hd
    rw [hd] at h1
    simp only [Bool.and_eq_true, bne_iff_ne, ne_eq, Bool.or_eq_true, Bool.not_eq_true'] at h1
    refine ⟨h1.1, fun hm => ?_⟩
    rcases h1.2 with h3 | h3
    · have : (oj.looksAt ops).contains d = true := by simpa using hm
      rw [this] at h3; cases h3
    · split at h3
      · rename_i hlt; exact .inl ⟨hlt, h3⟩
      · rename_i hlt; exact .inr ⟨by omega, h3⟩
  · intro h3 h4
    rcases h3 with h3 | h3 <;> rw [h3, h4] at h2 <;> simpa [Bef] using h2
end
end Go.Proofs.Ytdbdoagljioijaa.Vx
