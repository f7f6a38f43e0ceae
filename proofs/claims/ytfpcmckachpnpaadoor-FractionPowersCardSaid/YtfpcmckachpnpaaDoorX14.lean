/- The run over a memory with names of its own answers what the model answers: a region that draws its order, whole. -/
import Derived.Test.YtfpcmckachpnpaaDoorX13
namespace Go.Proofs.YtfpcmckachpnpaaDoor.Vx
open Go Go.RowKit

section
variable {P : Program} {callf : CallF} {ops : Array Oper} {m : Nat} {tt : Nat → Array Value} {HH : Nat → AH} {p0 : Ren} {w0 : World} {bs : List Nat} {ft : Nat → Foot}
variable {listed : Array Bool} {p : Ren} {a : Act} {w : World}

theorem Given.range_of (_g : Given P callf ops bs m tt HH ft) : ∀ {j : Nat}, j ≤ m → ∀ {id : Nat}, (HH 0).length ≤ id → id < (HH j).length → ∃ i, i < j ∧ (HH i).length ≤ id ∧ id < (HH (i + 1)).length := by
  intro j
  induction j with
  | zero => intro _ id h1 h2; omega
  | succ j ih =>
    intro hj id h1 h2
    by_cases h3 : id < (HH j).length
    · obtain ⟨i, h4, h5, h6⟩ := ih (by omega) h1 h3
      exact ⟨i, by omega, h5, h6⟩
    · exact ⟨j, by omega, by omega, h2⟩

theorem Inv.start (g : Given P callf ops bs m tt HH ft) (ht : AR p0 (tt 0) a.tmps) (hd : a.defers = []) (hs : SR p0 (HH 0) w0) :
    Inv ops bs m tt HH ft p0 w0 (Array.replicate ops.size false) p0 a w0 := by
  have e0 : Ext p0 (upto p0 (HH 0).length) := fun id r hr => by rw [upto_lt (hs.dom id r hr)]; exact hr
  have nd : ∀ i, ¬ Dn (Array.replicate ops.size false) i := fun i => by
    unfold Dn
    rw [Array.getD_eq_getD_getElem?]
    cases h : (Array.replicate ops.size false)[i]? with
    | none => simp
    | some b =>
      obtain ⟨h1, h2⟩ := Array.getElem?_eq_some_iff.1 h
      simp at h2; subst h2; simp
  have ver0 : ∀ id k, Ver m HH ft (Array.replicate ops.size false) id k → id < (HH 0).length ∧ (HH k)[id]? = (HH 0)[id]? := fun id k hk => by
    have hl : id < (HH 0).length := by
      rcases Nat.lt_or_ge id (HH 0).length with h1 | h1
      · exact h1
      · obtain ⟨i, hi, h2, h3⟩ := g.range_of hk.le h1 hk.lt
        exact absurd (hk.born i (Nat.lt_of_lt_of_le hi hk.le) h2 h3) (nd i)
    exact ⟨hl, g.stay (Nat.zero_le k) hk.le hl fun i _ h2 h3 => nd i ((hk.set i (Nat.lt_of_lt_of_le h2 hk.le) h3).1 h2)⟩
  constructor
  · simp
  · intro i _; exact nd i
  · intro i k h; exact absurd h (nd i)
  · exact hd
  · exact ht.1.symm
  · intro j o d _ h; exact absurd h (nd j)
  · intro d _ u hu
    obtain ⟨u', h1, h2⟩ := ht.get hu
    exact ⟨u', h1, h2.mono e0⟩
  · intro id r hr; exact .inl (hs.dom id r hr)
  · intro id k b hk hb
    have h0 := ver0 id k hk
    rw [h0.2] at hb
    obtain ⟨r, hr, hbr⟩ := hs.blk id b hb
    exact ⟨r, hr, hbr.mono (e0.trans (upto_mono (fun _ _ _ h => h) (g.len_mono (Nat.zero_le _) hk.le)))⟩
  · intro id id' k k' b b' r r' hk hk' hb hb' hw hne hr hr'
    rw [(ver0 id k hk).2] at hb
    rw [(ver0 id' k' hk').2] at hb'
    exact hs.inj id id' b b' r r' hb hb' hw hne hr hr'
  · intro i _ h; exact absurd h (nd i)
  · rfl
  · rfl
  · rfl
  · exact Nat.le_refl _
  · intro k _ _; rfl
  · intro id _; rfl
  · intro id r hr hl; exact absurd (hs.dom id r hr) (by omega)

theorem Inv.finish (g : Given P callf ops bs m tt HH ft) (h : Inv ops bs m tt HH ft p0 w0 listed p a w) (hs : SR p0 (HH 0) w0) (hall : ∀ j, j < m → Dn listed j) :
    AR p (tt m) a.tmps ∧ a.defers = [] ∧ St p0 (HH 0) w0 p (HH m) w := by
  have hl0 := g.len_mono (Nat.zero_le m) (Nat.le_refl _)
  have e0 : Ext p0 p := fun id r hr => by rw [h.old id (hs.dom id r hr)]; exact hr
  have ver : ∀ id, id < (HH m).length → Ver m HH ft listed id m := fun id hl =>
    ⟨Nat.le_refl _, hl, fun i hi _ => ⟨fun _ => hall i hi, fun _ => hi⟩, fun i hi _ _ => hall i hi⟩
  have verb : ∀ {id : Nat} {b : ABlk}, (HH m)[id]? = some (some b) → Ver m HH ft listed id m := fun {id b} hb => ver id (List.getElem?_eq_some_iff.1 hb).1
  have blk : ∀ id b, (HH m)[id]? = some (some b) → ∃ r, p id = some r ∧ BR p w b r := fun id b hb => by
    obtain ⟨r, hr, hbr⟩ := h.blk id m b (verb hb) hb; exact ⟨r, hr, hbr.mono (upto_ext _ _)⟩
  have sr : SR p (HH m) w := by
    refine ⟨fun id r hr => ?_, blk, fun id id' b b' r r' hb hb' => h.inj id id' m m b b' r r' (verb hb) (verb hb') hb hb'⟩
    rcases h.dom id r hr with h0 | ⟨j, hj, _, _, h2⟩
    · omega
    · have := g.len_mono (i := j + 1) (j := m) (by omega) (Nat.le_refl _); omega
  refine ⟨⟨?_, fun s h1 h2 => ?_⟩, h.defers, ?_⟩
  · rw [g.tsize (Nat.le_refl _), h.tsize]
  · have get : ∃ u', a.tmps[s]? = some u' ∧ VR p (tt m)[s] u' := by
      by_cases hex : ∃ j o, j < m ∧ ops[j]? = some o ∧ o.dst = some s
      · obtain ⟨j, o, hj, ho, hd⟩ := hex
        obtain ⟨u', h3, h4⟩ := h.slotW j o s hj (hall j hj) ho hd _ (Array.getElem?_eq_getElem h1)
        exact ⟨u', h3, h4.mono (upto_ext _ _)⟩
      · have hno : ∀ j o, j < m → ops[j]? = some o → o.dst ≠ some s := fun j o hj ho hd => hex ⟨j, o, hj, ho, hd⟩
        obtain ⟨u', h3, h4⟩ := h.slotN s (fun j o hj _ ho => hno j o hj ho) (tt m)[s] (by
          rw [← g.slot (s := s) (Nat.zero_le m) (Nat.le_refl _) fun k o _ hk ho => hno k o hk ho]; exact Array.getElem?_eq_getElem h1)
        exact ⟨u', h3, h4.mono (upto_ext _ _)⟩
    obtain ⟨u', h3, h4⟩ := get
    rw [(Array.getElem?_eq_some_iff.1 h3).2]; exact h4
  · exact ⟨h.os, h.tape, h.output, h.wsize, h.block, e0, h.old, hl0, sr, h.fresh, fun id b hb hw => g.ro (Nat.le_refl _) hb hw, fun id b hl hb hw =>
      let ⟨b0, h1, h2⟩ := g.wr_back (Nat.le_refl _) hl hb
      ⟨b0, h1, h2 hw⟩⟩

theorem getD_tf {listed : Array Bool} {i : Nat} (h : i < listed.size) : listed.getD i true = listed.getD i false := by
  simp [h]

/-- Whoever comes up next has all that stand ahead of it behind it. -/
theorem ready_bef (g : Given P callf ops bs m tt HH ft) {listed : Array Bool} (hcl : ∀ i k, Dn listed i → Bef bs k i → Dn listed k) {j : Nat} (hj : j ∈ Region.ready .any ops listed) :
    listed.getD j true = false ∧ j < ops.size ∧ ∀ k, Bef bs k j → Dn listed k := by
  rw [mem_ready] at hj
  obtain ⟨h0, o, ho, hall⟩ := hj
  refine ⟨h0, (Array.getElem?_eq_some_iff.1 ho).1, fun k hk => ?_⟩
  obtain ⟨e, he, hb, h1⟩ := g.edge k j o ho hk
  have := hall e (by simpa using he) hb
  rcases h1 with rfl | h1
  · exact this
  · exact hcl _ _ this h1

/-- The first operation that has not been carried out comes up. -/
theorem first_ready (g : Given P callf ops bs m tt HH ft) {listed : Array Bool} (hs : listed.size = ops.size) {j : Nat} (hj : j < ops.size) (hn : ¬ Dn listed j) (hlow : ∀ i, i < j → Dn listed i) : j ∈ Region.ready .any ops listed := by
  rw [mem_ready]
  have ho : ops[j]? = some ops[j] := Array.getElem?_eq_getElem hj
  refine ⟨?_, _, ho, fun e he hb => hlow _ (g.text j _ ho e (by simpa using he) hb)⟩
  rw [getD_tf (by omega)]
  unfold Dn at hn; simpa using hn

/-- Behind the first operations all is ordered. -/
theorem behind (g : Given P callf ops bs m tt HH ft) {Q : Exit → Act → World → Prop} : ∀ (fuel k : Nat) (listed : Array Bool) (a : Act) (w : World), fuel + k = ops.size → m ≤ k → listed.size = ops.size →
    (∀ i, Dn listed i ↔ i < k) → wpOps P ops Q ((List.range (ops.size - k)).map (· + k)) a w → wpAny P .any ops Q fuel listed a w := by
  intro fuel
  induction fuel with
  | zero =>
    intro k listed a w hk hmk hsz hl h
    have hk : k = ops.size := by omega
    subst hk
    simp only [Nat.sub_self, List.range_zero, List.map_nil, wpOps] at h
    refine ⟨?_, h⟩
    cases hr : Region.ready .any ops listed with
    | nil => rfl
    | cons x xs =>
      have hx : x ∈ Region.ready .any ops listed := by rw [hr]; simp
      rw [mem_ready] at hx
      obtain ⟨h0, o, ho, _⟩ := hx
      have hlt := (Array.getElem?_eq_some_iff.1 ho).1
      rw [getD_tf (by omega)] at h0
      have := (hl x).2 hlt
      unfold Dn at this; rw [h0] at this; cases this
  | succ fuel ih =>
    intro k listed a w hk hmk hsz hl h
    have hlt : k < ops.size := by omega
    have hnk : ¬ Dn listed k := fun hd => by have := (hl k).1 hd; omega
    have hfirst := first_ready g hsz hlt hnk fun i hi => (hl i).2 hi
    refine ⟨fun he => (by rw [he] at hfirst; cases hfirst), fun i hi => ?_⟩
    have hcl : ∀ i j, Dn listed i → Bef bs j i → Dn listed j := by
      intro i j hd hb
      have hik := (hl i).1 hd
      exact (hl j).2 (by have := g.bef_lt i i (Nat.le_refl _) (by omega) j hb; omega)
    obtain ⟨h0, hio, hb⟩ := ready_bef g hcl hi
    have hik : i = k := by
      rw [getD_tf (by omega)] at h0
      have hnd : ¬ Dn listed i := fun hd => by unfold Dn at hd; rw [h0] at hd; cases hd
      have hge : k ≤ i := by
        rcases Nat.lt_or_ge i k with h1 | h1
        · exact absurd ((hl i).2 h1) hnd
        · exact h1
      rcases Nat.eq_or_lt_of_le hge with h1 | h1
      · exact h1.symm
      · exact absurd (hb k (g.bar i (by omega) hio k h1)) hnk
    subst hik
    have hlist : (List.range (ops.size - i)).map (· + i) = i :: (List.range (ops.size - (i + 1))).map (· + (i + 1)) := by
      have : ops.size - i = (ops.size - (i + 1)) + 1 := by omega
      rw [this, List.range_succ_eq_map]
      simp only [List.map_cons, List.map_map, Nat.zero_add, List.cons.injEq, true_and]
      refine List.map_congr_left fun x _ => ?_
      simp only [Function.comp]; omega
    rw [hlist, wpOps_cons] at h
    refine wpOp_mono (fun a' w' hh => ?_) h
    refine ih (i + 1) _ a' w' (by omega) (by omega) (by simp [hsz]) (fun x => ?_) hh
    rw [dn_set (by omega)]
    rw [hl x]; omega

/-- A REGION THAT DRAWS ITS ORDER. -/
theorem ahead (hc : CallOk P callf) (g : Given P callf ops bs m tt HH ft) (hs : SR p0 (HH 0) w0) (hG : Gl p0 (HH 0) w0) {t' : Array Value} {H' : AH} {Q : Exit → Act → World → Prop}
    (hrest : aops P callf ops ((List.range (ops.size - m)).map (· + m)) (tt m) (HH m) = some (t', H'))
    (hq : ∀ p' a' w', AR p' t' a'.tmps → a'.defers = [] → St p0 (HH 0) w0 p' H' w' → Q .normal a' w') :
    ∀ (fuel : Nat) (listed : Array Bool) (p : Ren) (a : Act) (w : World), fuel + listed.toList.count true = ops.size → Inv ops bs m tt HH ft p0 w0 listed p a w → wpAny P .any ops Q fuel listed a w := by
  intro fuel
  induction fuel with
  | zero =>
    intro listed p a w hf h
    -- all have been carried out
    have hall : ∀ i, i < ops.size → Dn listed i := by
      intro i hi
      have hcl : listed.toList.count true = listed.toList.length := by rw [Array.length_toList, h.size]; omega
      rw [List.count_eq_length] at hcl
      have hi' : i < listed.size := by rw [h.size]; exact hi
      have := hcl (listed[i]'hi') (by simp)
      unfold Dn
      rw [Array.getD_eq_getD_getElem?, Array.getElem?_eq_getElem (by rw [h.size]; exact hi)]
      simp [← this]
    have hm : m = ops.size := by
      rcases Nat.lt_or_ge m ops.size with h1 | h1
      · exact absurd (hall m h1) (h.low m (Nat.le_refl _))
      · exact Nat.le_antisymm g.le h1
    obtain ⟨h1, h2, h3⟩ := h.finish g hs fun j hj => hall j (by omega)
    refine behind g 0 m listed a w (by omega) (Nat.le_refl _) h.size (fun i => ⟨fun hd => ?_, fun hi => hall i (by omega)⟩) ?_
    · rcases Nat.lt_or_ge i m with h4 | h4
      · exact h4
      · exact absurd hd (h.low i h4)
    · exact aops_ok hc _ _ _ _ _ hrest p a w h1 h2 h3.sr (h3.glob hG) fun p2 a2 w2 h4 h5 h6 => hq p2 a2 w2 h4 h5 (h3.trans hs h6)
  | succ fuel ih =>
    intro listed p a w hf h
    by_cases hall : ∀ j, j < m → Dn listed j
    · obtain ⟨h1, h2, h3⟩ := h.finish g hs hall
      have hdn : ∀ i, Dn listed i ↔ i < m := fun i => ⟨fun hd => by
        rcases Nat.lt_or_ge i m with h4 | h4
        · exact h4
        · exact absurd hd (h.low i h4), hall i⟩
      have hcount : listed.toList.count true = m := by
        have : listed.toList = List.replicate m true ++ List.replicate (ops.size - m) false := by
          apply List.ext_getElem
          · simp [h.size]; have := g.le; omega
          · intro i h4 h5
            have h6 : i < listed.size := by simpa using h4
            have hd := hdn i
            unfold Dn at hd
            rw [Array.getD_eq_getD_getElem?, Array.getElem?_eq_getElem h6, Option.getD_some] at hd
            rw [Array.getElem_toList]
            by_cases him : i < m
            · rw [List.getElem_append_left (by simpa using him)]; simp [hd.2 him]
            · rw [List.getElem_append_right (by simpa using him)]
              simp only [List.getElem_replicate]
              cases hv : listed[i] with
              | false => rfl
              | true => exact absurd (hd.1 hv) him
        rw [this, List.count_append, List.count_replicate_self, List.count_eq_zero.2 (by simp)]; rfl
      refine behind g (fuel + 1) m listed a w (by omega) (Nat.le_refl _) h.size hdn ?_
      exact aops_ok hc _ _ _ _ _ hrest p a w h1 h2 h3.sr (h3.glob hG) fun p2 a2 w2 h4 h5 h6 => hq p2 a2 w2 h4 h5 (h3.trans hs h6)
    · -- the first that has not been carried out
      have hmin : ∀ n, n ≤ m → (∀ j, j < n → Dn listed j) ∨ ∃ j, j < n ∧ ¬ Dn listed j ∧ ∀ i, i < j → Dn listed i := by
        intro n
        induction n with
        | zero => intro _; exact .inl fun j hj => by omega
        | succ n ihn =>
          intro hn
          rcases ihn (by omega) with h1 | ⟨j, h1, h2, h3⟩
          · by_cases hd : Dn listed n
            · exact .inl fun j hj => by
                rcases Nat.lt_or_ge j n with h4 | h4
                · exact h1 j h4
                · have : j = n := by omega
                  subst this; exact hd
            · exact .inr ⟨n, by omega, hd, h1⟩
          · exact .inr ⟨j, by omega, h2, h3⟩
      obtain ⟨j0, hj0, hnj0, hlow0⟩ := (hmin m (Nat.le_refl _)).resolve_left hall
      have hfirst := first_ready g h.size (Nat.lt_of_lt_of_le hj0 g.le) hnj0 hlow0
      refine ⟨fun he => (by rw [he] at hfirst; cases hfirst), fun i hi => ?_⟩
      obtain ⟨h0, hio, hb⟩ := ready_bef g h.closed hi
      have hni : ¬ Dn listed i := fun hd => by
        rw [getD_tf (by rw [h.size]; exact hio)] at h0
        unfold Dn at hd; rw [h0] at hd; cases hd
      have him : i < m := by
        rcases Nat.lt_or_ge i m with h1 | h1
        · exact h1
        · exact absurd (hb j0 (g.bar i h1 hio j0 (by omega))) hnj0
      refine h.op hc hG g him hni hb fun q a' w' hinv => ih _ q a' w' ?_ hinv
      have hsz : i < listed.toList.length := by simp [h.size]; exact hio
      have hfalse : listed.toList[i] = false := by
        rw [getD_tf (by rw [h.size]; exact hio), Array.getD_eq_getD_getElem?, Array.getElem?_eq_getElem (by rw [h.size]; exact hio)] at h0
        simpa using h0
      rw [Array.toList_setIfInBounds, List.count_set hsz]
      simp only [hfalse, show (false == true) = false from rfl, show (true == true) = true from rfl, Bool.false_eq_true, if_false, if_true]
      omega

theorem adrawM_ok (hm : P.follows .mixedOrders = true) (hc : CallOk P callf) {mode id : Nat} {t t' : Array Value} {H H' : AH} (h : adrawM P callf mode ops t H = some (t', H')) {p : Ren} {a : Act} {w : World}
    (ht : AR p t a.tmps) (hd : a.defers = []) (hs : SR p H w) (hG : Gl p H w) {Q : Exit → Act → World → Prop}
    (hq : ∀ p' a' w', AR p' t' a'.tmps → a'.defers = [] → St p H w p' H' w' → Q .normal a' w') : (Code.region id ops true).wp P Q a w := by
  unfold adrawM at h
  simp only at h
  split at h
  · rename_i hcond
    simp only [Bool.and_eq_true] at hcond
    split at h
    · rename_i t1 H1 F hpre
      split at h
      · rename_i hfo
        obtain ⟨tt, HH, ft, h0, h1, h2, h3, hFl, hF, h4⟩ := pre_of _ _ _ _ _ _ hpre
        have hl : ∀ (j : Nat) (o : Oper), ops[j]? = some o → ops.toList[j]? = some o := fun j o ho => by simpa using ho
        have g : Given P callf ops (befores ops.toList []) (cutAt (befores ops.toList []) ops.toList.length) tt HH ft :=
          { step := fun j hj => by rw [h1]; exact pre_step (h4 j hj)
            edge := fun k j o ho hb => bef_edge (hl j o ho) hb
            text := fun j o ho e he hb => textual_spec hcond.1 (hl j o ho) he hb
            bar := fun j hj hjn i hi => cut_spec _ ops.toList.length j hj (by simpa using hjn) i hi
            ok := fun i j oi oj hoi hoj him hjm hne => preOk_spec hcond.2 (hl i oi hoi) (hl j oj hoj) him hjm hne
            foots := fun i j hi hj hne => foots_spec hfo (hF i hi) (hF j hj) hi hj hne
            le := by have := cut_le (befores ops.toList []) ops.toList.length; simpa using this }
        have hs0 := drew_ok hs (w.drawn + 1)
        refine wp_region_any hm ?_
        refine ahead (p0 := p) (w0 := { w with drawn := w.drawn + 1 }) hc g (by rw [h1]; exact hs0.sr) (by rw [h1]; exact hs0.glob hG) (t' := t') (H' := H') (by rw [h2, h3]; simpa using h)
          (fun p' a' w' k1 k2 k3 => hq p' a' w' k1 k2 (hs0.trans hs (by rw [h1] at k3; exact k3))) ops.size _ p a _ (by simp [List.count_replicate]) ?_
        exact Inv.start g (by rw [h0]; exact ht) hd (by rw [h1]; exact hs0.sr)
      · cases h
    · cases h
  · cases h

theorem adraw_ok (hm : P.follows .mixedOrders = true) (hc : CallOk P callf) {mode id : Nat} {t t' : Array Value} {H H' : AH} (h : adraw P callf mode ops t H = some (t', H')) {p : Ren} {a : Act} {w : World}
    (ht : AR p t a.tmps) (hd : a.defers = []) (hs : SR p H w) (hG : Gl p H w) {Q : Exit → Act → World → Prop}
    (hq : ∀ p' a' w', AR p' t' a'.tmps → a'.defers = [] → St p H w p' H' w' → Q .normal a' w') : (Code.region id ops true).wp P Q a w := by
  unfold adraw at h
  split at h
  · exact adrawM_ok hm hc h ht hd hs hG hq
  · exact adrawM_ok hm hc h ht hd hs hG hq
  · exact adrawM_ok hm hc h ht hd hs hG hq
  · split at h
    · rename_i r h0
      injection h with h; subst h
      exact adrawM_ok hm hc h0 ht hd hs hG hq
    · split at h
      · rename_i r h0
        injection h with h; subst h
        exact adrawM_ok hm hc h0 ht hd hs hG hq
      · exact adrawM_ok hm hc h ht hd hs hG hq
end
end Go.Proofs.YtfpcmckachpnpaaDoor.Vx
