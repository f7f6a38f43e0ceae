/- The run over a memory with names of its own answers what the model answers: slices. -/
import Derived.Test.YtfpcmckachpnpaaDoorX5
namespace Go.Proofs.YtfpcmckachpnpaaDoor.Vx
open Go Go.RowKit

section
variable {P : Program} {p : Ren} {H H' : AH} {w : World} {t : Array Value} {a : Act} {v : Value} {o : Oper}

theorem opt_ok {lo : Option Operand} (hk : ∀ x, lo = some x → VR p (aev t x) (a.eval x)) (hi : ∀ u, lo.map (aev t) = some u → ∃ k n, u = .int k n) : lo.map a.eval = lo.map (aev t) := by
  cases lo with
  | none => rfl
  | some x =>
    obtain ⟨k, n, hu⟩ := hi _ rfl
    have := (hk x rfl)
    rw [hu] at this
    simp [this.int, hu]

theorem ends_ints {len top : Nat} {lo hi : Option Value} {l h : Nat} (he : ends len top lo hi = some (l, h)) :
    (∀ u, lo = some u → ∃ k n, u = .int k n) ∧ (∀ u, hi = some u → ∃ k n, u = .int k n) := by
  unfold ends at he
  split at he
  · exact ⟨fun u hu => (by cases hu), fun u hu => (by cases hu)⟩
  · exact ⟨fun u hu => (by cases hu; exact ⟨_, _, rfl⟩), fun u hu => (by cases hu)⟩
  · exact ⟨fun u hu => (by cases hu), fun u hu => (by cases hu; exact ⟨_, _, rfl⟩)⟩
  · exact ⟨fun u hu => (by cases hu; exact ⟨_, _, rfl⟩), fun u hu => (by cases hu; exact ⟨_, _, rfl⟩)⟩
  · cases he

theorem ends_le {len top : Nat} {lo hi : Option Value} {l h : Nat} (he : ends len top lo hi = some (l, h)) (hl : len ≤ top) : l ≤ h ∧ h ≤ top := by
  unfold ends at he
  split at he
  · injection he with he; injection he with h1 h2; omega
  · split at he
    · injection he with he; injection he with h1 h2; omega
    · cases he
  · split at he
    · injection he with he; injection he with h1 h2; omega
    · cases he
  · split at he
    · injection he with he; injection he with h1 h2; omega
    · cases he
  · cases he

theorem bounds_run {isS : Bool} {len top cap : Nat} {lo hi : Option Value} {l h : Nat} (he : ends len top lo hi = some (l, h)) (ht : top ≤ cap) :
    pureRun P (Instr.sliceBounds isS len cap lo hi none) = some (l, h, cap) := by
  unfold ends at he
  unfold Instr.sliceBounds
  split at he
  · injection he with he; injection he with h1 h2
    subst h1 h2
    simp only [pureRun_bind, pureRun_pure, Option.bind_some]
  · rename_i k x
    split at he
    · rename_i hc
      injection he with he; injection he with h1 h2
      subst h1 h2
      simp only [pureRun_bind, pureRun_pure, Option.bind_some, Instr.sliceBound, asIntOf, hc, and_self, if_true]
    · cases he
  · rename_i k x
    split at he
    · rename_i hc
      injection he with he; injection he with h1 h2
      subst h1 h2
      have hc' : 0 ≤ x ∧ x ≤ (cap : Int) := by omega
      simp only [pureRun_bind, pureRun_pure, Option.bind_some, Instr.sliceBound, asIntOf, hc', and_self, if_true]
    · cases he
  · rename_i k x k' y
    split at he
    · rename_i hc
      injection he with he; injection he with h1 h2
      subst h1 h2
      have hc' : 0 ≤ y ∧ y ≤ (cap : Int) := by omega
      have hc2 : 0 ≤ x ∧ x ≤ ((y.toNat : Nat) : Int) := by omega
      simp only [pureRun_bind, pureRun_pure, Option.bind_some, Instr.sliceBound, asIntOf, hc', hc2, and_self, if_true]
    · cases he
  · cases he

theorem slice_ok (hs : SR p H w) {T : TypeId} {x : Operand} {lo hi : Option Operand} (ho : o.op = .slice T x lo hi none) (hx : VR p (aev t x) (a.eval x))
    (hlo : ∀ y, lo = some y → VR p (aev t y) (a.eval y)) (hhi : ∀ y, hi = some y → VR p (aev t y) (a.eval y)) (h : asliceOf P T (aev t x) (lo.map (aev t)) (hi.map (aev t)) H = some v) :
    Gives P o a p H w v H := by
  have h1 := hx
  have hadd : ∀ (r : Rb) (off k : Nat), (⟨r.blk, r.base + off, none⟩ : Addr).add k = ⟨r.blk, r.base + (off + k), none⟩ := fun r off k => by
    unfold Addr.add; split <;> simp_all [Nat.add_assoc]
  unfold asliceOf at h
  split at h
  · rename_i n e id off hu hax
    rw [hax] at h1
    generalize hae : a.eval x = x' at h1
    cases h1 with
    | same hf => simp [flat1] at hf
    | ptr hr =>
      rename_i r
      split at h
      · rename_i i l hh hi' hends
        have hii0 := ends_ints hends
        have hle0 := ends_le hends (Nat.le_refl _)
        split at h
        · rename_i hnl
          injection h with h; subst h
          refine .pure hs (v' := .slice (some ⟨r.blk, r.base + off, none⟩) (hh - l) (n - l)) ?_ (by rw [show hh - l = 0 by omega]; exact .emp)
          simp only [execOp, ho, hae, pureRun_bind, Instr.sliceAt, pureRun_underlying, hu, Option.bind_some, Instr.sureAddr, pureRun_pure, Option.map_none,
            opt_ok hlo hii0.1, opt_ok hhi hii0.2, bounds_run hends (Nat.le_refl _), pureRun_sizeOf, hi', Option.map_some, if_pos hnl]
        · rename_i hnl
          injection h with h; subst h
          have hii := ends_ints hends
          have hle := ends_le hends (Nat.le_refl _)
          refine .pure hs (v' := .slice (some ⟨r.blk, r.base + (off + l * i.size), none⟩) (hh - l) (n - l)) ?_ (.sl hr (by omega) (fun _ => rfl) (fun h0 => by omega))
          simp only [execOp, ho, hae, pureRun_bind, Instr.sliceAt, pureRun_underlying, hu, Option.bind_some, Instr.sureAddr, pureRun_pure, Option.map_none,
            opt_ok hlo hii.1, opt_ok hhi hii.2, bounds_run hends (Nat.le_refl _), pureRun_sizeOf, hi', Option.map_some, if_neg hnl, hadd]
      · cases h
  · rename_i e id off n c hu hax
    rw [hax] at h1
    generalize hae : a.eval x = x' at h1
    cases h1 with
    | same hf => simp [flat1] at hf
    | sl hr hn hc hroom =>
      rename_i c' r
      split at h
      · rename_i i l hh hi' hends
        have hii := ends_ints hends
        have key : ∀ top, ends n top (lo.map (aev t)) (hi.map (aev t)) = some (l, hh) → top ≤ c' →
            pureRun P (execOp a.eval o) = some (.value (.slice (if c' = l then (some ⟨r.blk, r.base + off, none⟩) else (some ⟨r.blk, r.base + (off + l * i.size), none⟩)) (hh - l) (c' - l))) := by
          intro top he htop
          simp only [execOp, ho, hae, pureRun_bind, Instr.sliceAt, Instr.slice, pureRun_underlying, hu, Option.bind_some, pureRun_pure, Option.map_none,
            opt_ok hlo hii.1, opt_ok hhi hii.2, bounds_run he htop, pureRun_sizeOf, hi', Option.map_some, hadd]
        split at h
        · rename_i hc0
          have hcc := hc hc0
          subst hcc
          rw [if_neg hc0] at hends
          have hle := ends_le hends hn
          split at h
          · rename_i hcl
            injection h with h; subst h
            refine .pure hs (key c hends (Nat.le_refl _)) ?_
            rw [if_pos hcl, show hh - l = 0 by omega]
            exact .emp
          · rename_i hcl
            injection h with h; subst h
            refine .pure hs (key c hends (Nat.le_refl _)) ?_
            rw [if_neg hcl]
            exact .sl hr (by omega) (fun _ => rfl) (fun h0 => by omega)
        · rename_i hc0
          have hc0 : c = 0 := by omega
          subst hc0
          rw [if_pos rfl] at hends
          have hle := ends_le hends (Nat.le_refl _)
          have hk := key n hends hn
          have hroom := hroom rfl
          split at h
          · rename_i hl0
            injection h with h; subst h
            subst hl0
            refine .pure hs hk ?_
            simp only [Nat.zero_mul, Nat.add_zero, ite_self, Nat.sub_zero]
            exact .sl hr (by omega) (fun h => absurd rfl h) (fun _ => hroom)
          · split at h
            · rename_i hl0 hln
              split at h
              · rename_i b hb
                split at h
                · rename_i hown
                  injection h with h; subst h
                  refine .pure hs hk ?_
                  rw [if_neg (by omega)]
                  refine .sl hr (by omega) (fun h => absurd rfl h) (fun _ hro => ?_)
                  obtain ⟨r', hr', hbr⟩ := hs.blk id b (live_some hb)
                  rw [hr] at hr'; injection hr' with hr'; subst hr'
                  rcases hown with hown | hesz
                  · rw [hbr.same, hown] at hro; cases hro
                  · have h2 := (hbr.own (hbr.same ▸ hro)).2.2.1
                    have h3 := hroom hro
                    rw [h2, hesz] at h3 ⊢
                    have : l * i.size + (c' - l) * i.size = c' * i.size := by rw [← Nat.add_mul]; congr 1; omega
                    omega
                · cases h
              · cases h
            · rename_i hl0 hln
              injection h with h; subst h
              refine .pure hs hk ?_
              rw [show hh - l = 0 by omega]
              split <;> exact .emp
      · cases h
  · rename_i e hu hax
    rw [hax] at h1
    generalize hae : a.eval x = x' at h1
    split at h
    · rename_i i q hi' hends
      obtain ⟨l, hh⟩ := q
      injection h with h; subst h
      cases h1 with
      | same hf => simp [flat1] at hf
      | emp =>
        rename_i ad c'
        have hii := ends_ints hends
        have hle := ends_le hends (Nat.le_refl _)
        obtain ⟨rfl, rfl⟩ : l = 0 ∧ hh = 0 := by omega
        refine .pure hs (v' := .slice (some ad) 0 c') ?_ .emp
        have hz : ad.add 0 = ad := by simp [Addr.add]
        simp only [execOp, ho, hae, pureRun_bind, Instr.sliceAt, Instr.slice, pureRun_underlying, hu, Option.bind_some, pureRun_pure, Option.map_none,
            opt_ok hlo hii.1, opt_ok hhi hii.2, bounds_run hends (Nat.zero_le c'), pureRun_sizeOf, hi', Option.map_some, Nat.zero_mul, hz, ite_self, Nat.sub_zero]
    · cases h
  · cases h

theorem rep_flat {z : Array Value} (hz : ∀ c ∈ z.toList, flat1 c = true) (n : Nat) : ∀ c ∈ (rep (if n = 0 then #[] else z) n).toList, flat1 c = true := by
  intro c hc
  unfold rep at hc
  simp only [Array.toList_map, List.mem_map, Array.toList_range, List.mem_range] at hc
  obtain ⟨j, hj, rfl⟩ := hc
  rw [if_neg (by omega)]
  rcases Nat.eq_zero_or_pos z.size with h0 | hpos
  · rw [getElem!_neg z _ (by omega)]; rfl
  · rw [getElem!_pos z _ (Nat.mod_lt _ hpos)]; exact hz _ (by simp)
end
end Go.Proofs.YtfpcmckachpnpaaDoor.Vx
