/- The run over a memory with names of its own answers what the model answers: append, copy, len. -/
import Derived.Test.YtfpcmckachpnpaaDoorX7
namespace Go.Proofs.YtfpcmckachpnpaaDoor.Vx
open Go Go.RowKit

section
variable {P : Program} {p : Ren} {H H' : AH} {w : World} {t : Array Value} {a : Act} {v : Value} {o : Oper}

/-- A draw changes nothing that is named. -/
theorem drew_ok (hs : SR p H w) (d : Nat) : St p H w p H { w with drawn := d } :=
  ⟨rfl, rfl, rfl, Nat.le_refl _, fun _ _ _ => rfl, .refl _, fun _ _ => rfl, Nat.le_refl _,
    ⟨hs.dom, fun id b hb => let ⟨r, hr, hbr⟩ := hs.blk id b hb; ⟨r, hr, hbr.keep (Nat.le_refl _) rfl⟩, hs.inj⟩,
    fun id r hr hl => absurd (hs.dom id r hr) (by omega), fun _ _ h _ => h, fun _ b' _ h hb => ⟨b', h, hb⟩⟩

/-- A block that may be written is forgotten. -/
theorem kill_ok (hs : SR p H w) {id : Nat} {b : ABlk} (hb : H[id]? = some (some b)) (hw : b.wr = true) : St p H w p (H.set id none) w := by
  have hid : id < H.length := (List.getElem?_eq_some_iff.1 hb).1
  have f : ∀ (i : Nat) (b1 : ABlk), (H.set id none)[i]? = some (some b1) → i ≠ id ∧ H[i]? = some (some b1) := fun i b1 h1 => by
    by_cases he : i = id
    · subst he; rw [List.getElem?_set_self hid] at h1; simp at h1
    · rw [List.getElem?_set_ne (Ne.symm he)] at h1; exact ⟨he, h1⟩
  refine ⟨rfl, rfl, rfl, Nat.le_refl _, fun _ _ _ => rfl, .refl _, fun _ _ => rfl, by simp, ⟨fun i r hr => by simpa using hs.dom i r hr, fun i b1 h1 => hs.blk i b1 (f i b1 h1).2, fun i i' b1 b2 r1 r2 h1 h2 => hs.inj i i' b1 b2 r1 r2 (f _ _ h1).2 (f _ _ h2).2⟩,
    fun i r hr hl => absurd (hs.dom i r hr) (by omega), fun i b1 h1 hw1 => ?_, fun i b1 _ h1 hw1 => ⟨b1, (f _ _ h1).2, hw1⟩⟩
  have hne : i ≠ id := fun he => by subst he; rw [hb] at h1; simp at h1; subst h1; rw [hw] at hw1; cases hw1
  rw [List.getElem?_set_ne (Ne.symm hne)]; exact h1

theorem src_ok (hs : SR p H w) {size m : Nat} {x x' : Value} {new : List Value} (hx : VR p x x') (h : srcOf size H x = some (m, new)) :
    ∃ ys, (Builtin.lenOf x').run P w = .ok m w ∧ (∀ d, (Builtin.firstCells size m x').run P { w with drawn := d } = .ok ys.toArray { w with drawn := d }) ∧ LR p new ys ∧ ys.length = m * size := by
  unfold srcOf at h
  split at h
  · rename_i id off n c
    cases hx with
    | same hf => simp [flat1] at hf
    | sl hr hn hc hroom =>
      rename_i c' r
      split at h
      · rename_i b hl
        split at h
        · rename_i hlen
          injection h with h; injection h with h1 h2
          subst h1 h2
          obtain ⟨r', ys, hr', hlr, hyl, hcell⟩ := cells_ok hs hl hlen
          rw [hr] at hr'; injection hr' with hr'; subst hr'
          refine ⟨ys, by simp [Builtin.lenOf], fun d => ?_, hlr, hyl⟩
          have := run_loadCells_list (P := P) { w with drawn := d } _ ys hcell
          rw [hyl] at this
          simpa [Builtin.firstCells] using this
        · cases h
      · cases h
  · rename_i n c
    split at h
    · rename_i hn
      injection h with h; injection h with h1 h2
      subst h1 h2 hn
      have := hx.flat1_eq rfl
      subst this
      exact ⟨[], by simp [Builtin.lenOf], fun d => by simp [Builtin.firstCells], .nil, by simp⟩
    · cases h
  · injection h with h; injection h with h1 h2
    subst h1 h2
    cases hx with
    | same hf => simp [flat1] at hf
    | emp =>
      refine ⟨[], by simp [Builtin.lenOf], fun d => ?_, .nil, by simp⟩
      rename_i ad _
      have := run_loadCells_list (P := P) { w with drawn := d } ad [] (fun j v h => by simp at h)
      simpa [Builtin.firstCells] using this
  · rename_i s
    split at h
    · rename_i h1
      injection h with h; injection h with h2 h3
      subst h1 h2 h3
      have := hx.flat1_eq rfl
      subst this
      have hfl : ∀ v ∈ (s.data.map fun b => Value.int .u8 b.toNat).toList, flat1 v = true := fun v hv => by
        simp at hv; obtain ⟨b, _, rfl⟩ := hv; rfl
      refine ⟨_, by simp [Builtin.lenOf], fun d => ?_, ⟨rfl, fun i h1 _ => .same (hfl _ (List.getElem_mem h1))⟩, by simp⟩
      have : (s.data.map fun b => Value.int .u8 b.toNat) = (s.data.toList.map fun b => Value.int .u8 b.toNat).toArray := by rw [← Array.toList_map]
      simp [Builtin.firstCells, this]
    · cases h
  · cases h

theorem growBy_le (newLen : Nat) : ∀ (rounds c : Nat), c ≤ 2 * newLen → 256 ≤ c → Builtin.growBy newLen rounds c ≤ 2 * newLen := by
  intro rounds
  induction rounds with
  | zero => intro c h _; simpa [Builtin.growBy] using h
  | succ n ih =>
    intro c h h2
    unfold Builtin.growBy
    split
    · exact h
    · exact ih _ (by omega) (by omega)
theorem nextcap_le {need old : Nat} (h : old < need) : Builtin.nextslicecap need old ≤ 2 * need := by
  unfold Builtin.nextslicecap
  split
  · omega
  · split
    · omega
    · exact growBy_le _ _ _ (by omega) (by omega)

/-- append where there is room. -/
theorem append_in {T T' ty e : TypeId} {i : TypeInfo} (hu : P.underlying T = some (.slice e)) {d' : TypeDesc} (hu' : P.underlying T' = some d') (hd' : d' = .string ∨ ∃ e', d' = .slice e') (hi : P.info? e = some i)
    {ad : Addr} {n c m : Nat} {x : Value} {ys : List Value} (hlen : (Builtin.lenOf x).run P w = .ok m w) (hf : (Builtin.firstCells i.size m x).run P w = .ok ys.toArray w) (hc : n + m ≤ c)
    {w' : World} (hst : (storeCells (ad.add (n * i.size)) ys).run P w = .ok () w') :
    (Builtin.append_ #[T, T'] ty #[.slice (some ad) n c, x]).run P w = .ok (.slice (some ad) (n + m) c) w' := by
  unfold Builtin.append_
  rcases hd' with rfl | ⟨e', rfl⟩ <;>
  simp only [List.getElem?_toArray, List.getElem?_cons_zero, List.getElem?_cons_succ, Sem.run_bind,
    pureRun_run (P := P) (s := underlying T) (a := .slice e) (by rw [pureRun_underlying]; exact hu) w, pureRun_run (P := P) (s := underlying T') (a := _) (by rw [pureRun_underlying]; exact hu') w,
    Result.andThen_ok, pureRun_run (P := P) (s := sizeOf e) (a := i.size) (by rw [pureRun_sizeOf, hi]; rfl) w, Sem.run_pure, Bool.false_eq_true, if_false, hlen, hc, if_true, Bool.not_false, hf, hst]

theorem append_in_nil {T T' ty e : TypeId} {i : TypeInfo} (hu : P.underlying T = some (.slice e)) {d' : TypeDesc} (hu' : P.underlying T' = some d') (hd' : d' = .string ∨ ∃ e', d' = .slice e') (hi : P.info? e = some i)
    {x : Value} {ys : List Value} (hlen : (Builtin.lenOf x).run P w = .ok 0 w) (hf : (Builtin.firstCells i.size 0 x).run P w = .ok ys.toArray w) :
    (Builtin.append_ #[T, T'] ty #[.slice none 0 0, x]).run P w = .ok (.slice none 0 0) w := by
  unfold Builtin.append_
  rcases hd' with rfl | ⟨e', rfl⟩ <;>
  simp only [List.getElem?_toArray, List.getElem?_cons_zero, List.getElem?_cons_succ, Sem.run_bind,
    pureRun_run (P := P) (s := underlying T) (a := .slice e) (by rw [pureRun_underlying]; exact hu) w, pureRun_run (P := P) (s := underlying T') (a := _) (by rw [pureRun_underlying]; exact hu') w,
    Result.andThen_ok, pureRun_run (P := P) (s := sizeOf e) (a := i.size) (by rw [pureRun_sizeOf, hi]; rfl) w, Sem.run_pure, Bool.false_eq_true, if_false, hlen, Nat.add_zero, Nat.le_refl, if_true, Bool.not_false, hf]

/-- append where a new array is made. -/
theorem append_new {T T' ty e : TypeId} {i : TypeInfo} {z : Value} (hu : P.underlying T = some (.slice e)) {d' : TypeDesc} (hu' : P.underlying T' = some d') (hd' : d' = .string ∨ ∃ e', d' = .slice e') (hi : P.info? e = some i)
    (hz : pureRun P (zeroValue e) = some z) {base : Option Addr} {n c m : Nat} {x : Value} {us ys : List Value} (hlen : (Builtin.lenOf x).run P w = .ok m w)
    (ho : ∀ d, (Builtin.firstCells i.size n (.slice base n c)).run P { w with drawn := d } = .ok us.toArray { w with drawn := d })
    (hf : ∀ d, (Builtin.firstCells i.size m x).run P { w with drawn := d } = .ok ys.toArray { w with drawn := d }) (hc : c < n + m)
    (hb1 : (i.bytes : Int) * ((n + m : Nat) : Int) ≤ 2 ^ 46) (hb2 : ((n + m : Nat) : Int) ≤ 2 ^ 46) :
    ∃ k rest, n + m ≤ k ∧ (Builtin.append_ #[T, T'] ty #[.slice base n c, x]).run P w =
      .ok (.slice (some ⟨w.heap.size, 0, none⟩) (n + m) k) { w with heap := w.heap.push (.cells (us.toArray ++ ys.toArray ++ rest) e), drawn := w.drawn + 1 } ∧ rest.size = (k - (n + m)) * z.cells.size := by
  have hcap : Builtin.nextslicecap (n + m) c * i.bytes ≤ 2 ^ 48 := by
    have h1 := nextcap_le hc
    have h2 : Builtin.nextslicecap (n + m) c * i.bytes ≤ 2 * (n + m) * i.bytes := Nat.mul_le_mul_right _ h1
    have h3 : i.bytes * (n + m) ≤ 2 ^ 46 := by exact_mod_cast hb1
    have h4 : 2 * (n + m) * i.bytes = 2 * (i.bytes * (n + m)) := by rw [Nat.mul_assoc, Nat.mul_comm (n + m)]
    omega
  have hroom : ∀ (b : Nat) (w : World), (askRoom b).run P w = .ok () w := fun b w => by unfold askRoom; split <;> rfl
  have hk : n + m ≤ (Question.appendCap (n + m) c e).cut (w.tape w.drawn (.appendCap (n + m) c e)) := by simp [Question.cut]
  refine ⟨(Question.appendCap (n + m) c e).cut (w.tape w.drawn (.appendCap (n + m) c e)), Builtin.zeroCells z.cells ((Question.appendCap (n + m) c e).cut (w.tape w.drawn (.appendCap (n + m) c e)) - (n + m)), hk, ?_, by simp [Builtin.zeroCells]⟩
  unfold Builtin.append_
  have hnot : ¬ n + m ≤ c := by omega
  have hmax : ¬ (((n + m : Nat) : Int) > IntKind.i64.max) := by
    have : (IntKind.i64.max : Int) = 9223372036854775807 := rfl
    omega
  have hch : (choose (Question.appendCap (n + m) c e)).run P w = .ok ((Question.appendCap (n + m) c e).cut (w.tape w.drawn (.appendCap (n + m) c e))) { w with drawn := w.drawn + 1 } := by
    simp [choose, Sem.run, Question.forced]
  have hz' : ∀ w, (zeroValue e).run P w = .ok z w := fun w => pureRun_run hz w
  have hi' : ∀ w, (typeInfo e).run P w = .ok i w := fun w => pureRun_run (P := P) (s := typeInfo e) (a := i) (by rw [pureRun_typeInfo]; exact hi) w
  rcases hd' with rfl | ⟨e', rfl⟩ <;>
  simp only [List.getElem?_toArray, List.getElem?_cons_zero, List.getElem?_cons_succ, Sem.run_bind,
    pureRun_run (P := P) (s := underlying T) (a := .slice e) (by rw [pureRun_underlying]; exact hu) w, pureRun_run (P := P) (s := underlying T') (a := _) (by rw [pureRun_underlying]; exact hu') w,
    Result.andThen_ok, pureRun_run (P := P) (s := sizeOf e) (a := i.size) (by rw [pureRun_sizeOf, hi]; rfl) w, Sem.run_pure, Bool.false_eq_true, if_false, hlen, if_neg hnot,
    hi', hmax, false_and, Nat.not_lt.2 hcap, gt_iff_lt, hch, hroom, ho, hf, hz', Bool.not_false, if_true, newRow_run]

theorem len_gives (hs : SR p H w) {c : Call} {x : Operand} {T : TypeId} {q : Addr} {n k : Nat} {e : TypeId} (ho : o.op = .call c) (hc : c.callee = .builtin .len) (hx : c.args = #[x]) (hT : c.argTypes = #[T])
    (hk : VR p (aev t x) (a.eval x)) (hv : aev t x = .slice (some q) n k) (hu : P.underlying T = some (.slice e)) : Gives P o a p H w (goInt n) H := by
  have h1 := hk
  rw [hv] at h1
  generalize hae : a.eval x = x' at h1
  cases h1 with
  | same hf => simp [flat1] at hf
  | sl hr hn hcc hroom =>
    refine .pure hs (v' := goInt n) ?_ (.same rfl)
    simp only [execOp, ho, resolve, hc, hx, hT, pureRun_bind, pureRun_pure, Option.bind_some, invoke, builtin, Builtin.len_, List.map_toArray, List.map_cons, List.map_nil, List.getElem?_toArray, List.getElem?_cons_zero, pureRun_underlying, hu, hae]
  | emp =>
    refine .pure hs (v' := goInt (0 : Nat)) ?_ (.same rfl)
    simp only [execOp, ho, resolve, hc, hx, hT, pureRun_bind, pureRun_pure, Option.bind_some, invoke, builtin, Builtin.len_, List.map_toArray, List.map_cons, List.map_nil, List.getElem?_toArray, List.getElem?_cons_zero, pureRun_underlying, hu, hae]
end
end Go.Proofs.YtfpcmckachpnpaaDoor.Vx
