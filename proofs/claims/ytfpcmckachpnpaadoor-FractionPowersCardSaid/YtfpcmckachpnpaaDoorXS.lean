/- Operations over memory and strings whose contents are open: what they answer where a test holds. -/
import Derived.Test.YtfpcmckachpnpaaDoorX15
namespace Go.Proofs.YtfpcmckachpnpaaDoor.Vx
open Go Go.RowKit

/-- The kinds of cells. -/
inductive CK where
  | int (k : IntKind)
  | bool
  | str
def intOf : Value → Int
  | .int _ n => n
  | _ => 0
def boolOf : Value → Bool
  | .bool b => b
  | _ => false
def strOf : Value → ByteArray
  | .string s => s
  | _ => ⟨#[]⟩
def cellAt (cs : List Value) (k : Nat) : Value := (cs[k]?).getD undef
def intAt (cs : List Value) (k : Nat) : Int := intOf (cellAt cs k)
def boolAt (cs : List Value) (k : Nat) : Bool := boolOf (cellAt cs k)
def strAt (cs : List Value) (k : Nat) : ByteArray := strOf (cellAt cs k)
def ckOk : CK → Value → Bool
  | .int k, .int k' _ => decide (k = k')
  | .bool, .bool _ => true
  | .str, .string _ => true
  | _, _ => false
def ckV (c : CK) (cs : List Value) (k : Nat) : Value := match c with
  | .int kd => .int kd (intAt cs k)
  | .bool => .bool (boolAt cs k)
  | .str => .string (strAt cs k)
def ldOk : List CK → List Value → Nat → Bool
  | [], _, _ => true
  | c :: r, cs, o => ckOk c (cellAt cs o) && ldOk r cs (o + 1)
def ldV : List CK → List Value → Nat → List Value
  | [], _, _ => []
  | c :: r, cs, o => ckV c cs o :: ldV r cs (o + 1)
def byteAt (s : ByteArray) (n : Int) : Int := match s[n.toNat]? with
  | some b => (b.toNat : Int)
  | none => 0

/-- The cells of a type without addresses. -/
def shapeT (P : Program) : Nat → TypeId → Option (List CK)
  | 0, _ => none
  | n + 1, T => match P.underlying T with
    | some .bool => some [.bool]
    | some (.int k) => some [.int k]
    | some .string => some [.str]
    | some (.struct fs) => fs.toList.foldr (fun f acc => match shapeT P n f.type, acc with
      | some a, some b => some (a ++ b)
      | _, _ => none) (some [])
    | some (.array len e) => (shapeT P n e).map fun s => (List.replicate len s).flatten
    | _ => none

/-- What an operation answers that looks at memory alone, and the test under which it does. -/
def sopQ (P : Program) (t : Array Value) (H : AH) (o : Oper) : Option (Bool × Value) :=
  if o.op.operands.toList.all (okT t) = false then none else
  match o.op with
  | .index T x i => match P.underlying T, aev t x, aev t i with
    | some .string, .string s, .int _ n => some (decide (0 ≤ n ∧ n < s.size), .int .u8 (byteAt s n))
    | _, _, _ => none
  | .load T a => match aev t a with
    | .pointer (some ⟨id, off, none⟩) => match live H id, aggT P T, P.info? T, shapeT P 6 T with
      | some b, some true, some i, some sh => if i.size = sh.length then (match sh with
        | [] => none
        | c :: r => some (ldOk (c :: r) b.cells off, .agg (ldV (c :: r) b.cells off).toArray)) else none
      | some b, some false, _, some [c] => some (ckOk c (cellAt b.cells off), ckV c b.cells off)
      | _, _, _, _ => none
    | _ => none
  | .indexAddr T x i => match P.underlying T, aev t x, aev t i with
    | some (.slice e), .slice (some ⟨id, off, none⟩) len _, .int _ n => (P.info? e).map fun ie => (decide (0 ≤ n ∧ n < len), .pointer (some ⟨id, off + n.toNat * ie.size, none⟩))
    | some (.array len e), .pointer (some ⟨id, off, none⟩), .int _ n => (P.info? e).map fun ie => (decide (0 ≤ n ∧ n < len), .pointer (some ⟨id, off + n.toNat * ie.size, none⟩))
    | _, _, _ => none
  | .slice T x lo hi none => match P.underlying T, aev t x with
    | some .string, .string s => match lo.map (aev t), hi.map (aev t) with
      | some (.int _ l), none => some (decide (0 ≤ l ∧ l ≤ s.size), .string (s.extract l.toNat s.size))
      | none, some (.int _ h) => some (decide (0 ≤ h ∧ h ≤ s.size), .string (s.extract 0 h.toNat))
      | some (.int _ l), some (.int _ h) => some (decide (0 ≤ l ∧ l ≤ h ∧ h ≤ s.size), .string (s.extract l.toNat h.toNat))
      | _, _ => none
    | some (.slice e), .slice (some ⟨id, off, none⟩) n 0 => match P.info? e, live H id, lo.map (aev t), hi.map (aev t) with
      | some _, some _, none, some (.int _ h) => some (decide (0 ≤ h ∧ h ≤ n), .slice (some ⟨id, off, none⟩) h.toNat 0)
      | some i, some b, some (.int _ l), none => if b.own = false ∨ b.esz = i.size then some (decide (0 < l ∧ l < n), .slice (some ⟨id, off + l.toNat * i.size, none⟩) (n - l.toNat) 0) else none
      | some i, some b, some (.int _ l), some (.int _ h) => if b.own = false ∨ b.esz = i.size then some (decide (0 < l ∧ l < n ∧ l ≤ h ∧ h ≤ n), .slice (some ⟨id, off + l.toNat * i.size, none⟩) (h.toNat - l.toNat) 0) else none
      | _, _, _, _ => none
    | _, _ => none
  | _ => none

/-- What an operation answers that writes, and the memory behind it. -/
def sopW (P : Program) (t : Array Value) (H : AH) (o : Oper) : Option (Bool × Value × AH) :=
  if o.op.operands.toList.all (okT t) = false then none else
  match o.op with
  | .store T a x => match aev t a, P.info? T with
    | .pointer (some ⟨id, off, none⟩), some i => match live H id with
      | some b => if b.wr && decide ((aev t x).cells.size = i.size) && (aev t x).cells.toList.all Value.oneCell' then
          some (decide (off + (aev t x).cells.toList.length ≤ b.cells.length), undef, H.set id (some { b with cells := setRange b.cells off (aev t x).cells.toList })) else none
      | none => none
    | _, _ => none
  | .call c => match c.callee with
    | .builtin .append => match c.args.toList, c.argTypes.toList with
      | [s, x], [T, T'] => match P.underlying T, P.underlying T' with
        | some (.slice e), some (.slice _) => match P.info? e with
          | some i => match srcOf i.size H (aev t x), zerosOf P e, aev t s with
            | some (m + 1, new), some _, .slice (some ⟨id, 0, none⟩) n 0 => match live H id with
              | some b => if new.all Value.oneCell' && b.wr && b.own && decide (b.esz = i.size) && !shares.contains o.pos then
                  some (decide (n * i.size = b.cells.length ∧ i.bytes * ((n + (m + 1) : Nat) : Int) ≤ 2 ^ 46 ∧ ((n + (m + 1) : Nat) : Int) ≤ 2 ^ 46),
                    .slice (some ⟨H.length, 0, none⟩) (n + (m + 1)) 0, (H.set id none) ++ [some ⟨b.cells ++ new, true, true, i.size⟩]) else none
              | none => none
            | _, _, _ => none
          | none => none
        | _, _ => none
      | _, _ => none
    | _ => none
  | _ => none

section
variable {P : Program} {callf : CallF} {t : Array Value} {H K : AH} {o : Oper} {v : Value}

theorem ckOk_eq {c : CK} {cs : List Value} {k : Nat} (h : ckOk c (cellAt cs k) = true) : cs[k]? = some (ckV c cs k) := by
  unfold cellAt at h
  unfold ckV intAt boolAt strAt cellAt
  cases hq : cs[k]? with
  | none => rw [hq] at h; cases c <;> cases h
  | some u =>
    rw [hq] at h
    simp only [Option.getD_some] at h ⊢
    cases c <;> cases u <;> first | rfl | (cases h; done) | (simp only [ckOk, decide_eq_true_eq] at h; subst h; rfl)
theorem ldV_len : ∀ (sh : List CK) (cs : List Value) (o : Nat), (ldV sh cs o).length = sh.length := by
  intro sh
  induction sh with
  | nil => intro cs o; rfl
  | cons c r ih => intro cs o; simp [ldV, ih]
theorem ldOk_get : ∀ (sh : List CK) (cs : List Value) (o : Nat), ldOk sh cs o = true → ∀ j, j < sh.length → cs[o + j]? = (ldV sh cs o)[j]? := by
  intro sh
  induction sh with
  | nil => intro cs o _ j hj; simp at hj
  | cons c r ih =>
    intro cs o h j hj
    simp only [ldOk, Bool.and_eq_true] at h
    cases j with
    | zero => simpa [ldV] using ckOk_eq h.1
    | succ j =>
      have := ih cs (o + 1) h.2 j (by simpa using hj)
      rw [show o + (j + 1) = o + 1 + j by omega, this]
      simp [ldV]
theorem ldOk_eq {sh : List CK} {cs : List Value} {off : Nat} (hne : sh ≠ []) (h : ldOk sh cs off = true) : off + sh.length ≤ cs.length ∧ (cs.drop off).take sh.length = ldV sh cs off := by
  have hg := ldOk_get sh cs off h
  have hpos : 0 < sh.length := List.length_pos_iff.2 hne
  have hl : off + sh.length ≤ cs.length := by
    have h1 := hg (sh.length - 1) (by omega)
    have h2 : sh.length - 1 < (ldV sh cs off).length := by rw [ldV_len]; omega
    rw [List.getElem?_eq_getElem h2] at h1
    have := (List.getElem?_eq_some_iff.1 h1).1
    omega
  refine ⟨hl, List.ext_getElem? fun j => ?_⟩
  rw [List.getElem?_take]
  split
  · rename_i hj
    rw [List.getElem?_drop, hg j hj]
  · rename_i hj
    rw [List.getElem?_eq_none (by rw [ldV_len]; omega)]

theorem sopQ_ok (h : sopQ P t H o = some (true, v)) : aop P callf t H o = some (v, H) := by
  unfold sopQ at h
  split at h
  · cases h
  rename_i hall
  unfold aop
  rw [if_neg hall]
  unfold aopIn
  split at h
  · -- index
    rename_i T x i ho
    split at h
    · rename_i s k n hu hx hi
      simp only [Option.some.injEq, Prod.mk.injEq, decide_eq_true_eq] at h
      obtain ⟨hn, rfl⟩ := h
      rw [ho]
      simp only
      unfold aflat
      have hfx : o.op.operands.toList.all (fun x => flat (aev t x)) = true := by simp [ho, Op.operands, hx, hi]; exact ⟨rfl, rfl⟩
      rw [if_pos hfx]
      have h1 : n.toNat < s.size := by omega
      have hb : s[n.toNat]? = some s[n.toNat] := ByteArray.getElem?_lt' s _ h1
      have : pureRun P (execOp (aev t) o) = some (.value (.int .u8 (byteAt s n))) := by
        have hidx : pureRun P (Instr.index T (.string s) (.int k n)) = some (.int .u8 (byteAt s n)) := by
          unfold Instr.index asIntOf
          simp only [pureRun_bind, pureRun_pure, Option.bind_some, pureRun_underlying, hu, if_pos hn.1, hb, byteAt]
        simp only [execOp, ho, hx, hi, pureRun_bind, hidx, Option.bind_some, pureRun_pure]
      rw [this]
      rfl
    · cases h
  · -- load
    rename_i T a ho
    rw [ho]
    simp only
    split at h
    · rename_i id off ha
      rw [ha]
      unfold aload
      simp only
      split at h
      · rename_i b i sh hl hagg hi hsh
        rw [hl, hagg]
        simp only [hi]
        split at h
        · rename_i hz
          split at h
          · cases h
          · rename_i c r
            simp only [Option.some.injEq, Prod.mk.injEq] at h
            obtain ⟨hok, rfl⟩ := h
            obtain ⟨h1, h2⟩ := ldOk_eq (by simp) hok
            rw [hz, if_pos h1, h2]
            rfl
        · cases h
      · rename_i b i? c hl hagg hsh
        simp only [Option.some.injEq, Prod.mk.injEq] at h
        obtain ⟨hok, rfl⟩ := h
        rw [hl, hagg]
        simp only [ckOk_eq hok, Option.map_some]
      · cases h
    · cases h
  · -- indexAddr
    rename_i T x i ho
    rw [ho]
    simp only
    unfold aindexAddr
    split at h
    · rename_i e id off len c k n hu hx hi
      rw [hu, hx, hi]
      simp only
      cases hq : P.info? e with
      | none => rw [hq] at h; cases h
      | some ie =>
        rw [hq] at h
        simp only [Option.map_some, Option.some.injEq, Prod.mk.injEq, decide_eq_true_eq] at h
        obtain ⟨hn, rfl⟩ := h
        simp only [if_pos hn, Option.map_some]
    · rename_i len e id off k n hu hx hi
      rw [hu, hx, hi]
      simp only
      cases hq : P.info? e with
      | none => rw [hq] at h; cases h
      | some ie =>
        rw [hq] at h
        simp only [Option.map_some, Option.some.injEq, Prod.mk.injEq, decide_eq_true_eq] at h
        obtain ⟨hn, rfl⟩ := h
        simp only [if_pos hn, Option.map_some]
    · cases h
  · -- slice
    rename_i T x lo hi ho
    rw [ho]
    simp only
    split at h
    · rename_i s hu hx
      have hfl : flat (aev t x) = true := by rw [hx]; rfl
      rw [if_pos hfl]
      unfold aflat
      have str : ∀ (u : ByteArray), (∀ y ∈ o.op.operands.toList, flat (aev t y) = true) → pureRun P (Instr.sliceAt T (.string s) (lo.map (aev t)) (hi.map (aev t)) none) = some (.string u) →
          (if o.op.operands.toList.all (fun x => flat (aev t x)) then (match pureRun P (execOp (aev t) o) with | some (.value v) => if flat v then some (v, H) else none | _ => none) else none) = some (.string u, H) := by
        intro u hf hr
        rw [if_pos (List.all_eq_true.2 hf)]
        have : pureRun P (execOp (aev t) o) = some (.value (.string u)) := by
          simp only [execOp, ho, hx, pureRun_bind, Option.map_none, hr, Option.bind_some, pureRun_pure]
        rw [this]
        rfl
      split at h
      · rename_i l k n hl hh
        simp only [Option.some.injEq, Prod.mk.injEq, decide_eq_true_eq] at h
        obtain ⟨hn, rfl⟩ := h
        have hlo : ∃ y, lo = some y ∧ aev t y = .int k n := by cases lo with
          | none => cases hl
          | some y => exact ⟨y, rfl, by simpa using hl⟩
        obtain ⟨y, rfl, hy⟩ := hlo
        obtain rfl : hi = none := by cases hi with
          | none => rfl
          | some y => cases hh
        refine str _ ?_ ?_
        · intro z hz
          simp [ho, Op.operands] at hz
          rcases hz with rfl | rfl
          · exact hfl
          · rw [hy]; rfl
        · unfold Instr.sliceAt Instr.slice Instr.sliceBounds Instr.sliceBound asIntOf
          simp only [pureRun_bind, pureRun_pure, Option.bind_some, pureRun_underlying, hu, Option.map_some, hy, Option.map_none, Option.isSome_none, Bool.false_eq_true, if_false, if_pos hn]
      · rename_i l k n hl hh
        simp only [Option.some.injEq, Prod.mk.injEq, decide_eq_true_eq] at h
        obtain ⟨hn, rfl⟩ := h
        have hhi : ∃ y, hi = some y ∧ aev t y = .int k n := by cases hi with
          | none => cases hh
          | some y => exact ⟨y, rfl, by simpa using hh⟩
        obtain ⟨y, rfl, hy⟩ := hhi
        obtain rfl : lo = none := by cases lo with
          | none => rfl
          | some y => cases hl
        refine str _ ?_ ?_
        · intro z hz
          simp [ho, Op.operands] at hz
          rcases hz with rfl | rfl
          · exact hfl
          · rw [hy]; rfl
        · unfold Instr.sliceAt Instr.slice Instr.sliceBounds Instr.sliceBound asIntOf
          simp only [pureRun_bind, pureRun_pure, Option.bind_some, pureRun_underlying, hu, Option.map_some, hy, Option.map_none, Option.isSome_none, Bool.false_eq_true, if_false, if_pos hn]
      · rename_i l r k n k' m hl hh
        simp only [Option.some.injEq, Prod.mk.injEq, decide_eq_true_eq] at h
        obtain ⟨hn, rfl⟩ := h
        have hlo : ∃ y, lo = some y ∧ aev t y = .int k n := by cases lo with
          | none => cases hl
          | some y => exact ⟨y, rfl, by simpa using hl⟩
        obtain ⟨y, rfl, hy⟩ := hlo
        have hhi : ∃ y, hi = some y ∧ aev t y = .int k' m := by cases hi with
          | none => cases hh
          | some y => exact ⟨y, rfl, by simpa using hh⟩
        obtain ⟨z, rfl, hz⟩ := hhi
        refine str _ ?_ ?_
        · intro q hq
          simp [ho, Op.operands] at hq
          rcases hq with rfl | rfl | rfl
          · exact hfl
          · rw [hy]; rfl
          · rw [hz]; rfl
        · have h1 : 0 ≤ m ∧ m ≤ (s.size : Int) := by omega
          have h2 : 0 ≤ n ∧ n ≤ ((m.toNat : Nat) : Int) := by omega
          unfold Instr.sliceAt Instr.slice Instr.sliceBounds Instr.sliceBound asIntOf
          simp only [pureRun_bind, pureRun_pure, Option.bind_some, pureRun_underlying, hu, Option.map_some, hy, hz, Option.isSome_none, Bool.false_eq_true, if_false, if_pos h1, if_pos h2]
      · cases h
    · rename_i e id off n hu hx
      have hfl : ¬ (flat (aev t x) = true) := by rw [hx]; simp [flat, flatN, flat1]
      rw [if_neg hfl]
      simp only [Option.isSome_none, Bool.false_eq_true, if_false]
      unfold asliceOf
      rw [hu, hx]
      simp only
      split at h
      · rename_i l hh k m hi' hb hl hh
        simp only [Option.some.injEq, Prod.mk.injEq, decide_eq_true_eq] at h
        obtain ⟨hn, rfl⟩ := h
        rw [hi', hl, hh]
        simp only [ends, if_true, if_pos hn]
        simp
      · rename_i i b r l k m hi' hb hl hh
        split at h
        · rename_i hown
          simp only [Option.some.injEq, Prod.mk.injEq, decide_eq_true_eq] at h
          obtain ⟨hn, rfl⟩ := h
          have h1 : 0 ≤ m ∧ m ≤ (n : Int) := by omega
          rw [hi', hl, hh]
          simp only [ends, if_pos h1]
          rw [if_neg (by omega), if_neg (by omega), if_pos (by omega), hb]
          simp only [if_pos hown, Option.map_some]
        · cases h
      · rename_i i b r l k m k' m' hi' hb hl hh
        split at h
        · rename_i hown
          simp only [Option.some.injEq, Prod.mk.injEq, decide_eq_true_eq] at h
          obtain ⟨hn, rfl⟩ := h
          have h1 : 0 ≤ m' ∧ m' ≤ (n : Int) ∧ 0 ≤ m ∧ m ≤ m' := by omega
          rw [hi', hl, hh]
          simp only [ends, if_true, if_pos h1]
          rw [if_neg (by omega), if_neg (by omega), if_pos (by omega), hb]
          simp only [if_pos hown, Option.map_some]
        · cases h
      · cases h
    · cases h
  · cases h

theorem sopW_ok (h : sopW P t H o = some (true, v, K)) : aop P callf t H o = some (v, K) := by
  unfold sopW at h
  split at h
  · cases h
  rename_i hall
  unfold aop
  rw [if_neg hall]
  unfold aopIn
  split at h
  · rename_i T a x ho
    rw [ho]
    simp only
    split at h
    · rename_i id off i ha hi
      rw [ha]
      unfold astore
      rw [hi]
      simp only
      split at h
      · rename_i b hl
        split at h
        · rename_i hc
          simp only [Bool.and_eq_true, decide_eq_true_eq] at hc
          simp only [Option.some.injEq, Prod.mk.injEq, decide_eq_true_eq] at h
          obtain ⟨hn, rfl, rfl⟩ := h
          rw [if_pos hc.1.2]
          unfold astoreAt
          rw [hl]
          simp only
          rw [if_pos (by simp only [Bool.and_eq_true, decide_eq_true_eq]; exact ⟨⟨hc.1.1, hn⟩, hc.2⟩)]
          rfl
        · cases h
      · cases h
    · cases h
  · rename_i c ho
    rw [ho]
    simp only
    split at h
    · rename_i hce
      rw [hce]
      simp only
      split at h
      · rename_i s x T T' ha hT
        rw [ha, hT]
        simp only
        split at h
        · rename_i e e' hu hu'
          rw [hu']
          simp only
          unfold aappend
          rw [hu]
          simp only
          split at h
          · rename_i i hi
            rw [hi]
            simp only
            split at h
            · rename_i m new z id n hsrc hz hs
              rw [hsrc, hz, hs]
              simp only
              split at h
              · rename_i b hl
                split at h
                · rename_i hc
                  simp only [Bool.and_eq_true, decide_eq_true_eq, Bool.not_eq_true'] at hc
                  obtain ⟨⟨⟨⟨hone, hwr⟩, hown⟩, hesz⟩, hsh⟩ := hc
                  simp only [Option.some.injEq, Prod.mk.injEq, decide_eq_true_eq] at h
                  obtain ⟨⟨hn, hb1, hb2⟩, rfl, rfl⟩ := h
                  rw [if_neg (by rw [hone]; simp), hl]
                  simp only
                  rw [if_neg (by omega), if_neg (by simp), if_neg (fun hq => hq ⟨hb1, hb2⟩), if_neg (by simp), if_pos ⟨hwr, hown, hesz, trivial, by omega⟩, if_neg (by rw [hsh]; simp), hn, List.take_length]
                · cases h
              · cases h
            · cases h
          · cases h
        · cases h
      · cases h
    · cases h
  · cases h
end
end Go.Proofs.YtfpcmckachpnpaaDoor.Vx
