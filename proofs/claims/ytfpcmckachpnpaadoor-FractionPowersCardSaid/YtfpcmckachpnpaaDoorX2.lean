/- A program run over a memory with names of its own: the run itself (nothing is said of the model's here). -/
import Derived.Test.YtfpcmckachpnpaaDoorX1
namespace Go.Proofs.YtfpcmckachpnpaaDoor.Vx
open Go Go.RowKit

/-- What a text answers that asks nothing but the program. -/
def pureRun {α : Type} (P : Program) : Sem α → Option α
  | .pure a => some a
  | .program k => pureRun P (k P)
  | .mark _ k => pureRun P k
  | _ => none

def aev (t : Array Value) : Operand → Value
  | .tmp i => t.getD i undef
  | .const v => v
  | .global g => if globs.any (fun x => x.1 == g) then .pointer (some ⟨g, 0, some 0⟩) else undef
  | .func f => .func (.func f) #[] #[]
def okOpd : Operand → Bool
  | .const v => flat v
  | .global g => globs.any fun x => x.1 == g
  | _ => true

def isLost : Value → Bool
  | .tuple cs => match cs.toList with
    | [.chan (some _)] => true
    | _ => false
  | _ => false

def live (H : AH) (id : Nat) : Option ABlk := match H[id]? with | some (some b) => some b | _ => none
def setRange (cs : List Value) (o : Nat) (xs : List Value) : List Value := cs.take o ++ xs ++ cs.drop (o + xs.length)

/-- Is a type one of several cells? -/
def aggT (P : Program) (T : TypeId) : Option Bool := (P.underlying T).map fun | .struct _ | .array _ _ => true | _ => false

def aload (P : Program) (T : TypeId) (H : AH) : Value → Option Value
  | .pointer (some ⟨id, off, none⟩) =>
    match live H id, aggT P T with
    | some b, some true =>
      match P.info? T with
      | some i => if off + i.size ≤ b.cells.length then some (.agg ((b.cells.drop off).take i.size).toArray) else none
      | none => none
    | some b, some false => b.cells[off]?
    | _, _ => none
  | .pointer (some ⟨g, off, some 0⟩) =>
    match globs.find? (fun x => x.1 == g), aggT P T with
    | some (_, cs), some true =>
      match P.info? T with
      | some i => if off + i.size ≤ cs.length then some (.agg ((cs.drop off).take i.size).toArray) else none
      | none => none
    | some (_, cs), some false => cs[off]?
    | _, _ => none
  | _ => none

def astoreAt (H : AH) (id off : Nat) (xs : List Value) : Option AH :=
  match live H id with
  | some b => if b.wr && decide (off + xs.length ≤ b.cells.length) && xs.all Value.oneCell' then some (H.set id (some { b with cells := setRange b.cells off xs })) else none
  | none => none

def astore (P : Program) (T : TypeId) (H : AH) (a x : Value) : Option AH :=
  match a, P.info? T with
  | .pointer (some ⟨id, off, none⟩), some i => if x.cells.size = i.size then astoreAt H id off x.cells.toList else none
  | _, _ => none

def anew (H : AH) (cells : List Value) (esz : Nat) : Nat × AH := (H.length, H ++ [some ⟨cells, true, true, esz⟩])

def intArg : Value → Option Int
  | .int _ n => some n
  | _ => none

def zerosOf (P : Program) (e : TypeId) : Option (Array Value) :=
  match P.info? e with
  | some i => match i.zero with
    | some z => if z.cells.toList.all flat1 && z.cells.size == i.size then some z.cells else none
    | none => none
  | none => none

def aalloc (P : Program) (e : TypeId) (H : AH) : Option (Value × AH) :=
  match zerosOf P e with
  | some z => some (.pointer (some ⟨H.length, 0, none⟩), H ++ [some ⟨z.toList, true, true, 0⟩])
  | none => none

def afieldAddr (P : Program) (s : TypeId) (f : Nat) : Value → Option Value
  | .pointer (some ⟨id, off, none⟩) =>
    match P.underlying s with
    | some (.struct fs) => match fs[f]? with
      | some fd => match P.info? fd.type with
        | some i => if i.size = 0 then none else some (.pointer (some ⟨id, off + fd.offset, none⟩))
        | none => none
      | none => none
    | _ => none
  | .pointer (some ⟨g, off, some 0⟩) =>
    match P.underlying s with
    | some (.struct fs) => match fs[f]? with
      | some fd => match P.info? fd.type with
        | some i => if i.size = 0 then none else some (.pointer (some ⟨g, off + fd.offset, some 0⟩))
        | none => none
      | none => none
    | _ => none
  | _ => none

def aindexAddr (P : Program) (T : TypeId) (x i : Value) : Option Value :=
  match P.underlying T, x, i with
  | some (.array len e), .pointer (some ⟨id, off, none⟩), .int _ n =>
    match P.info? e with
    | some ie => if 0 ≤ n ∧ n < len then some (.pointer (some ⟨id, off + n.toNat * ie.size, none⟩)) else none
    | none => none
  | some (.slice e), .slice (some ⟨id, off, none⟩) len _, .int _ n =>
    match P.info? e with
    | some ie => if 0 ≤ n ∧ n < len then some (.pointer (some ⟨id, off + n.toNat * ie.size, none⟩)) else none
    | none => none
  | some (.array len e), .pointer (some ⟨g, off, some 0⟩), .int _ n =>
    match P.info? e with
    | some ie => if 0 ≤ n ∧ n < len then some (.pointer (some ⟨g, off + n.toNat * ie.size, some 0⟩)) else none
    | none => none
  | _, _, _ => none

/-- Repeats the cells of a zero value. -/
def rep (zero : Array Value) (n : Nat) : Array Value := (Array.range n).map (zero[· % zero.size]!)

def abuildSlice (P : Program) (T : TypeId) (n : Nat) (parts : List (Nat × Value)) (H : AH) : Option (Value × AH) :=
  match P.underlying T with
  | some (.slice e) => match P.info? e, zerosOf P e with
    | some i, some z =>
      if n * i.size > 2 ^ 24 then none else
      match Instr.fill (fun k => some (k * i.size, i.size)) (rep (if n * i.size = 0 then #[] else z) (n * i.size)) parts with
      | some cells => some (.slice (some ⟨H.length, 0, none⟩) n n, H ++ [some ⟨cells.toList, true, true, i.size⟩])
      | none => none
    | _, _ => none
  | _ => none

def amakeSlice (P : Program) (T : TypeId) (l c : Value) (H : AH) : Option (Value × AH) :=
  match P.underlying T, intArg l, intArg c with
  | some (.slice e), some len, some cap => match P.info? e, zerosOf P e with
    | some i, some z =>
      if IntKind.i64.wrap len = len ∧ IntKind.i64.wrap cap = cap ∧ 0 ≤ len ∧ len ≤ cap ∧ i.bytes * cap ≤ 2 ^ 48 then
        some (.slice (some ⟨H.length, 0, none⟩) len.toNat cap.toNat, H ++ [some ⟨(rep (if cap.toNat * i.size = 0 then #[] else z) (cap.toNat * i.size)).toList, true, true, i.size⟩])
      else none
    | _, _ => none
  | _, _, _ => none

/-- The ends of a slice expression without a third index: 'top' is what the second end may be. -/
def ends (len top : Nat) (lo hi : Option Value) : Option (Nat × Nat) :=
  match lo, hi with
  | none, none => some (0, len)
  | some (.int _ l), none => if 0 ≤ l ∧ l ≤ len then some (l.toNat, len) else none
  | none, some (.int _ h) => if 0 ≤ h ∧ h ≤ top then some (0, h.toNat) else none
  | some (.int _ l), some (.int _ h) => if 0 ≤ h ∧ h ≤ top ∧ 0 ≤ l ∧ l ≤ h then some (l.toNat, h.toNat) else none
  | _, _ => none

/-- A slice of nothing that begins behind the last element: where it lies is not told. -/
def noRest : Value := .slice (some ⟨0, 0, some 0⟩) 0 0

def asliceOf (P : Program) (T : TypeId) (x : Value) (lo hi : Option Value) (H : AH) : Option Value :=
  match P.underlying T, x with
  | some (.array n e), .pointer (some ⟨id, off, none⟩) =>
    match P.info? e, ends n n lo hi with
    | some i, some (l, h) => if n = l then some noRest else some (.slice (some ⟨id, off + l * i.size, none⟩) (h - l) (n - l))
    | _, _ => none
  | some (.slice e), .slice (some ⟨id, off, none⟩) n c =>
    match P.info? e, ends n (if c = 0 then n else c) lo hi with
    | some i, some (l, h) =>
      if c ≠ 0 then (if c = l then some noRest else some (.slice (some ⟨id, off + l * i.size, none⟩) (h - l) (c - l)))
      else if l = 0 then some (.slice (some ⟨id, off, none⟩) h 0)
      else if l < n then
        match live H id with
        | some b => if b.own = false ∨ b.esz = i.size then some (.slice (some ⟨id, off + l * i.size, none⟩) (h - l) 0) else none
        | none => none
      else some noRest
    | _, _ => none
  | some (.slice e), .slice (some ⟨_, _, some _⟩) 0 0 =>
    match P.info? e, ends 0 0 lo hi with
    | some _, some _ => some noRest
    | _, _ => none
  | _, _ => none

/-- The cells of what is appended or copied: n elements. -/
def srcOf (size : Nat) (H : AH) : Value → Option (Nat × List Value)
  | .slice (some ⟨id, off, none⟩) n _ => match live H id with
    | some b => if off + n * size ≤ b.cells.length then some (n, (b.cells.drop off).take (n * size)) else none
    | none => none
  | .slice none n _ => if n = 0 then some (0, []) else none
  | .slice (some ⟨_, _, some _⟩) 0 _ => some (0, [])
  | .string s => if size = 1 then some (s.size, (s.data.map fun b => Value.int .u8 b.toNat).toList) else none
  | _ => none

/-- The places at which an append leaves the slice that it appends to as it was, and neither may be written from then on. -/
def shares : List String := []

def aappend (P : Program) (T : TypeId) (pos : String) (s x : Value) (H : AH) : Option (Value × AH) :=
  match P.underlying T with
  | some (.slice e) => match P.info? e with
    | some i => match srcOf i.size H x, zerosOf P e with
      | some (m, new), some _ =>
        if new.all Value.oneCell' = false then none else
        match s with
        | .slice none 0 0 =>
          if m = 0 then some (.slice none 0 0, H)
          else if i.bytes * (m : Int) ≤ 2 ^ 46 ∧ (m : Int) ≤ 2 ^ 46 then some (.slice (some ⟨H.length, 0, none⟩) m 0, H ++ [some ⟨new, true, true, i.size⟩]) else none
        | .slice (some ⟨id, off, none⟩) n c =>
          match live H id with
          | some b =>
            if m = 0 then some (s, H)
            else if c ≠ 0 ∧ n + m ≤ c then
              match astoreAt H id (off + n * i.size) new with
              | some H' => some (.slice (some ⟨id, off, none⟩) (n + m) c, H')
              | none => none
            else if ¬ (i.bytes * ((n + m : Nat) : Int) ≤ 2 ^ 46 ∧ ((n + m : Nat) : Int) ≤ 2 ^ 46) then none
            else if c ≠ 0 then
              if off + n * i.size ≤ b.cells.length then some (.slice (some ⟨H.length, 0, none⟩) (n + m) 0, H ++ [some ⟨(b.cells.drop off).take (n * i.size) ++ new, true, true, i.size⟩]) else none
            else if b.wr ∧ b.own ∧ b.esz = i.size ∧ off = 0 ∧ n * i.size ≤ b.cells.length then
              if shares.contains pos then some (.slice (some ⟨H.length, 0, none⟩) (n + m) 0, (H.set id (some { b with cells := b.cells.take (n * i.size), wr := false })) ++ [some ⟨b.cells.take (n * i.size) ++ new, true, false, i.size⟩]) else
              some (.slice (some ⟨H.length, 0, none⟩) (n + m) 0, (H.set id none) ++ [some ⟨b.cells.take (n * i.size) ++ new, true, true, i.size⟩])
            else none
          | none => none
        | .slice (some ⟨_, _, some _⟩) 0 0 => if m = 0 then some (noRest, H) else none
        | _ => none
      | _, _ => none
    | none => none
  | _ => none

def acopy (P : Program) (T : TypeId) (d x : Value) (H : AH) : Option (Value × AH) :=
  match P.underlying T with
  | some (.slice e) => match P.info? e with
    | some i => match d, x with
      | .slice (some ⟨id, off, none⟩) n _, .slice (some ⟨id', off', none⟩) n' _ =>
        match live H id' with
        | some b => if off' + (Nat.min n' n) * i.size ≤ b.cells.length then
            match astoreAt H id off ((b.cells.drop off').take (Nat.min n' n * i.size)) with
            | some H' => some (goInt (Nat.min n' n), H')
            | none => none
          else none
        | none => none
      | .slice (some ⟨_, _, some _⟩) 0 0, .slice (some ⟨_, _, none⟩) _ _ => some (goInt 0, H)
      | .slice (some ⟨_, _, none⟩) _ _, .slice (some ⟨_, _, some _⟩) 0 0 => some (goInt 0, H)
      | _, _ => none
    | none => none
  | _ => none

abbrev CallF := FuncId → Array Value → AH → Option (Value × AH)

/-- The blocks that a value names, to the depth n. -/
def idsN : Nat → Value → List Nat
  | _, .pointer (some ⟨id, _, none⟩) => [id]
  | _, .slice (some ⟨id, _, none⟩) _ _ => [id]
  | n + 1, .agg cs => cs.toList.flatMap (idsN n)
  | n + 1, .tuple cs => cs.toList.flatMap (idsN n)
  | n + 1, .func _ a b => a.toList.flatMap (idsN n) ++ b.toList.flatMap (idsN n)
  | _, _ => []
def idsOf (v : Value) : List Nat := idsN 4 v

def addAll (acc l : List Nat) : List Nat := l.foldl (fun acc i => if acc.contains i then acc else acc ++ [i]) acc
/-- The blocks that can be come to from some, in n steps. -/
def closure (H : AH) : Nat → List Nat → List Nat
  | 0, l => l
  | n + 1, l => closure H n (l.foldl (fun acc id => match live H id with
      | some b => b.cells.foldl (fun acc v => addAll acc (idsOf v)) acc
      | none => acc) l)

/-- A value with other names; what has none is forgotten. -/
def renV (s : Nat → Option Nat) : Nat → Value → Value
  | _, .pointer (some ⟨id, off, none⟩) => match s id with
    | some k => .pointer (some ⟨k, off, none⟩)
    | none => .tuple #[.chan (some 1)]
  | _, .slice (some ⟨id, off, none⟩) n c => match s id with
    | some k => .slice (some ⟨k, off, none⟩) n c
    | none => .tuple #[.chan (some 1)]
  | n + 1, .agg cs => .agg (cs.map (renV s n))
  | n + 1, .tuple cs => .tuple (cs.map (renV s n))
  | n + 1, .func f a b => .func f (a.map (renV s n)) (b.map (renV s n))
  | 0, .agg _ | 0, .tuple _ | 0, .func .. => .tuple #[.chan (some 1)]
  | _, v => v
def renB (s : Nat → Option Nat) (b : ABlk) : ABlk := { b with cells := b.cells.map (renV s 4) }

/-- A call's memory by itself: what can be come to from its arguments, with names from 0 on, to look at; and the way back. -/
def canIds (H : AH) (args : Array Value) : List Nat := closure H 6 (addAll [] (args.toList.flatMap idsOf))
def canTo (ids : List Nat) (id : Nat) : Option Nat := ids.idxOf? id
def canFrom (ids : List Nat) (L k : Nat) : Option Nat := if k < ids.length then ids[k]? else some (L + (k - ids.length))
def canH (ids : List Nat) (H : AH) : AH := ids.map fun i => ((H[i]?).join).map fun b => { renB (canTo ids) b with wr := false }

/-- A function without a text, that the model answers by itself. -/
def anative (P : Program) (g : FuncId) (args : Array Value) : Option Value :=
  if args.toList.all flat then
    match pureRun P (callFunc g args) with
    | some (.value v) => if flat v then some v else none
    | _ => none
  else none

/-- Answers that are known are asked for by number + 1000000. -/
def acall (P : Program) (callf : CallF) (g : FuncId) (args : Array Value) (H : AH) : Option (Value × AH) :=
  match P.funcs[g]? with
  | some fn =>
    if fn.name == "runtime.NumGoroutine" then none else
    if fn.body.isNone then (anative P g args).map fun v => (v, H) else
    if 1000000 ≤ g then none else
    match callf (g + 1000000) (args.map (renV (canTo (canIds H args)) 4)) (canH (canIds H args) H) with
    | some (r, K) => some (renV (canFrom (canIds H args) H.length) 4 r, H ++ (K.drop (canIds H args).length).map (Option.map (renB (canFrom (canIds H args) H.length))))
    | none =>
      if args.toList.all flat then
        match callf g args [] with
        | some (r, _) => if flat r then some (r, H) else callf g args H
        | none => none
      else callf g args H
  | none => none

/-- An operation that looks at no memory, and whose operands hold no address. -/
def aflat (P : Program) (t : Array Value) (H : AH) (o : Oper) : Option (Value × AH) :=
  if o.op.operands.toList.all (fun x => flat (aev t x)) then
    match pureRun P (execOp (aev t) o) with
    | some (.value v) => if flat v then some (v, H) else none
    | _ => none
  else none
/-- An operation that hands values on without looking at their addresses. -/
def apass (P : Program) (t : Array Value) (H : AH) (o : Oper) : Option (Value × AH) :=
  match pureRun P (execOp (aev t) o) with
  | some (.value v) => some (v, H)
  | _ => none

/-- Two values of one type of which one is nil and the other is not. -/
def nilDiff : Option TypeDesc → Value → Value → Bool
  | some (.slice _), .slice none _ _, .slice (some ⟨_, _, none⟩) _ _ | some (.slice _), .slice (some ⟨_, _, none⟩) _ _, .slice none _ _ => true
  | some (.pointer _), .pointer none, .pointer (some ⟨_, _, none⟩) | some (.pointer _), .pointer (some ⟨_, _, none⟩), .pointer none => true
  | some (.func ..), .nilFunc, .func _ _ _ | some (.func ..), .func _ _ _, .nilFunc => true
  | _, _, _ => false

/-- Equality of values that hold no address, part by part. -/
def eqFs (P : Program) (eq : TypeId → Value → Value → Option Bool) (xs ys : Array Value) : List Field → Option Bool
  | [] => some true
  | f :: fs =>
    if f.name ≠ "_" then
      match pureRun P (part f.type xs f.offset), pureRun P (part f.type ys f.offset) with
      | some a, some b => match eq f.type a b, eqFs P eq xs ys fs with
        | some r, some r' => some (r && r')
        | _, _ => none
      | _, _ => none
    else eqFs P eq xs ys fs
def eqIs (P : Program) (eq : TypeId → Value → Value → Option Bool) (e : TypeId) (c : Nat) (xs ys : Array Value) : List Nat → Option Bool
  | [] => some true
  | i :: is =>
    match pureRun P (part e xs (i * c)), pureRun P (part e ys (i * c)) with
    | some a, some b => match eq e a b, eqIs P eq e c xs ys is with
      | some r, some r' => some (r && r')
      | _, _ => none
    | _, _ => none
def eqB (P : Program) (d : Nat) : TypeId → Value → Value → Option Bool :=
  Nat.rec (fun _ _ _ => none) (fun _ ih t x y =>
    match P.underlying t, x, y with
    | some .bool, .bool a, .bool b => some (a == b)
    | some (.int _), .int k a, .int k' b => if k = k' then some (a == b) else none
    | some .string, .string a, .string b => some (a == b)
    | some (.struct fs), .agg xs, .agg ys => if P.stoodInHeld t then none else eqFs P ih xs ys fs.toList
    | some (.array n e), .agg xs, .agg ys => match P.info? e with
      | some _ => eqIs P ih e (P.cellsOf e) xs ys (List.range n)
      | none => none
    | _, _, _ => none) d

def aeq (P : Program) (op : BinOp) (T : TypeId) (q s : Operand) (x y : Value) : Option Bool :=
  if flat x && flat y then
    match pureRun P (eqGuard op T q s x y) with
    | some _ => eqB P Op.maxDepth T x y
    | none => none
  else none

/-- Cells that are bytes. -/
def bytesIn : List Value → Option (List Int)
  | [] => some []
  | .int .u8 n :: r => (bytesIn r).map (n :: ·)
  | _ :: _ => none
/-- A slice of bytes as a string. -/
def aconvert (P : Program) (src dst : TypeId) (H : AH) (x : Value) : Option (Value × AH) :=
  match P.underlying src, P.underlying dst, x with
  | some (.slice e), some .string, .slice (some ⟨id, off, none⟩) n _ =>
    match P.underlying e, live H id with
    | some (.int .u8), some b =>
      if off + n ≤ b.cells.length then (bytesIn ((b.cells.drop off).take n)).map fun ns => (.string (ns.foldl (fun r n => r.push (UInt8.ofNat n.toNat)) ByteArray.empty), H)
      else none
    | _, _ => none
  | some (.slice e), some .string, .slice (some ⟨_, _, some _⟩) 0 0 =>
    match P.underlying e with
    | some (.int .u8) => some (.string ByteArray.empty, H)
    | _ => none
  | some .string, some (.slice e), .string s =>
    match P.underlying e with
    | some (.int .u8) => some (.slice (some ⟨H.length, 0, none⟩) s.size 0, H ++ [some ⟨(s.data.map fun b => Value.int .u8 b.toNat).toList, false, false, 0⟩])
    | _ => none
  | _, _, _ => none
/-- Is a conversion one of a string to bytes? -/
def makesB (P : Program) (src dst : TypeId) : Bool := match P.underlying src, P.underlying dst with
  | some .string, some (.slice _) => true
  | _, _ => false

def aopIn (P : Program) (callf : CallF) (t : Array Value) (H : AH) (o : Oper) : Option (Value × AH) :=
  match o.op with
  | .move x | .assign x => some (aev t x, H)
  | .pick c a b => match aev t c with
    | .bool true => some (aev t a, H)
    | .bool false => some (aev t b, H)
    | _ => none
  | .alloc e => aalloc P e H
  | .box _ x => some (.pointer (some ⟨H.length, 0, none⟩), H ++ [some ⟨(aev t x).cells.toList, true, true, 0⟩])
  | .load T a => (aload P T H (aev t a)).map fun v => (v, H)
  | .store T a x => (astore P T H (aev t a) (aev t x)).map fun H' => (undef, H')
  | .nilCheck x => match aev t x with
    | .pointer (some a) => some (.pointer (some a), H)
    | .func (.func f) a b => some (.func (.func f) a b, H)
    | _ => none
  | .fieldAddr s x f => (afieldAddr P s f (aev t x)).map fun v => (v, H)
  | .indexAddr T x i => (aindexAddr P T (aev t x) (aev t i)).map fun v => (v, H)
  | .slice T x lo hi mx =>
    if flat (aev t x) then aflat P t H o
    else if mx.isSome then none else (asliceOf P T (aev t x) (lo.map (aev t)) (hi.map (aev t)) H).map fun v => (v, H)
  | .makeSlice T l c => amakeSlice P T (aev t l) (aev t c) H
  | .buildSlice T n ps => abuildSlice P T n (ps.toList.map fun (i, x) => (i, aev t x)) H
  | .build T _ => if (zerosOf P T).isSome then apass P t H o else none
  | .extract .. | .field .. | .makeFunc .. => apass P t H o
  | .call c => match c.callee with
    | .value f => match aev t f with
      | .func (.func g) first cap => acall P callf g (first ++ c.args.map (aev t) ++ cap) H
      | _ => none
    | .builtin .append => match c.args.toList, c.argTypes.toList with
      | [s, x], [T, T'] => match P.underlying T' with
        | some (.slice _) | some .string => aappend P T o.pos (aev t s) (aev t x) H
        | _ => none
      | _, _ => none
    | .builtin .copy => match c.args.toList, c.argTypes.toList with
      | [s, x], [T, _] => acopy P T (aev t s) (aev t x) H
      | _, _ => none
    | .builtin .len => match c.args.toList, c.argTypes.toList with
      | [x], [T] => match aev t x, P.underlying T with
        | .slice (some _) n _, some (.slice _) => some (goInt n, H)
        | _, _ => aflat P t H o
      | _, _ => none
    | .builtin _ => aflat P t H o
    | _ => none
  | .binOp op T x y _ =>
    if nilDiff (P.underlying T) (aev t x) (aev t y) then
      match op with
      | .eql => some (.bool false, H)
      | .neq => some (.bool true, H)
      | _ => none
    else match op, aev t x, aev t y with
      | .eql, .agg xs, .agg ys => (aeq P .eql T x y (.agg xs) (.agg ys)).map fun r => (.bool r, H)
      | .neq, .agg xs, .agg ys => (aeq P .neq T x y (.agg xs) (.agg ys)).map fun r => (.bool (!r), H)
      | _, _, _ => aflat P t H o
  | .convert src dst x => if flat (aev t x) && !makesB P src dst then aflat P t H o else aconvert P src dst H (aev t x)
  | .unOp .. | .index .. => aflat P t H o
  | _ => none

/-- An operand that is told, and has not been forgotten. -/
def okT (t : Array Value) (x : Operand) : Bool := okOpd x && !isLost (aev t x)

def aop (P : Program) (callf : CallF) (t : Array Value) (H : AH) (o : Oper) : Option (Value × AH) :=
  if o.op.operands.toList.all (okT t) = false then none else aopIn P callf t H o

/-- Does an operation's test look at a slot that has been forgotten? -/
def blind (ops : Array Oper) (t : Array Value) (o : Oper) : Bool :=
  match o.guard with
  | none => false
  | some (j, _) => match ((ops[j]?).bind (·.dst)).bind (t[·]?) with
    | some (.chan (some _)) => true
    | some v => isLost v
    | none => false

def aput (t : Array Value) (dst : Option Tmp) (v : Value) : Array Value :=
  match dst with
  | some d => t.setIfInBounds d v
  | none => t

def aops (P : Program) (callf : CallF) (ops : Array Oper) : List Nat → Array Value → AH → Option (Array Value × AH)
  | [], t, H => some (t, H)
  | i :: r, t, H =>
    match ops[i]? with
    | none => aops P callf ops r t H
    | some o =>
      if blind ops t o then none else
      if Region.wanted o (yielded ops t) then
        match aop P callf t H o with
        | some (v, H') => aops P callf ops r (aput t o.dst v) H'
        | none => none
      else aops P callf ops r (aput t o.dst undef) H

/-- Nothing may be written. -/
def roH (H : AH) : AH := H.map (Option.map fun b => { b with wr := false })

inductive Kind where
  | calm | look | make | call | write | barrier
  deriving DecidableEq
/-- What an operation may do: nothing; look at memory; make one block; call; write (and make) one; anything (only where all is ordered). -/
def kindOf : Op → Kind
  | .move _ | .assign _ | .pick .. | .nilCheck _ | .fieldAddr .. | .indexAddr .. | .build .. | .extract .. | .field .. | .makeFunc .. | .binOp .. | .unOp .. | .index .. => .calm
  | .load .. | .slice .. => .look
  | .alloc _ | .box .. | .makeSlice .. | .buildSlice .. => .make
  | .call c => match c.callee with
    | .value _ => .call
    | .builtin .append | .builtin .copy => .write
    | .builtin _ => .calm
    | _ => .barrier
  | .store .. | .convert .. => .write
  | _ => .barrier

def idOf : Value → Option Nat
  | .pointer (some ⟨id, _, none⟩) => some id
  | .slice (some ⟨id, _, none⟩) _ _ => some id
  | _ => none

/-- The operands by which an operation comes to memory; the one through which it writes. -/
def reach : Op → List Operand
  | .load _ x | .store _ x _ | .slice _ x _ _ _ | .convert _ _ x => [x]
  | .call c => c.args.toList
  | _ => []
def marks : Op → List Operand
  | .store _ x _ => [x]
  | .call c => c.args.toList.take 1
  | _ => []

/-- What an operation touches: whether it may write nothing; the blocks that it comes to; those that it writes. -/
structure Foot where
  ro : Bool
  sees : List Nat
  sets : List Nat

/-- The memory as an operation with such a foot sees it. -/
def seen (f : Foot) (H : AH) : AH := (List.range H.length).map fun id => if f.sees.contains id then (match H[id]? with
  | some (some b) => some (if f.ro then { b with wr := false } else b)
  | _ => none) else none

def mayWrite (H : AH) (id : Nat) : Bool := match H[id]? with
  | some (some b) => b.wr
  | _ => false

/-- 'mode' tells what a call is given: all that was there at the region's begin, to look at (0); what its arguments name (1), or what can be come to from there (2), to write. -/
def footOf (mode L0 : Nat) (t : Array Value) (H : AH) (o : Oper) : Foot :=
  match kindOf o.op with
  | .call =>
    let own := o.op.operands.toList.flatMap fun x => idsOf (aev t x)
    match mode with
    | 0 => ⟨true, List.range L0 ++ own, []⟩
    | 1 => ⟨false, own, own.filter (mayWrite H)⟩
    | _ => let all := (closure H 6 own).filter (fun id => decide (id < L0)) ++ own
      ⟨false, all, all.filter (mayWrite H)⟩
  | .look => ⟨false, (reach o.op).filterMap fun x => idOf (aev t x), []⟩
  | .write => ⟨false, (reach o.op).filterMap fun x => idOf (aev t x), (marks o.op).filterMap fun x => idOf (aev t x)⟩
  | _ => ⟨false, [], []⟩

def mergeH (sets : List Nat) (H K : AH) : AH :=
  match sets with
  | [] => H ++ K.drop H.length
  | _ => ((List.range H.length).map fun id => if sets.contains id then (K[id]?).join else (H[id]?).join) ++ K.drop H.length

/-- One of the operations ahead of the first barrier; and what it touches. -/
def pre1 (P : Program) (callf : CallF) (mode L0 : Nat) (ops : Array Oper) (i : Nat) (t : Array Value) (H : AH) : Option (Array Value × AH × Foot) :=
  match ops[i]? with
  | none => none
  | some o =>
    if blind ops t o then none else
    if Region.wanted o (yielded ops t) then
      match kindOf o.op with
      | .barrier => none
      | .call => match aop P callf t (seen (footOf mode L0 t H o) H) o with
        | some (v, H') => some (aput t o.dst v, mergeH (footOf mode L0 t H o).sets H H', footOf mode L0 t H o)
        | none => none
      | .make | .write => match aop P callf t H o with
        | some (v, H') => some (aput t o.dst v, H', footOf mode L0 t H o)
        | none => none
      | _ => match aop P callf t H o with
        | some (v, _) => some (aput t o.dst v, H, footOf mode L0 t H o)
        | none => none
    else some (aput t o.dst undef, H, ⟨false, [], []⟩)

def pushF (f : Foot) (x : Array Value × AH × List Foot) : Array Value × AH × List Foot := (x.1, x.2.1, f :: x.2.2)

/-- The operations ahead of the first barrier, in the order of the text. -/
def apre (P : Program) (callf : CallF) (mode L0 : Nat) (ops : Array Oper) : List Nat → Array Value → AH → Option (Array Value × AH × List Foot)
  | [], t, H => some (t, H, [])
  | i :: r, t, H =>
    match pre1 P callf mode L0 ops i t H with
    | some (t', H', f) => (apre P callf mode L0 ops r t' H').map (pushF f)
    | none => none

/-- Who writes what another one touches stands ahead of it or behind it. -/
def footsOk (F : List Foot) (bs : List Nat) (m : Nat) : Bool :=
  (List.range m).all fun i => match F[i]? with
    | some ⟨_, _, []⟩ => true
    | some ⟨_, _, ws⟩ => (List.range m).all fun j => i == j || (bs.getD j 0).testBit i || (bs.getD i 0).testBit j || (match F[j]? with
      | some f => ws.all fun id => !f.sees.contains id
      | none => false)
    | none => false

/-- How many operations stand ahead of the barriers: from there on each one stands behind all that are ahead of it. -/
def cutAt (bs : List Nat) : Nat → Nat
  | 0 => 0
  | n + 1 => if (bs.getD n 0) % 2 ^ n == 2 ^ n - 1 then cutAt bs n else n + 1

/-- Of the operations ahead of m: each slot has one writer; who looks at a slot stands behind its writer. -/
def preOk (ops : List Oper) (bs : List Nat) (opsA : Array Oper) (m : Nat) : Bool :=
  let pre := (ops.take m).zipIdx
  pre.all fun (o, j) =>
    let b := bs.getD j 0
    pre.all fun (o', i) =>
      i == j || (
        (match o'.dst with
          | some d => o.dst != some d && (!(o.looksAt opsA).contains d || (if i < j then b.testBit i else (bs.getD i 0).testBit j))
          | none => true))

/-- Each operation's predecessors come ahead of it in the text. -/
def textual (ops : List Oper) : Bool := ops.zipIdx.all fun (o, j) => o.after.toList.all fun e => !Region.binds .any e || decide (e.on < j)

def befores : List Oper → List Nat → List Nat
  | [], acc => acc
  | o :: r, acc => befores r (acc ++ [o.after.toList.foldl (fun s e => if Region.binds .any e then s ||| 2 ^ e.on ||| acc.getD e.on 0 else s) 0])

def adrawM (P : Program) (callf : CallF) (mode : Nat) (ops : Array Oper) (t : Array Value) (H : AH) : Option (Array Value × AH) :=
  let l := ops.toList
  let bs := befores l []
  let m := cutAt bs l.length
  if textual l && preOk l bs ops m then
    match apre P callf mode H.length ops (List.range m) t H with
    | some (t', H', F) => if footsOk F bs m then aops P callf ops ((List.range (l.length - m)).map (· + m)) t' H' else none
    | none => none
  else none
/-- 'mode' 3: whatever serves. -/
def adraw (P : Program) (callf : CallF) (mode : Nat) (ops : Array Oper) (t : Array Value) (H : AH) : Option (Array Value × AH) :=
  match mode with
  | 0 | 1 | 2 => adrawM P callf mode ops t H
  | _ => match adrawM P callf 0 ops t H with
    | some r => some r
    | none => match adrawM P callf 1 ops t H with
      | some r => some r
      | none => adrawM P callf 2 ops t H

/-- Equality of values, as far as it is told. -/
def veqL (eq : Value → Value → Bool) : List Value → List Value → Bool
  | [], [] => true
  | x :: xs, y :: ys => eq x y && veqL eq xs ys
  | _, _ => false
def veq : Nat → Value → Value → Bool
  | _, .bool a, .bool b => a == b
  | _, .int k a, .int k' b => k == k' && a == b
  | _, .string a, .string b => a.data == b.data
  | _, .pointer a, .pointer b => a == b
  | _, .slice a n c, .slice b n' c' => a == b && n == n' && c == c'
  | _, .map none, .map none | _, .chan none, .chan none | _, .nilFunc, .nilFunc | _, .nilIface, .nilIface => true
  | _, .chan (some a), .chan (some b) => a == b
  | n + 1, .agg a, .agg b => veqL (veq n) a.toList b.toList
  | n + 1, .tuple a, .tuple b => veqL (veq n) a.toList b.toList
  | n + 1, .func f a b, .func f' a' b' => f == f' && veqL (veq n) a.toList a'.toList && veqL (veq n) b.toList b'.toList
  | _, _, _ => false
/-- What is told of a text: how the calls of drawn regions are given memory; which slots are forgotten at the head of a loop, and of which slots the blocks are kept there (none: all of memory is). Nothing of it need be right. -/
structure Hints where
  mode : Nat → Array Oper → Nat
  forget : Nat → List Tmp
  roots : Nat → Option (List Tmp)
def auto : Hints := ⟨fun _ _ => 3, fun _ => [], fun _ => none⟩

/-- The number of a loop: that of the first region or block in it. -/
def headId : Code → Nat
  | .region id _ _ => id
  | .block id _ => id
  | .seq a _ => headId a
  | .loop b => headId b
  | .scope b => headId b
  | .cond _ a _ => headId a
  | _ => 0

def forgetT (l : List Tmp) (t : Array Value) : Array Value := l.foldl (fun t i => t.setIfInBounds i (.tuple #[.chan (some 1)])) t

/-- Where a block goes that is kept: those of before the call stay where they are, the others follow in a row. -/
def keepTo (L0 : Nat) (keep : List Nat) (id : Nat) : Option Nat := if id < L0 then some id else (keep.idxOf? id).map (· + L0)
def keepB (L0 : Nat) (keep : List Nat) (b : ABlk) : ABlk := if b.cells.all flat1 then b else renB (keepTo L0 keep) b
/-- Memory at the head of a loop: of the call's own blocks those that are named by some slots. -/
def gcAt (L0 : Nat) (roots : Option (List Tmp)) (t : Array Value) (H : AH) : Option (Array Value × AH) :=
  match roots with
  | none => some (t, H)
  | some l =>
    let keep := (addAll [] (l.flatMap fun i => idsOf (t.getD i undef))).filter fun id => L0 ≤ id
    if (H.take L0).all (fun b => match b with | some b => b.wr || b.cells.all flat1 || b.cells.all (fun v => veq 5 (renV (keepTo L0 keep) 4 v) v) | none => true) then
      some (t.map (renV (keepTo L0 keep) 4), (H.take L0).map (Option.map fun b => if b.wr then keepB L0 keep b else b) ++ keep.map fun i => ((H[i]?).join).map (keepB L0 keep))
    else none

def evCode (P : Program) (callf : CallF) (hi : Hints) (L0 : Nat) (n : Nat) : Code → Array Value → AH → Option (Exit × Array Value × AH) :=
  Nat.rec (fun _ _ _ => none) (fun _ ih c t H =>
    match c with
    | .skip | .label _ => some (.normal, t, H)
    | .region _ ops false => (aops P callf ops (List.range ops.size) t H).map fun (t, H) => (.normal, t, H)
    | .region id ops true => (adraw P callf (hi.mode id ops) ops t H).map fun (t, H) => (.normal, t, H)
    | .seq a b => match ih a t H with
      | some (.normal, t, H) => ih b t H
      | r => r
    | .cond c a b => if okOpd c then match aev t c with
        | .bool true => ih a t H
        | .bool false => ih b t H
        | _ => none
      else none
    | .block id b => match ih b t H with
      | some (.exit id', t, H) => if id' = id then some (.normal, t, H) else some (.exit id', t, H)
      | r => r
    | .loop b => match gcAt L0 (hi.roots (headId b)) (forgetT (hi.forget (headId b)) t) H with
      | some (t, H) => match ih b t H with
        | some (.normal, t, H) => ih (.loop b) t H
        | r => r
      | none => none
    | .scope b => match ih b t H with
      | some (.goto _, _, _) => none
      | r => r
    | .exit id => some (.exit id, t, H)
    | .ret => some (.ret, t, H)
    | _ => none) n

def ares (P : Program) (t : Array Value) (H : AH) : List ResultVar → Option (List Value)
  | [] => some []
  | .tmp i :: r => (ares P t H r).map (t.getD i undef :: ·)
  | .cell a T :: r => match aload P T H (t.getD a undef), ares P t H r with
    | some v, some vs => some (v :: vs)
    | _, _ => none

/-- A function's answer, if what it calls answers as callf says. -/
def evFn (P : Program) (callf : CallF) (hi : Hints) (L : Nat) : CallF := fun f args H =>
  if 1000000 ≤ f then none else
  match P.funcs[f]? with
  | some fn => match fn.body with
    | some c => match evCode P callf hi H.length L c (args ++ Array.replicate (fn.ntmps - args.size) undef) H with
      | some (.normal, t, H') | some (.ret, t, H') => match ares P t H' fn.results.toList with
        | some [v] => some (v, H')
        | some vs => some (.tuple vs.toArray, H')
        | none => none
      | _ => none
    | none => none
  | none => none

def beqB (a b : ABlk) : Bool := a.own == b.own && a.wr == b.wr && a.esz == b.esz && veqL (veq 5) a.cells b.cells
def heq : AH → AH → Bool
  | [], [] => true
  | none :: xs, none :: ys => heq xs ys
  | some a :: xs, some b :: ys => beqB a b && heq xs ys
  | _, _ => false

/-- Known answers: of a function, for arguments and a memory, a value and the memory behind it. -/
structure Known where
  f : FuncId
  args : Array Value
  mem : AH
  v : Value
  out : AH
abbrev Memo := List Known
def ask : Memo → CallF
  | [], _, _, _ => none
  | k :: l, g, args, H => if g == k.f + 1000000 && veqL (veq 5) args.toList k.args.toList && heq H k.mem then some (k.v, k.out) else ask l g args H

/-- Of a call's new blocks, those that are kept: none of them ('none'), where what it answers names none. -/
def thin (keep : Option (List Nat)) (mem : AH) (x : Value × AH) : Option (Value × AH) :=
  match keep with
  | none => if flat x.1 then some (x.1, mem) else none
  | some l => some (x.1, x.2.zipIdx.map fun (b, i) => if i < mem.length || l.contains i then b else none)

def evCall (P : Program) (memo : Memo) (L : Nat) (n : Nat) : CallF :=
  Nat.rec (fun _ _ _ => none) (fun _ ih f args H => if 1000000 ≤ f then ask memo f args H else evFn P ih auto L f args H) n

def isTrue : Option (Value × AH) → Bool
  | some (.bool true, _) => true
  | _ => false
end Go.Proofs.YtfpcmckachpnpaaDoor.Vx
