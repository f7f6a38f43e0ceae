/- A program run over a memory with names of its own: the run itself (nothing is said of the model's here). -/
import Derived.Test.YtdbdoagljioijaaX1
namespace Go.Proofs.Ytdbdoagljioijaa.Vx
open Go Go.RowKit

/-- What a text answers that asks nothing but the program. -/
def pureRun {α : Type} (P : Program) : Sem α → Option α
  | .pure a => some a
  | .program k => pureRun P (k P)
  | .mark _ k => pureRun P k
  | _ => none

def aev (t : Array Value) : Operand → Value
  | .tmp i => t.getD i undef
  | .const v => v
  | .global _ => undef
  | .func f => .func (.func f) #[] #[]
def okOpd : Operand → Bool
  | .const v => flat v
  | .global _ => false
  | _ => true

def live (H : AH) (id : Nat) : Option ABlk := match H[id]? with | some (some b) => some b | _ => none
def setRange (cs : List Value) (o : Nat) (xs : List Value) : List Value := cs.take o ++ xs ++ cs.drop (o + xs.length)

/-- Is a type one of several cells? -/
def aggT (P : Program) (T : TypeId) : Option Bool := (P.underlying T).map fun | .struct _ | .array _ _ => true | _ => false

def aload (P : Program) (T : TypeId) (H : AH) : Value → Option Value
  | .pointer (some ⟨id, off, none⟩) =>
    match live H id, aggT P T with
    | some b, some true =>
      match P.info? T with
      | some i => if off + i.size ≤ b.cells.length then some (.agg ((b.cells.drop off).take i.size).toArray) else none
      | none => none
    | some b, some false => b.cells[off]?
    | _, _ => none
  | _ => none

def astoreAt (H : AH) (id off : Nat) (xs : List Value) : Option AH :=
  match live H id with
  | some b => if b.wr && decide (off + xs.length ≤ b.cells.length) && xs.all Value.oneCell' then some (H.set id (some { b with cells := setRange b.cells off xs })) else none
  | none => none

def astore (P : Program) (T : TypeId) (H : AH) (a x : Value) : Option AH :=
  match a, P.info? T with
  | .pointer (some ⟨id, off, none⟩), some i => if x.cells.size = i.size then astoreAt H id off x.cells.toList else none
  | _, _ => none

def anew (H : AH) (cells : List Value) (esz : Nat) : Nat × AH := (H.length, H ++ [some ⟨cells, true, true, esz⟩])

def intArg : Value → Option Int
  | .int _ n => some n
  | _ => none

def zerosOf (P : Program) (e : TypeId) : Option (Array Value) :=
  match P.info? e with
  | some i => match i.zero with
    | some z => if z.cells.toList.all flat1 && z.cells.size == i.size then some z.cells else none
    | none => none
  | none => none

def aalloc (P : Program) (e : TypeId) (H : AH) : Option (Value × AH) :=
  match zerosOf P e with
  | some z => some (.pointer (some ⟨H.length, 0, none⟩), H ++ [some ⟨z.toList, true, true, 0⟩])
  | none => none

def afieldAddr (P : Program) (s : TypeId) (f : Nat) : Value → Option Value
  | .pointer (some ⟨id, off, none⟩) =>
    match P.underlying s with
    | some (.struct fs) => match fs[f]? with
      | some fd => match P.info? fd.type with
        | some i => if i.size = 0 then none else some (.pointer (some ⟨id, off + fd.offset, none⟩))
        | none => none
      | none => none
    | _ => none
  | _ => none

def aindexAddr (P : Program) (T : TypeId) (x i : Value) : Option Value :=
  match P.underlying T, x, i with
  | some (.array len e), .pointer (some ⟨id, off, none⟩), .int _ n =>
    match P.info? e with
    | some ie => if 0 ≤ n ∧ n < len then some (.pointer (some ⟨id, off + n.toNat * ie.size, none⟩)) else none
    | none => none
  | some (.slice e), .slice (some ⟨id, off, none⟩) len _, .int _ n =>
    match P.info? e with
    | some ie => if 0 ≤ n ∧ n < len then some (.pointer (some ⟨id, off + n.toNat * ie.size, none⟩)) else none
    | none => none
  | _, _, _ => none

/-- Repeats the cells of a zero value. -/
def rep (zero : Array Value) (n : Nat) : Array Value := (Array.range n).map (zero[· % zero.size]!)

def abuildSlice (P : Program) (T : TypeId) (n : Nat) (parts : List (Nat × Value)) (H : AH) : Option (Value × AH) :=
  match P.underlying T with
  | some (.slice e) => match P.info? e, zerosOf P e with
    | some i, some z =>
      if n * i.size > 2 ^ 24 then none else
      match Instr.fill (fun k => some (k * i.size, i.size)) (rep (if n * i.size = 0 then #[] else z) (n * i.size)) parts with
      | some cells => some (.slice (some ⟨H.length, 0, none⟩) n n, H ++ [some ⟨cells.toList, true, true, i.size⟩])
      | none => none
    | _, _ => none
  | _ => none

def amakeSlice (P : Program) (T : TypeId) (l c : Value) (H : AH) : Option (Value × AH) :=
  match P.underlying T, intArg l, intArg c with
  | some (.slice e), some len, some cap => match P.info? e, zerosOf P e with
    | some i, some z =>
      if IntKind.i64.wrap len = len ∧ IntKind.i64.wrap cap = cap ∧ 0 ≤ len ∧ len ≤ cap ∧ i.bytes * cap ≤ 2 ^ 48 then
        some (.slice (some ⟨H.length, 0, none⟩) len.toNat cap.toNat, H ++ [some ⟨(rep (if cap.toNat * i.size = 0 then #[] else z) (cap.toNat * i.size)).toList, true, true, i.size⟩])
      else none
    | _, _ => none
  | _, _, _ => none

/-- The ends of a slice expression without a third index: 'top' is what the second end may be. -/
def ends (len top : Nat) (lo hi : Option Value) : Option (Nat × Nat) :=
  match lo, hi with
  | none, none => some (0, len)
  | some (.int _ l), none => if 0 ≤ l ∧ l ≤ len then some (l.toNat, len) else none
  | none, some (.int _ h) => if 0 ≤ h ∧ h ≤ top then some (0, h.toNat) else none
  | some (.int _ l), some (.int _ h) => if 0 ≤ h ∧ h ≤ top ∧ 0 ≤ l ∧ l ≤ h then some (l.toNat, h.toNat) else none
  | _, _ => none

def asliceOf (P : Program) (T : TypeId) (x : Value) (lo hi : Option Value) (H : AH) : Option Value :=
  match P.underlying T, x with
  | some (.array n e), .pointer (some ⟨id, off, none⟩) =>
    match P.info? e, ends n n lo hi with
    | some i, some (l, h) => if n = l then none else some (.slice (some ⟨id, off + l * i.size, none⟩) (h - l) (n - l))
    | _, _ => none
  | some (.slice e), .slice (some ⟨id, off, none⟩) n c =>
    match P.info? e, ends n (if c = 0 then n else c) lo hi with
    | some i, some (l, h) =>
      if c ≠ 0 then (if c = l then none else some (.slice (some ⟨id, off + l * i.size, none⟩) (h - l) (c - l)))
      else if l = 0 then some (.slice (some ⟨id, off, none⟩) h 0)
      else if l < n then
        match live H id with
        | some b => if b.own = false ∨ b.esz = i.size then some (.slice (some ⟨id, off + l * i.size, none⟩) (h - l) 0) else none
        | none => none
      else none
    | _, _ => none
  | _, _ => none

/-- The cells of what is appended or copied: n elements. -/
def srcOf (size : Nat) (H : AH) : Value → Option (Nat × List Value)
  | .slice (some ⟨id, off, none⟩) n _ => match live H id with
    | some b => if off + n * size ≤ b.cells.length then some (n, (b.cells.drop off).take (n * size)) else none
    | none => none
  | .slice none n _ => if n = 0 then some (0, []) else none
  | _ => none

def aappend (P : Program) (T : TypeId) (s x : Value) (H : AH) : Option (Value × AH) :=
  match P.underlying T with
  | some (.slice e) => match P.info? e with
    | some i => match srcOf i.size H x, zerosOf P e with
      | some (m, new), some _ =>
        if new.all Value.oneCell' = false then none else
        match s with
        | .slice none 0 0 =>
          if m = 0 then some (.slice none 0 0, H)
          else if i.bytes * (m : Int) ≤ 2 ^ 46 ∧ (m : Int) ≤ 2 ^ 46 then some (.slice (some ⟨H.length, 0, none⟩) m 0, H ++ [some ⟨new, true, true, i.size⟩]) else none
        | .slice (some ⟨id, off, none⟩) n c =>
          match live H id with
          | some b =>
            if m = 0 then some (s, H)
            else if c ≠ 0 ∧ n + m ≤ c then
              match astoreAt H id (off + n * i.size) new with
              | some H' => some (.slice (some ⟨id, off, none⟩) (n + m) c, H')
              | none => none
            else if ¬ (i.bytes * ((n + m : Nat) : Int) ≤ 2 ^ 46 ∧ ((n + m : Nat) : Int) ≤ 2 ^ 46) then none
            else if c ≠ 0 then
              if off + n * i.size ≤ b.cells.length then some (.slice (some ⟨H.length, 0, none⟩) (n + m) 0, H ++ [some ⟨(b.cells.drop off).take (n * i.size) ++ new, true, true, i.size⟩]) else none
            else if b.wr ∧ b.own ∧ b.esz = i.size ∧ off = 0 ∧ n * i.size = b.cells.length then
              some (.slice (some ⟨H.length, 0, none⟩) (n + m) 0, (H.set id none) ++ [some ⟨b.cells ++ new, true, true, i.size⟩])
            else none
          | none => none
        | _ => none
      | _, _ => none
    | none => none
  | _ => none

def acopy (P : Program) (T : TypeId) (d x : Value) (H : AH) : Option (Value × AH) :=
  match P.underlying T with
  | some (.slice e) => match P.info? e with
    | some i => match d, x with
      | .slice (some ⟨id, off, none⟩) n _, .slice (some ⟨id', off', none⟩) n' _ =>
        match live H id' with
        | some b => if off' + (Nat.min n' n) * i.size ≤ b.cells.length then
            match astoreAt H id off ((b.cells.drop off').take (Nat.min n' n * i.size)) with
            | some H' => some (goInt (Nat.min n' n), H')
            | none => none
          else none
        | none => none
      | _, _ => none
    | none => none
  | _ => none

abbrev CallF := FuncId → Array Value → AH → Option (Value × AH)

def acall (P : Program) (callf : CallF) (g : FuncId) (args : Array Value) (H : AH) : Option (Value × AH) :=
  match P.funcs[g]? with
  | some fn =>
    if fn.name == "runtime.NumGoroutine" || fn.body.isNone then none else
    if args.toList.all flat then
      match callf g args [] with
      | some (r, _) => if flat r then some (r, H) else callf g args H
      | none => none
    else callf g args H
  | none => none

/-- An operation that looks at no memory, and whose operands hold no address. -/
def aflat (P : Program) (t : Array Value) (H : AH) (o : Oper) : Option (Value × AH) :=
  if o.op.operands.toList.all (fun x => flat (aev t x)) then
    match pureRun P (execOp (aev t) o) with
    | some (.value v) => if flat v then some (v, H) else none
    | _ => none
  else none
/-- An operation that hands values on without looking at their addresses. -/
def apass (P : Program) (t : Array Value) (H : AH) (o : Oper) : Option (Value × AH) :=
  match pureRun P (execOp (aev t) o) with
  | some (.value v) => some (v, H)
  | _ => none

/-- Two values of one type of which one is nil and the other is not. -/
def nilDiff : Option TypeDesc → Value → Value → Bool
  | some (.slice _), .slice none _ _, .slice (some ⟨_, _, none⟩) _ _ | some (.slice _), .slice (some ⟨_, _, none⟩) _ _, .slice none _ _ => true
  | some (.pointer _), .pointer none, .pointer (some ⟨_, _, none⟩) | some (.pointer _), .pointer (some ⟨_, _, none⟩), .pointer none => true
  | some (.func ..), .nilFunc, .func _ _ _ | some (.func ..), .func _ _ _, .nilFunc => true
  | _, _, _ => false

/-- Equality of values that hold no address, part by part. -/
def eqFs (P : Program) (eq : TypeId → Value → Value → Option Bool) (xs ys : Array Value) : List Field → Option Bool
  | [] => some true
  | f :: fs =>
    if f.name ≠ "_" then
      match pureRun P (part f.type xs f.offset), pureRun P (part f.type ys f.offset) with
      | some a, some b => match eq f.type a b, eqFs P eq xs ys fs with
        | some r, some r' => some (r && r')
        | _, _ => none
      | _, _ => none
    else eqFs P eq xs ys fs
def eqIs (P : Program) (eq : TypeId → Value → Value → Option Bool) (e : TypeId) (c : Nat) (xs ys : Array Value) : List Nat → Option Bool
  | [] => some true
  | i :: is =>
    match pureRun P (part e xs (i * c)), pureRun P (part e ys (i * c)) with
    | some a, some b => match eq e a b, eqIs P eq e c xs ys is with
      | some r, some r' => some (r && r')
      | _, _ => none
    | _, _ => none
def eqB (P : Program) (d : Nat) : TypeId → Value → Value → Option Bool :=
  Nat.rec (fun _ _ _ => none) (fun _ ih t x y =>
    match P.underlying t, x, y with
    | some .bool, .bool a, .bool b => some (a == b)
    | some (.int _), .int k a, .int k' b => if k = k' then some (a == b) else none
    | some .string, .string a, .string b => some (a == b)
    | some (.struct fs), .agg xs, .agg ys => if P.stoodInHeld t then none else eqFs P ih xs ys fs.toList
    | some (.array n e), .agg xs, .agg ys => match P.info? e with
      | some _ => eqIs P ih e (P.cellsOf e) xs ys (List.range n)
      | none => none
    | _, _, _ => none) d

def aeq (P : Program) (op : BinOp) (T : TypeId) (q s : Operand) (x y : Value) : Option Bool :=
  if flat x && flat y then
    match pureRun P (eqGuard op T q s x y) with
    | some _ => eqB P Op.maxDepth T x y
    | none => none
  else none

def aopIn (P : Program) (callf : CallF) (t : Array Value) (H : AH) (o : Oper) : Option (Value × AH) :=
  match o.op with
  | .move x | .assign x => some (aev t x, H)
  | .pick c a b => match aev t c with
    | .bool true => some (aev t a, H)
    | .bool false => some (aev t b, H)
    | _ => none
  | .alloc e => aalloc P e H
  | .box _ x => some (.pointer (some ⟨H.length, 0, none⟩), H ++ [some ⟨(aev t x).cells.toList, true, true, 0⟩])
  | .load T a => (aload P T H (aev t a)).map fun v => (v, H)
  | .store T a x => (astore P T H (aev t a) (aev t x)).map fun H' => (undef, H')
  | .nilCheck x => match aev t x with
    | .pointer (some a) => some (.pointer (some a), H)
    | .func (.func f) a b => some (.func (.func f) a b, H)
    | _ => none
  | .fieldAddr s x f => (afieldAddr P s f (aev t x)).map fun v => (v, H)
  | .indexAddr T x i => (aindexAddr P T (aev t x) (aev t i)).map fun v => (v, H)
  | .slice T x lo hi mx =>
    if flat (aev t x) then aflat P t H o
    else if mx.isSome then none else (asliceOf P T (aev t x) (lo.map (aev t)) (hi.map (aev t)) H).map fun v => (v, H)
  | .makeSlice T l c => amakeSlice P T (aev t l) (aev t c) H
  | .buildSlice T n ps => abuildSlice P T n (ps.toList.map fun (i, x) => (i, aev t x)) H
  | .build T _ => if (zerosOf P T).isSome then apass P t H o else none
  | .extract .. | .field .. | .makeFunc .. => apass P t H o
  | .call c => match c.callee with
    | .value f => match aev t f with
      | .func (.func g) first cap => acall P callf g (first ++ c.args.map (aev t) ++ cap) H
      | _ => none
    | .builtin .append => match c.args.toList, c.argTypes.toList with
      | [s, x], [T, T'] => match P.underlying T' with
        | some (.slice _) => aappend P T (aev t s) (aev t x) H
        | _ => none
      | _, _ => none
    | .builtin .copy => match c.args.toList, c.argTypes.toList with
      | [s, x], [T, _] => acopy P T (aev t s) (aev t x) H
      | _, _ => none
    | .builtin .len => match c.args.toList, c.argTypes.toList with
      | [x], [T] => match aev t x, P.underlying T with
        | .slice (some _) n _, some (.slice _) => some (goInt n, H)
        | _, _ => aflat P t H o
      | _, _ => none
    | .builtin _ => aflat P t H o
    | _ => none
  | .binOp op T x y _ =>
    if nilDiff (P.underlying T) (aev t x) (aev t y) then
      match op with
      | .eql => some (.bool false, H)
      | .neq => some (.bool true, H)
      | _ => none
    else match op, aev t x, aev t y with
      | .eql, .agg xs, .agg ys => (aeq P .eql T x y (.agg xs) (.agg ys)).map fun r => (.bool r, H)
      | .neq, .agg xs, .agg ys => (aeq P .neq T x y (.agg xs) (.agg ys)).map fun r => (.bool (!r), H)
      | _, _, _ => aflat P t H o
  | .unOp .. | .convert .. | .index .. => aflat P t H o
  | _ => none

def aop (P : Program) (callf : CallF) (t : Array Value) (H : AH) (o : Oper) : Option (Value × AH) :=
  if o.op.operands.toList.all okOpd = false then none else aopIn P callf t H o

def aput (t : Array Value) (dst : Option Tmp) (v : Value) : Array Value :=
  match dst with
  | some d => t.setIfInBounds d v
  | none => t

def aops (P : Program) (callf : CallF) (ops : Array Oper) : List Nat → Array Value → AH → Option (Array Value × AH)
  | [], t, H => some (t, H)
  | i :: r, t, H =>
    match ops[i]? with
    | none => aops P callf ops r t H
    | some o =>
      if Region.wanted o (yielded ops t) then
        match aop P callf t H o with
        | some (v, H') => aops P callf ops r (aput t o.dst v) H'
        | none => none
      else aops P callf ops r (aput t o.dst undef) H

/-- Nothing may be written. -/
def roH (H : AH) : AH := H.map (Option.map fun b => { b with wr := false })

inductive Kind where
  | calm | look | make | call | barrier
  deriving DecidableEq
/-- What an operation may do: nothing; look at memory; make one block; call; anything (only where all is ordered). -/
def kindOf : Op → Kind
  | .move _ | .assign _ | .pick .. | .nilCheck _ | .fieldAddr .. | .indexAddr .. | .build .. | .extract .. | .field .. | .makeFunc .. | .binOp .. | .unOp .. | .convert .. | .index .. => .calm
  | .load .. | .slice .. => .look
  | .alloc _ | .box .. | .makeSlice .. | .buildSlice .. => .make
  | .call c => match c.callee with
    | .value _ => .call
    | .builtin .append | .builtin .copy => .barrier
    | .builtin _ => .calm
    | _ => .barrier
  | _ => .barrier

/-- The operations ahead of the first barrier, in the order of the text, with no memory written. -/
def apre (P : Program) (callf : CallF) (ops : Array Oper) : List Nat → Array Value → AH → Option (Array Value × AH)
  | [], t, H => some (t, H)
  | i :: r, t, H =>
    match ops[i]? with
    | none => none
    | some o =>
      if Region.wanted o (yielded ops t) then
        match kindOf o.op with
        | .barrier => none
        | .call => match aop P callf t (roH H) o with
          | some (v, H') => apre P callf ops r (aput t o.dst v) (H ++ H'.drop H.length)
          | none => none
        | .make => match aop P callf t H o with
          | some (v, H') => apre P callf ops r (aput t o.dst v) H'
          | none => none
        | _ => match aop P callf t H o with
          | some (v, _) => apre P callf ops r (aput t o.dst v) H
          | none => none
      else apre P callf ops r (aput t o.dst undef) H

/-- How many operations stand ahead of the barriers: from there on each one stands behind all that are ahead of it. -/
def cutAt (bs : List Nat) : Nat → Nat
  | 0 => 0
  | n + 1 => if (bs.getD n 0) % 2 ^ n == 2 ^ n - 1 then cutAt bs n else n + 1

/-- Of the operations ahead of m: each slot has one writer; who looks at a slot stands behind its writer; who calls stands behind all that make memory ahead of it. -/
def preOk (ops : List Oper) (bs : List Nat) (opsA : Array Oper) (m : Nat) : Bool :=
  let pre := (ops.take m).zipIdx
  pre.all fun (o, j) =>
    let b := bs.getD j 0
    pre.all fun (o', i) =>
      i == j || (
        (match o'.dst with
          | some d => o.dst != some d && (!(o.looksAt opsA).contains d || (if i < j then b.testBit i else (bs.getD i 0).testBit j))
          | none => true) &&
        (match kindOf o'.op, kindOf o.op with
          | .make, .call | .call, .call => decide (j < i) || b.testBit i
          | _, _ => true))

/-- Each operation's predecessors come ahead of it in the text. -/
def textual (ops : List Oper) : Bool := ops.zipIdx.all fun (o, j) => o.after.toList.all fun e => !Region.binds .any e || decide (e.on < j)

def befores : List Oper → List Nat → List Nat
  | [], acc => acc
  | o :: r, acc => befores r (acc ++ [o.after.toList.foldl (fun s e => if Region.binds .any e then s ||| 2 ^ e.on ||| acc.getD e.on 0 else s) 0])

def adraw (P : Program) (callf : CallF) (ops : Array Oper) (t : Array Value) (H : AH) : Option (Array Value × AH) :=
  let l := ops.toList
  let bs := befores l []
  let m := cutAt bs l.length
  if textual l && preOk l bs ops m then
    match apre P callf ops (List.range m) t H with
    | some (t', H') => aops P callf ops ((List.range (l.length - m)).map (· + m)) t' H'
    | none => none
  else none

def evCode (P : Program) (callf : CallF) (n : Nat) : Code → Array Value → AH → Option (Exit × Array Value × AH) :=
  Nat.rec (fun _ _ _ => none) (fun _ ih c t H =>
    match c with
    | .skip | .label _ => some (.normal, t, H)
    | .region _ ops false => (aops P callf ops (List.range ops.size) t H).map fun (t, H) => (.normal, t, H)
    | .region _ ops true => (adraw P callf ops t H).map fun (t, H) => (.normal, t, H)
    | .seq a b => match ih a t H with
      | some (.normal, t, H) => ih b t H
      | r => r
    | .cond c a b => if okOpd c then match aev t c with
        | .bool true => ih a t H
        | .bool false => ih b t H
        | _ => none
      else none
    | .block id b => match ih b t H with
      | some (.exit id', t, H) => if id' = id then some (.normal, t, H) else some (.exit id', t, H)
      | r => r
    | .loop b => match ih b t H with
      | some (.normal, t, H) => ih (.loop b) t H
      | r => r
    | .exit id => some (.exit id, t, H)
    | .ret => some (.ret, t, H)
    | _ => none) n

def ares (P : Program) (t : Array Value) (H : AH) : List ResultVar → Option (List Value)
  | [] => some []
  | .tmp i :: r => (ares P t H r).map (t.getD i undef :: ·)
  | .cell a T :: r => match aload P T H (t.getD a undef), ares P t H r with
    | some v, some vs => some (v :: vs)
    | _, _ => none

def evCall (P : Program) (L : Nat) (n : Nat) : CallF :=
  Nat.rec (fun _ _ _ => none) (fun _ ih f args H =>
    match P.funcs[f]? with
    | some fn => match fn.body with
      | some c => match evCode P ih L c (args ++ Array.replicate (fn.ntmps - args.size) undef) H with
        | some (.normal, t, H') | some (.ret, t, H') => match ares P t H' fn.results.toList with
          | some [v] => some (v, H')
          | some vs => some (.tuple vs.toArray, H')
          | none => none
        | _ => none
      | none => none
    | none => none) n

/-- A function's answer, if what it calls answers as callf says. -/
def evFn (P : Program) (callf : CallF) (L : Nat) : CallF := fun f args H =>
  match P.funcs[f]? with
  | some fn => match fn.body with
    | some c => match evCode P callf L c (args ++ Array.replicate (fn.ntmps - args.size) undef) H with
      | some (.normal, t, H') | some (.ret, t, H') => match ares P t H' fn.results.toList with
        | some [v] => some (v, H')
        | some vs => some (.tuple vs.toArray, H')
        | none => none
      | _ => none
    | none => none
  | none => none

def isTrue : Option (Value × AH) → Bool
  | some (.bool true, _) => true
  | _ => false
end Go.Proofs.Ytdbdoagljioijaa.Vx
