/- A symbolic executor for functions of plain data (its definitions): integers and truth values as expressions, blocks of the call's own by name, calls by value; what it yields is a tree of cases. -/
import Derived.WalkKit
import Derived.ProofKit
import Derived.Below
namespace Go.Proofs.YtinnlahmlepeeaaDoor
open Go.RowKit

/-- Expressions over integers that are not known. -/
inductive IE where
  | at (i : Nat)
  | lit (n : Int)
  | add (a b : IE)
  | sub (a b : IE)
  | mul (a b : IE)
  | quo (a b : IE)
  | rem (a b : IE)
  | wr (k : IntKind) (a : IE)
  | mn (a b : IE)
  | mx (a b : IE)
  | ap (f : Nat) (a b : IE)
  deriving Inhabited
inductive BE where
  | lit (b : Bool)
  | lt (a b : IE)
  | le (a b : IE)
  | eq (a b : IE)
  | not (a : BE)
  | and (a b : BE)
  deriving Inhabited
structure EnvS where
  v : Nat → Int
  f : Nat → Int → Int → Int
def IE.den (ρ : EnvS) : IE → Int
  | .at i => ρ.v i
  | .lit n => n
  | .add a b => a.den ρ + b.den ρ
  | .sub a b => a.den ρ - b.den ρ
  | .mul a b => a.den ρ * b.den ρ
  | .quo a b => (a.den ρ).tdiv (b.den ρ)
  | .rem a b => (a.den ρ).tmod (b.den ρ)
  | .wr k a => k.wrap (a.den ρ)
  | .mn a b => if b.den ρ < a.den ρ then b.den ρ else a.den ρ
  | .mx a b => if b.den ρ > a.den ρ then b.den ρ else a.den ρ
  | .ap f a b => ρ.f f (a.den ρ) (b.den ρ)
def BE.den (ρ : EnvS) : BE → Bool
  | .lit b => b
  | .lt a b => decide (a.den ρ < b.den ρ)
  | .le a b => decide (a.den ρ ≤ b.den ρ)
  | .eq a b => a.den ρ == b.den ρ
  | .not a => !a.den ρ
  | .and a b => a.den ρ && b.den ρ

def IntKind.same : IntKind → IntKind → Bool
  | .i8, .i8 | .i16, .i16 | .i32, .i32 | .i64, .i64 | .u8, .u8 | .u16, .u16 | .u32, .u32 | .u64, .u64 => true
  | _, _ => false
def IE.same : IE → IE → Bool
  | .at i, .at j => i.beq j
  | .lit n, .lit m => decide (n = m)
  | .add a b, .add c d => a.same c && b.same d
  | .sub a b, .sub c d => a.same c && b.same d
  | .mul a b, .mul c d => a.same c && b.same d
  | .quo a b, .quo c d => a.same c && b.same d
  | .rem a b, .rem c d => a.same c && b.same d
  | .wr j a, .wr k c => IntKind.same j k && a.same c
  | .mn a b, .mn c d => a.same c && b.same d
  | .mx a b, .mx c d => a.same c && b.same d
  | .ap f a b, .ap g c d => f.beq g && (a.same c && b.same d)
  | _, _ => false
def BE.same : BE → BE → Bool
  | .lit a, .lit b => a == b
  | .lt a b, .lt c d => a.same c && b.same d
  | .le a b, .le c d => a.same c && b.same d
  | .eq a b, .eq c d => a.same c && b.same d
  | .not a, .not b => a.same b
  | .and a b, .and c d => a.same c && b.same d
  | _, _ => false

def IE.bin (f : Int → Int → Int) (g : IE → IE → IE) : IE → IE → IE
  | .lit a, .lit b => .lit (f a b)
  | a, b => g a b
/-- The sum at a kind: reckoned where both numbers are known. -/
def IE.wrap (k : IntKind) : IE → IE
  | .lit n => .lit (k.wrap n)
  | .wr j a => if IntKind.same j k then .wr j a else .wr k (.wr j a)
  | a => .wr k a
def BE.ltS : IE → IE → BE
  | .lit a, .lit b => .lit (decide (a < b))
  | a, b => if a.same b then .lit false else .lt a b
def BE.leS : IE → IE → BE
  | .lit a, .lit b => .lit (decide (a ≤ b))
  | a, b => if a.same b then .lit true else .le a b
def BE.eqS : IE → IE → BE
  | .lit a, .lit b => .lit (a == b)
  | a, b => if a.same b then .lit true else .eq a b
/-- Sums, differences and products: reckoned where both numbers are known, 0 and 1 left out. -/
def IE.addS : IE → IE → IE
  | .lit a, .lit b => .lit (a + b)
  | .lit a, b => if a = 0 then b else .add (.lit a) b
  | a, .lit b => if b = 0 then a else .add a (.lit b)
  | a, b => .add a b
def IE.subS : IE → IE → IE
  | .lit a, .lit b => .lit (a - b)
  | a, .lit b => if b = 0 then a else .sub a (.lit b)
  | a, b => .sub a b
def IE.mulS : IE → IE → IE
  | .lit a, .lit b => .lit (a * b)
  | .lit a, b => if a = 0 then .lit 0 else if a = 1 then b else .mul (.lit a) b
  | a, .lit b => if b = 0 then .lit 0 else if b = 1 then a else .mul a (.lit b)
  | a, b => .mul a b
def BE.notS : BE → BE
  | .lit b => .lit (!b)
  | .not a => a
  | a => .not a
def BE.andS : BE → BE → BE
  | .lit true, b => b
  | .lit false, _ => .lit false
  | a, .lit true => a
  | a, b => .and a b

/-- What is known on a way: conditions with their values. -/
abbrev PC := List (BE × Bool)
def PC.find (c : BE) : PC → Option Bool
  | [] => none
  | (d, v) :: r => if c.same d then some v else PC.find c r
def maxO : Option Int → Int → Option Int
  | none, x => some x
  | some y, x => some (if y < x then x else y)
def minO : Option Int → Int → Option Int
  | none, x => some x
  | some y, x => some (if x < y then x else y)
/-- Bounds of a number that stand among what is known. -/
def PC.bnd (e : IE) : PC → Option Int → Option Int → Option Int × Option Int
  | [], l, h => (l, h)
  | (c, v) :: r, l, h => match c with
    | .lt a (.lit n) => if a.same e then (if v then PC.bnd e r l (minO h (n - 1)) else PC.bnd e r (maxO l n) h) else PC.bnd e r l h
    | .lt (.lit n) a => if a.same e then (if v then PC.bnd e r (maxO l (n + 1)) h else PC.bnd e r l (minO h n)) else PC.bnd e r l h
    | .le a (.lit n) => if a.same e then (if v then PC.bnd e r l (minO h n) else PC.bnd e r (maxO l (n + 1)) h) else PC.bnd e r l h
    | .le (.lit n) a => if a.same e then (if v then PC.bnd e r (maxO l n) h else PC.bnd e r l (minO h (n - 1))) else PC.bnd e r l h
    | .eq a (.lit n) => if v && a.same e then PC.bnd e r (maxO l n) (minO h n) else PC.bnd e r l h
    | _ => PC.bnd e r l h
def minI (a b : Int) : Int := if b < a then b else a
def maxI (a b : Int) : Int := if a < b then b else a
/-- A range of a number. -/
def PC.rng0 (pc : PC) : IE → Option (Int × Int)
  | .lit n => some (n, n)
  | .at i => match PC.bnd (.at i) pc none none with
    | (some l, some h) => some (l, h)
    | _ => none
  | .ap _ _ _ => none
  | .add a b => match PC.rng0 pc a, PC.rng0 pc b with
    | some (l, h), some (m, k) => some (l + m, h + k)
    | _, _ => none
  | .sub a b => match PC.rng0 pc a, PC.rng0 pc b with
    | some (l, h), some (m, k) => some (l - k, h - m)
    | _, _ => none
  | .mul a b => match PC.rng0 pc a, PC.rng0 pc b with
    | some (l, h), some (m, k) => some (minI (minI (l * m) (l * k)) (minI (h * m) (h * k)), maxI (maxI (l * m) (l * k)) (maxI (h * m) (h * k)))
    | _, _ => none
  | .mn a b => match PC.rng0 pc a, PC.rng0 pc b with
    | some (l, h), some (m, k) => some (minI l m, minI h k)
    | _, _ => none
  | .mx a b => match PC.rng0 pc a, PC.rng0 pc b with
    | some (l, h), some (m, k) => some (maxI l m, maxI h k)
    | _, _ => none
  | .quo a _ => match PC.rng0 pc a with
    | some (l, h) => some (minI l (minI (-h) 0), maxI h (maxI (-l) 0))
    | none => none
  | .rem a _ => match PC.rng0 pc a with
    | some (l, h) => some (minI l (minI (-h) 0), maxI h (maxI (-l) 0))
    | none => none
  | .wr k _ => some (k.min, k.max)
/-- With what is known of the number itself. -/
def PC.rng (pc : PC) (e : IE) : Option Int × Option Int :=
  match PC.rng0 pc e with
  | some (l, h) => PC.bnd e pc (some l) (some h)
  | none => PC.bnd e pc none none
/-- A number at a kind: as it is, where its range says that it fits. -/
def IE.wrapP (pc : PC) (k : IntKind) (e : IE) : IE :=
  match PC.rng pc e with
  | (some l, some h) => if decide (k.min ≤ l) && decide (h ≤ k.max) then e else IE.wrap k e
  | _ => IE.wrap k e
def ltO : Option Int → Option Int → Bool
  | some x, some y => decide (x < y)
  | _, _ => false
def leO : Option Int → Option Int → Bool
  | some x, some y => decide (x ≤ y)
  | _, _ => false
def PC.decLt (pc : PC) (a b : IE) : Option Bool :=
  if ltO (PC.rng pc a).2 (PC.rng pc b).1 then some true
  else if leO (PC.rng pc b).2 (PC.rng pc a).1 then some false
  else none
def PC.dec0 (pc : PC) : BE → Option Bool
  | .lt a b => match pc.find (.lt a b) with
    | some v => some v
    | none => match pc.find (.lt b a) with
      | some true => some false
      | _ => match pc.find (.le b a) with
        | some v => some (!v)
        | none => match pc.find (.eq a b) with
          | some true => some false
          | _ => PC.decLt pc a b
  | .le a b => match pc.find (.le a b) with
    | some v => some v
    | none => match pc.find (.lt b a) with
      | some v => some (!v)
      | none => match pc.find (.lt a b) with
        | some true => some true
        | _ => (PC.decLt pc b a).map (!·)
  | .eq a b => match pc.find (.eq a b) with
    | some v => some v
    | none => match pc.find (.lt a b), pc.find (.lt b a) with
      | some true, _ => some false
      | _, some true => some false
      | some false, some false => some true
      | _, _ => match PC.decLt pc a b, PC.decLt pc b a with
        | some true, _ => some false
        | _, some true => some false
        | some false, some false => some true
        | _, _ => none
  | _ => none
/-- The value of a condition, as far as what is known decides it. -/
def PC.dec (pc : PC) : BE → Option Bool
  | .lit b => some b
  | .not a => (PC.dec pc a).map (!·)
  | .and a b => match PC.dec pc a with
    | some false => some false
    | some true => PC.dec pc b
    | none => match PC.dec pc b with
      | some false => some false
      | _ => none
  | c => PC.dec0 pc c

inductive T (α : Type) where
  | ret (a : α)
  | br (c : BE) (t e : T α)
  | bad (why : Nat)
def T.bind {α β : Type} : T α → (α → T β) → T β
  | .ret a, k => k a
  | .br c t e, k => .br c (t.bind k) (e.bind k)
  | .bad n, _ => .bad n
def T.pick {α : Type} (ρ : EnvS) : T α → Option α
  | .ret a => some a
  | .br c t e => if c.den ρ then t.pick ρ else e.pick ρ
  | .bad _ => none
/-- Part on a condition, unless what is known decides it: a conjunction limb by limb. -/
def T.condB {α : Type} : BE → PC → (PC → Bool → T α) → T α
  | .lit b, pc, k => k pc b
  | .not c, pc, k => T.condB c pc fun pc v => k pc (!v)
  | .and c d, pc, k => T.condB c pc fun pc v => if v then T.condB d pc k else k pc false
  | c, pc, k => match PC.dec0 pc c with
    | some v => k pc v
    | none => .br c (k ((c, true) :: pc) true) (k ((c, false) :: pc) false)
def T.cond {α : Type} (pc : PC) (b : BE) (k : PC → Bool → T α) : T α := T.condB b pc k

/-- One cell. -/
inductive SCl where
  | int (k : IntKind) (e : IE)
  | bool (b : BE)
  | ptr (id off : Nat)
  | slc (id off len cap : Nat)
  | raw (v : Value)
  deriving Inhabited
structure S1 where
  agg : Bool
  cs : List SCl
  deriving Inhabited
inductive SV where
  | one (c : SCl)
  | agg (cs : List SCl)
  | tup (vs : List S1)
  deriving Inhabited
def SCl.den (ρ : EnvS) (α : Nat → Nat) : SCl → Value
  | .int k e => .int k (e.den ρ)
  | .bool b => .bool (b.den ρ)
  | .ptr id off => .pointer (some ⟨α id, off, none⟩)
  | .slc id off len cap => .slice (some ⟨α id, off, none⟩) len cap
  | .raw v => v
def S1.den (ρ : EnvS) (α : Nat → Nat) (s : S1) : Value :=
  if s.agg then .agg (s.cs.map (SCl.den ρ α)).toArray else match s.cs with | c :: _ => c.den ρ α | [] => undef
def SV.den (ρ : EnvS) (α : Nat → Nat) : SV → Value
  | .one c => c.den ρ α
  | .agg cs => .agg (cs.map (SCl.den ρ α)).toArray
  | .tup vs => .tuple (vs.map (S1.den ρ α)).toArray
def S1.sv (s : S1) : Option SV := if s.agg then some (.agg s.cs) else match s.cs with | [c] => some (.one c) | _ => none
def SV.s1 : SV → Option S1
  | .one c => some ⟨false, [c]⟩
  | .agg cs => some ⟨true, cs⟩
  | .tup _ => none
def SCl.cellOk : SCl → Bool
  | .raw v => v.oneCell'
  | _ => true
def SV.cells : SV → Option (List SCl)
  | .one c => if c.cellOk then some [c] else none
  | .agg cs => some cs
  | .tup _ => none
def SCl.below (n : Nat) : SCl → Bool
  | .ptr id _ => id.blt n
  | .slc id _ _ _ => id.blt n
  | _ => true
def SV.below (n : Nat) : SV → Bool
  | .one c => c.below n
  | .agg cs => cs.all (·.below n)
  | .tup vs => vs.all fun s => s.cs.all (·.below n)
def cst1 : Value → Option SCl
  | .int k n => some (.int k (.lit n))
  | .bool b => some (.bool (.lit b))
  | .agg _ => none
  | .tuple _ => none
  | v => some (.raw v)
def cstL : List Value → Option (List SCl)
  | [] => some []
  | v :: vs => match cst1 v, cstL vs with
    | some c, some cs => some (c :: cs)
    | _, _ => none
def cst : Value → Option SV
  | .agg ⟨cs⟩ => (cstL cs).map .agg
  | .tuple ⟨[]⟩ => some (.tup [])
  | v => (cst1 v).map .one

/-- The temporaries that have been written, the last first. -/
abbrev Tm := List (Nat × SV)
def Tm.get (t : Nat) : Tm → Option SV
  | [] => none
  | (u, s) :: r => if u.beq t then some s else Tm.get t r
structure Blk where
  elem : TypeId
  cs : List SCl
  deriving Inhabited
abbrev Hp := List (Nat × Blk)
def Hp.get (id : Nat) : Hp → Option Blk
  | [] => none
  | (j, b) :: r => if j.beq id then some b else Hp.get id r
def ev (tm : Tm) : Operand → Option SV
  | .tmp t => tm.get t
  | .const v => cst v
  | .func f => some (.one (.raw (.func (.func f) #[] #[])))
  | .global _ => none
/-- What an operation does: nothing, a block has new cells, a new block. -/
inductive Eff where
  | nop
  | st (id : Nat) (cs : List SCl)
  | al (id : Nat) (elem : TypeId) (cs : List SCl)
  deriving Inhabited
def putL {β : Type} (cs : List β) (off : Nat) (vs : List β) : List β := cs.take off ++ vs ++ cs.drop (off + vs.length)
def Eff.app (h : Hp) : Eff → Hp
  | .nop => h
  | .st id cs => match h.get id with
    | some b => (id, ⟨b.elem, cs⟩) :: h
    | none => h
  | .al id elem cs => (id, ⟨elem, cs⟩) :: h

def isAggT (P : Program) (t : TypeId) : Option Bool :=
  match P.underlying t with
  | some (.struct _) => some true
  | some (.array _ _) => some true
  | some _ => some false
  | none => none
def sizeT (P : Program) (t : TypeId) : Option Nat := (P.info? t).map (·.size)
def zeroT (P : Program) (t : TypeId) : Option SV :=
  match P.info? t with
  | some i => match i.zero with
    | some z => cst z
    | none => none
  | none => none
/-- The value of type t that lies in the cells from 'off' on. -/
def partS (P : Program) (t : TypeId) (cs : List SCl) (off : Nat) : Option SV :=
  match isAggT P t, sizeT P t with
  | some true, some n => if (off + n).ble cs.length then some (.agg ((cs.drop off).take n)) else none
  | some false, some _ => (cs[off]?).map .one
  | _, _ => none
/-- 'place': the offset and the size of part number i. -/
def fillS (place : Nat → Option (Nat × Nat)) (cs : List SCl) : List (Nat × SV) → Option (List SCl)
  | [] => some cs
  | (i, v) :: r => match place i, v.cells with
    | some (off, size), some vs => if vs.length.beq size && (off + size).ble cs.length then fillS place (putL cs off vs) r else none
    | _, _ => none
def placesL (P : Program) : List Field → Option (List (Nat × Nat))
  | [] => some []
  | f :: fs => match sizeT P f.type, placesL P fs with
    | some n, some r => some ((f.offset, n) :: r)
    | _, _ => none
def evL (e : Operand → Option SV) : List Operand → Option (List SV)
  | [] => some []
  | x :: xs => match e x, evL e xs with
    | some v, some vs => some (v :: vs)
    | _, _ => none
def evP (e : Operand → Option SV) : List (Nat × Operand) → Option (List (Nat × SV))
  | [] => some []
  | (i, x) :: xs => match e x, evP e xs with
    | some v, some vs => some ((i, v) :: vs)
    | _, _ => none
/-- Equality of two cells ('true': integers, 'false': truth values). -/
def eqCell : Bool → SCl → SCl → Option BE
  | true, .int k a, .int l b => if IntKind.same k l then some (.eqS a b) else none
  | false, .bool (.lit true), .bool b => some b
  | false, .bool (.lit false), .bool b => some (.notS b)
  | false, .bool b, .bool (.lit true) => some b
  | false, .bool b, .bool (.lit false) => some (.notS b)
  | _, _, _ => none
def eqCells : List Bool → List SCl → List SCl → Option BE
  | [], [], [] => some (.lit true)
  | k :: ks, a :: as, b :: bs => match eqCell k a b, eqCells ks as bs with
    | some x, some y => some (.andS x y)
    | _, _ => none
  | _, _, _ => none
/-- All leaves of the type are integers or truth values, one cell each, in order; nothing that the model holds apart: which. -/
def flatF (P : Program) (rec : TypeId → Option (List Bool)) : List Field → Nat → Option (List Bool)
  | [], _ => some []
  | f :: r, n => match rec f.type with
    | some m => if f.offset.beq n && f.name != "_" then (flatF P rec r (n + m.length)).map (m ++ ·) else none
    | none => none
def flatT (P : Program) : Nat → TypeId → Option (List Bool)
  | 0, _ => none
  | d + 1, t => match P.underlying t with
    | some (.int _) => if sizeT P t == some 1 then some [true] else none
    | some .bool => if sizeT P t == some 1 then some [false] else none
    | some (.struct fs) =>
      if P.stoodInHeld t then none else
      match flatF P (flatT P d) fs.toList 0 with
      | some n => if sizeT P t == some n.length then some n else none
      | none => none
    | _ => none

def kindOf (P : Program) (t : TypeId) : Option IntKind := match P.underlying t with | some (.int k) => some k | _ => none

abbrev CallF := FuncId → List SV → Hp → Nat → PC → T (SV × PC)
/-- The blocks that are handed to a call: each holds plain data. -/
def argHp (h : Nat → Option Blk) : List Nat → Option Hp
  | [] => some []
  | id :: r => match h id, argHp h r with
    | some b, some hp => if b.cs.all (·.below 0) then some ((id, b) :: hp) else none
    | _, _ => none
abbrev Res := SV × Eff × PC
def SCl.id? : SCl → Option Nat
  | .ptr id _ => some id
  | .slc id _ _ _ => some id
  | _ => none
def SV.ids : SV → List Nat
  | .one c => [c].filterMap SCl.id?
  | .agg cs => cs.filterMap SCl.id?
  | .tup vs => vs.flatMap fun s => s.cs.filterMap SCl.id?
def callable (P : Program) (g : FuncId) : Bool := match P.funcs[g]? with | some fn => fn.name != "runtime.NumGoroutine" && fn.body.isSome | none => false
def val (pc : PC) (o : Option SV) : T Res := match o with | some v => .ret (v, .nop, pc) | none => .bad 1
def binI (pc : PC) (op : BinOp) (k : IntKind) (a b : IE) : Option SCl :=
  match op with
  | .add => some (.int k (.wrapP pc k (.addS a b)))
  | .sub => some (.int k (.wrapP pc k (.subS a b)))
  | .mul => some (.int k (.wrapP pc k (.mulS a b)))
  | .eql => some (.bool (.eqS a b))
  | .neq => some (.bool (.notS (.eqS a b)))
  | .lss => some (.bool (.ltS a b))
  | .leq => some (.bool (.leS a b))
  | .gtr => some (.bool (.ltS b a))
  | .geq => some (.bool (.leS b a))
  | _ => none
def mmS (f : IE → IE → IE) : IntKind → IE → List SV → Option SV
  | k, a, [] => some (.one (.int k a))
  | k, a, .one (.int _ b) :: r => mmS f k (f a b) r
  | _, _, _ => none
def mnS : IE → IE → IE := .bin (fun a b => if b < a then b else a) .mn
def mxS : IE → IE → IE := .bin (fun a b => if b > a then b else a) .mx
/-- One operation: what it yields and what it does to the blocks of the call's own; 'fresh': the name of the block that it makes, if it makes one. -/
def opE (P : Program) (call : CallF) (lo : Nat) (pc : PC) (e : Operand → Option SV) (h : Nat → Option Blk) (fresh : Nat) (o : Oper) : T Res :=
  match o.op with
  | .move x | .assign x => val pc (e x)
  | .pick c a b => match e c with
    | some (.one (.bool x)) => T.cond pc x fun pc v => val pc (e (if v then a else b))
    | _ => .bad 2
  | .alloc t => match zeroT P t with
    | some z => match z.cells with
      | some cs => .ret (.one (.ptr fresh 0), .al fresh t cs, pc)
      | none => .bad 3
    | none => .bad 3
  | .box t x => match e x with
    | some v => match v.cells with
      | some cs => .ret (.one (.ptr fresh 0), .al fresh t cs, pc)
      | none => .bad 4
    | none => .bad 4
  | .build t parts => match zeroT P t, evP e parts.toList, P.underlying t with
    | some (.agg z), some ps, some (.struct fs) => match placesL P fs.toList with
      | some pl => val pc ((fillS (fun i => pl[i]?) z ps).map .agg)
      | none => .bad 5
    | some (.agg z), some ps, some (.array _ el) => match sizeT P el with
      | some s => val pc ((fillS (fun i => some (i * s, s)) z ps).map .agg)
      | none => .bad 5
    | _, _, _ => .bad 5
  | .load t a => match e a with
    | some (.one (.ptr id off)) => match h id with
      | some b => val pc (partS P t b.cs off)
      | none => .bad 6
    | _ => .bad 6
  | .store t a x => match e a, e x, sizeT P t with
    | some (.one (.ptr id off)), some v, some n => match h id, v.cells with
      | some b, some cs => if cs.length.beq n && (off + n).ble b.cs.length && lo.ble id && cs.all SCl.cellOk then .ret (.tup [], .st id (putL b.cs off cs), pc) else .bad 7
      | _, _ => .bad 7
    | _, _, _ => .bad 7
  | .nilCheck x => match e x with
    | some (.one (.ptr id off)) => val pc (some (.one (.ptr id off)))
    | _ => .bad 8
  | .binOp op t x y _ => match e x, e y with
    | some (.one (.int k a)), some (.one (.int l b)) =>
      if IntKind.same k l then
        match op with
        | .quo => match b with
          | .lit n => if n = 0 then .bad 9 else val pc (some (.one (.int k (.wrapP pc k (.bin Int.tdiv .quo a (.lit n))))))
          | b => T.cond pc (.eqS b (.lit 0)) fun pc v => if v then .bad 10 else val pc (some (.one (.int k (.wrapP pc k (.quo a b)))))
        | .rem => match b with
          | .lit n => if n = 0 then .bad 9 else val pc (some (.one (.int k (.bin Int.tmod .rem a (.lit n)))))
          | b => T.cond pc (.eqS b (.lit 0)) fun pc v => if v then .bad 10 else val pc (some (.one (.int k (.rem a b))))
        | op => val pc ((binI pc op k a b).map .one)
      else .bad 11
    | some (.agg a), some (.agg b) => match flatT P 20 t, isAggT P t with
      | some n, some true => if n.length.beq a.length && !P.eqGuardType P.depth t then
          match op with
          | .eql => val pc ((eqCells n a b).map (fun c => .one (.bool c)))
          | .neq => val pc ((eqCells n a b).map (fun c => .one (.bool (.notS c))))
          | _ => .bad 12
        else .bad 12
      | _, _ => .bad 12
    | some (.one (.bool a)), some (.one (.bool b)) => match P.underlying t with
      | some .bool => match op with
        | .eql => T.cond pc a fun pc v => val pc (some (.one (.bool (if v then b else .notS b))))
        | .neq => T.cond pc a fun pc v => val pc (some (.one (.bool (if v then .notS b else b))))
        | _ => .bad 12
      | _ => .bad 12
    | _, _ => .bad 13
  | .unOp op _ x => match op, e x with
    | .neg, some (.one (.int k a)) => val pc (some (.one (.int k (.wrapP pc k (.subS (.lit 0) a)))))
    | .not, some (.one (.bool b)) => val pc (some (.one (.bool (.notS b))))
    | _, _ => .bad 14
  | .convert s d x => match P.underlying s, P.underlying d, e x with
    | some _, some (.int k), some (.one (.int _ a)) => val pc (some (.one (.int k (.wrapP pc k a))))
    | _, _, _ => .bad 15
  | .fieldAddr s x f => match P.underlying s, e x with
    | some (.struct fs), some (.one (.ptr id off)) => match fs[f]? with
      | some g => match sizeT P g.type with
        | some n => if n.beq 0 then .bad 16 else val pc (some (.one (.ptr id (off + g.offset))))
        | none => .bad 16
      | none => .bad 16
    | _, _ => .bad 16
  | .field t x f => match P.underlying t, e x with
    | some (.struct fs), some (.agg cs) => match fs[f]? with
      | some g => val pc (partS P g.type cs g.offset)
      | none => .bad 17
    | _, _ => .bad 17
  | .indexAddr t x i => match P.underlying t, e x, e i with
    | some (.array len el), some (.one (.ptr id off)), some (.one (.int _ (.lit n))) => match sizeT P el with
      | some s => if decide (0 ≤ n) && decide (n < len) then val pc (some (.one (.ptr id (off + n.toNat * s)))) else .bad 18
      | none => .bad 18
    | some (.slice el), some (.one (.slc id off len _)), some (.one (.int _ (.lit n))) => match sizeT P el with
      | some s => if decide (0 ≤ n) && decide (n < len) then val pc (some (.one (.ptr id (off + n.toNat * s)))) else .bad 18
      | none => .bad 18
    | _, _, _ => .bad 18
  | .index t x i => match P.underlying t, e x, e i with
    | some (.array len el), some (.agg cs), some (.one (.int _ (.lit n))) => match sizeT P el with
      | some s => if decide (0 ≤ n) && decide (n < len) then val pc (partS P el cs (n.toNat * s)) else .bad 19
      | none => .bad 19
    | _, _, _ => .bad 19
  | .extract x i => match e x with
    | some (.tup vs) => match vs[i]? with
      | some s => val pc s.sv
      | none => .bad 20
    | _ => .bad 20
  | .buildSlice t len parts => match P.underlying t, evP e parts.toList with
    | some (.slice el), some ps => match sizeT P el, zeroT P el with
      | some s, some z => match z.cells with
        | some zs => if (zs.length.beq s) && (0).blt s && (0).blt len && (len * s).ble 1000 then
            match fillS (fun i => some (i * s, s)) ((List.range (len * s)).map fun i => zs.getD (i % s) (.raw undef)) ps with
            | some cs => .ret (.one (.slc fresh 0 len len), .al fresh el cs, pc)
            | none => .bad 21
          else .bad 21
        | none => .bad 21
      | _, _ => .bad 21
    | _, _ => .bad 21
  | .call c => match c.callee with
    | .builtin .len => match c.args.toList, c.argTypes.toList with
      | [x], t :: _ => match P.underlying t, e x with
        | some (.slice _), some (.one (.slc _ _ n _)) => val pc (some (.one (.int .i64 (.lit n))))
        | some (.array n _), some _ => val pc (some (.one (.int .i64 (.lit n))))
        | _, _ => .bad 22
      | _, _ => .bad 22
    | .builtin .min => match evL e c.args.toList with
      | some (.one (.int k a) :: r) => val pc (mmS mnS k a r)
      | _ => .bad 23
    | .builtin .max => match evL e c.args.toList with
      | some (.one (.int k a) :: r) => val pc (mmS mxS k a r)
      | _ => .bad 23
    | .value f => match e f, evL e c.args.toList with
      | some (.one (.raw (.func (.func g) ⟨[]⟩ ⟨[]⟩))), some args =>
        if args.all (·.below fresh) && callable P g then
          match argHp h (args.flatMap SV.ids) with
          | some hp => (call g args hp fresh pc).bind fun (v, pc) => if v.below 0 then .ret (v, .nop, pc) else .bad 24
          | none => .bad 25
        else .bad 25
      | _, _ => .bad 26
    | _ => .bad 27
  | _ => .bad 28

/-- Is the operation wanted: its guard. -/
def guardE {α : Type} (ops : Array Oper) (tm : Tm) (pc : PC) (o : Oper) (k : PC → Bool → T α) : T α :=
  match o.guard with
  | none => k pc true
  | some (j, want) => match (ops[j]?).bind (·.dst) with
    | none => .bad 30
    | some t => match tm.get t with
      | some (.one (.bool b)) => T.cond pc b fun pc v => k pc (v == want)
      | some (.tup _) => k pc false
      | _ => .bad 31
def Tm.put (tm : Tm) (d : Option Tmp) (v : SV) : Tm := match d with | some t => (t, v) :: tm | none => tm
/-- What one operation of a region came to: its value, what it did, the block that it looked into. -/
structure Rr where
  v : SV
  f : Eff
  tch : List Nat
  deriving Inhabited
def touch (e : Operand → Option SV) (o : Oper) : List Nat :=
  match o.op with
  | .load _ a | .store _ a _ => match e a with
    | some (.one (.ptr id _)) => [id]
    | _ => []
  | .call c => match c.callee with
    | .value _ => match evL e c.args.toList with
      | some args => args.flatMap SV.ids
      | none => []
    | _ => []
  | _ => []
def Tm.below (n : Nat) : Tm → Bool
  | [] => true
  | (_, s) :: r => s.below n && Tm.below n r
def Hp.below (n : Nat) : Hp → Bool
  | [] => true
  | (j, b) :: r => j.blt n && b.cs.all (·.below n) && Hp.below n r
/-- All names are below n. -/
def Hp.low (n : Nat) : Hp → Bool
  | [] => true
  | (j, _) :: r => j.blt n && Hp.low n r
/-- A new block's name is told nowhere yet. -/
def Eff.fits (n : Nat) (tm : Tm) (h : Hp) : Eff → Bool
  | .al _ _ cs => Tm.below n tm && Hp.below n h && cs.all (·.below n)
  | _ => true
/-- The operations of a region in their written order, from number i on. -/
def seqE (P : Program) (call : CallF) (lo : Nat) (ops : Array Oper) (base : Nat) : List Oper → Nat → PC → Tm → Hp → List Rr → T (PC × Tm × Hp × List Rr)
  | [], _, pc, tm, h, acc => .ret (pc, tm, h, acc.reverse)
  | o :: r, i, pc, tm, h, acc => guardE ops tm pc o fun pc w =>
    if w then (opE P call lo pc (ev tm) (fun id => h.get id) (base + i) o).bind fun (v, f, pc) =>
      if f.fits (base + i) tm h then seqE P call lo ops base r (i + 1) pc (tm.put o.dst v) (f.app h) (⟨v, f, touch (ev tm) o⟩ :: acc) else .bad 42
    else seqE P call lo ops base r (i + 1) pc (tm.put o.dst (.tup [])) h (⟨.tup [], .nop, []⟩ :: acc)
def Eff.ids : Eff → List Nat
  | .nop => []
  | .st _ cs => cs.filterMap SCl.id?
  | .al _ _ cs => cs.filterMap SCl.id?
def Eff.wr : Eff → Option Nat
  | .nop => none
  | .st id _ => some id
  | .al id _ _ => some id
def ancOf (acc : List Nat) (o : Oper) : Nat :=
  o.after.toList.foldl (fun s e => if Region.binds .any e then s ||| (2 ^ e.on ||| acc.getD e.on 0) else s) 0
def ancs : List Oper → List Nat → List Nat
  | [], acc => acc
  | o :: r, acc => ancs r (acc ++ [ancOf acc o])
def looks (ops : Array Oper) (o : Oper) : List Nat := o.looksAt ops
def sameO (a b : Option Nat) : Bool := match a, b with | some x, some y => x.beq y | _, _ => false
def inO (a : Option Nat) (l : List Nat) : Bool := match a with | some x => l.any (·.beq x) | none => false
/-- Two operations of a region that may not change places. -/
def clash (ops : Array Oper) (a b : Oper × Rr) : Bool :=
  inO a.1.dst (looks ops b.1) || inO b.1.dst (looks ops a.1) || sameO a.1.dst b.1.dst ||
  inO a.2.f.wr b.2.tch || inO b.2.f.wr a.2.tch || sameO a.2.f.wr b.2.f.wr
/-- Against what stands in front of it (numbers k, k + 1, ..). -/
def clear1 (ops : Array Oper) (m : Nat) (x : Oper × Rr) : List (Oper × Rr) → Nat → Bool
  | [], _ => true
  | y :: r, k => (m.testBit k || !clash ops y x) && clear1 ops m x r (k + 1)
/-- All operations: what is in front (in order), what is still to come. -/
def clearAll (ops : Array Oper) (base : Nat) : List (Oper × Rr) → List (Oper × Rr) → List Nat → Nat → Bool
  | _, [], _, _ => true
  | pre, x :: r, m :: ms, i =>
    clear1 ops m x pre 0 &&
    x.2.v.ids.all (fun id => id.blt base || id.beq (base + i) || (base.ble id && m.testBit (id - base))) &&
    x.2.f.ids.all (fun id => id.blt base || (base.ble id && m.testBit (id - base))) &&
    x.1.after.toList.all (fun e => !Region.binds .any e || e.on.blt i) &&
    clearAll ops base (pre ++ [x]) r ms (i + 1)
  | _, _ :: _, [], _ => false
def anyOk (ops : Array Oper) (base : Nat) (rs : List Rr) : Bool :=
  rs.length.beq ops.size && clearAll ops base [] (ops.toList.zip rs) (ancs ops.toList []) 0
structure St where
  pc : PC
  tm : Tm
  h : Hp
  next : Nat
  deriving Inhabited
inductive SXt where
  | norm
  | ex (id : Nat)
  | ret
  deriving Inhabited
def dstOk (nt : Nat) (ops : Array Oper) : Bool := ops.toList.all fun o => match o.dst with | some d => d.blt nt | none => true
def regE (P : Program) (call : CallF) (lo nt : Nat) (ops : Array Oper) (draw : Bool) (s : St) : T St :=
  if Hp.low s.next s.h && (!draw || (Tm.below s.next s.tm && Hp.below s.next s.h)) && dstOk nt ops then
    (seqE P call lo ops s.next ops.toList 0 s.pc s.tm s.h []).bind fun (pc, tm, h, rs) =>
      if (!draw || anyOk ops s.next rs) then .ret ⟨pc, tm, h, s.next + ops.size⟩ else .bad 40
  else .bad 41
def exec (P : Program) (call : CallF) (lo nt : Nat) : Nat → Code → St → T (SXt × St)
  | 0, _, _ => .bad 50
  | n + 1, c, s => match c with
    | .skip => .ret (.norm, s)
    | .label _ => .ret (.norm, s)
    | .region _ ops draw => (regE P call lo nt ops draw s).bind fun s => .ret (.norm, s)
    | .seq a b => (exec P call lo nt n a s).bind fun (x, s) => match x with
      | .norm => exec P call lo nt n b s
      | x => .ret (x, s)
    | .cond c a b => match ev s.tm c with
      | some (.one (.bool x)) => T.cond s.pc x fun pc v => exec P call lo nt n (if v then a else b) ⟨pc, s.tm, s.h, s.next⟩
      | _ => .bad 51
    | .block id body => (exec P call lo nt n body s).bind fun (x, s) => match x with
      | .ex j => if j.beq id then .ret (.norm, s) else .ret (.ex j, s)
      | x => .ret (x, s)
    | .loop body => (exec P call lo nt n body s).bind fun (x, s) => match x with
      | .norm => exec P call lo nt n (.loop body) s
      | x => .ret (x, s)
    | .exit id => .ret (.ex id, s)
    | .ret => .ret (.ret, s)
    | _ => .bad 52
def resV (P : Program) (tm : Tm) (h : Hp) : ResultVar → Option SV
  | .tmp t => tm.get t
  | .cell a t => match tm.get a with
    | some (.one (.ptr id off)) => match h.get id with
      | some b => partS P t b.cs off
      | none => none
    | _ => none
def resL (P : Program) (tm : Tm) (h : Hp) : List ResultVar → Option (List SV)
  | [] => some []
  | r :: rs => match resV P tm h r, resL P tm h rs with
    | some v, some vs => some (v :: vs)
    | _, _ => none
def s1L : List SV → Option (List S1)
  | [] => some []
  | v :: vs => match v.s1, s1L vs with
    | some s, some ss => some (s :: ss)
    | _, _ => none
def resE (P : Program) (fn : Func) (s : St) : Option SV :=
  match resL P s.tm s.h fn.results.toList with
  | some [v] => some v
  | some vs => (s1L vs).map .tup
  | none => none
def tmU : Nat → Nat → Tm
  | _, 0 => []
  | i, k + 1 => (i, .tup []) :: tmU (i + 1) k
def tm0 : List SV → Nat → Nat → Tm
  | [], i, k => tmU i k
  | v :: vs, i, k => (i, v) :: tm0 vs (i + 1) (k - 1)
def SCl.same : SCl → SCl → Bool
  | .int k a, .int l b => IntKind.same k l && a.same b
  | .bool a, .bool b => a.same b
  | _, _ => false
def sameL : List SCl → List SCl → Bool
  | [], [] => true
  | a :: r, b :: s => a.same b && sameL r s
  | _, _ => false
def SV.same : SV → SV → Bool
  | .one a, .one b => a.same b
  | .agg a, .agg b => sameL a b
  | _, _ => false
def sameVs : List SV → List SV → Bool
  | [], [] => true
  | a :: r, b :: s => a.same b && sameVs r s
  | _, _ => false
/-- What is known of calls: a function, its arguments, what it hands back. -/
abbrev Con := List (FuncId × List SV × SV)
def Con.find (f : FuncId) (args : List SV) : Con → Option SV
  | [] => none
  | (g, as, v) :: r => if g.beq f && sameVs as args then some v else Con.find f args r
/-- A function that is called by value: by what is known of it, else its body. -/
def callE (P : Program) (con : Con) (fuel : Nat) : Nat → CallF
  | 0, _, _, _, _, _ => .bad 60
  | d + 1, f, args, hp, nx, pc => match con.find f args with
    | some v => .ret (v, pc)
    | none => match P.funcs[f]? with
      | none => .bad 61
      | some fn => match fn.body with
        | none => .bad 62
        | some c =>
          if args.length.ble fn.ntmps then
            (exec P (callE P con fuel d) nx fn.ntmps fuel c ⟨pc, tm0 args 0 fn.ntmps, hp, nx⟩).bind fun (x, s) => match x with
              | .ex _ => .bad 63
              | _ => match resE P fn s with
                | some v => .ret (v, s.pc)
                | none => .bad 64
          else .bad 65
def T.isTrue : T SV → Bool
  | .ret (.one (.bool (.lit true))) => true
  | _ => false
/-- Where both ways come to 'true' the condition is left out. -/
def T.prune : T SV → T SV
  | .br c t e => match T.prune t, T.prune e with
    | t', e' => if t'.isTrue && e'.isTrue then .ret (.one (.bool (.lit true))) else .br c t' e'
  | t => t
/-- The tree of a call: what it hands back, by cases; 'pc': what is known ahead. -/
def tree (P : Program) (con : Con) (pc : PC) (fuel d : Nat) (f : FuncId) (args : List SV) : T SV :=
  (callE P con fuel d f args [] 0 pc).bind fun (v, _) => if v.below 0 then .ret v else .bad 66
/-- The same for a call that hands back a truth value: parted until it is known. -/
def treeB (P : Program) (con : Con) (pc : PC) (fuel d : Nat) (f : FuncId) (args : List SV) : T SV :=
  ((callE P con fuel d f args [] 0 pc).bind fun (v, pc) => match v with
    | .one (.bool b) => T.cond pc b fun _ r => .ret (.one (.bool (.lit r)))
    | _ => .bad 67).prune
end Go.Proofs.YtinnlahmlepeeaaDoor
