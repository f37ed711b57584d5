/- A symbolic executor (its definitions): integers and truth values as expressions; blocks, closures and loops of the call's own by name; calls with what they do to blocks; what it yields is a tree of cases. -/
import Derived.WalkKit
import Derived.ProofKit
import Derived.Below
namespace Go.Proofs.Ytmpadjlplgajcaa
open Go.RowKit
noncomputable section

/-- Expressions over integers that are not known. -/
inductive IE where
  | at (i : Nat)
  | lit (n : Int)
  | add (a b : IE)
  | sub (a b : IE)
  | mul (a b : IE)
  | quo (a b : IE)
  | rem (a b : IE)
  | wr (k : IntKind) (a : IE)
  | mn (a b : IE)
  | mx (a b : IE)
  | ap (f : Nat) (a b : IE)
  | fx (f : Nat) (a b : IE)
  deriving Inhabited
inductive BE where
  | lit (b : Bool)
  | lt (a b : IE)
  | le (a b : IE)
  | eq (a b : IE)
  | not (a : BE)
  | and (a b : BE)
  deriving Inhabited

/-! Strings as numbers: one for each. -/
def decN (f : Nat) : Nat → List Nat := Nat.rec (motive := fun _ => Nat → List Nat) (fun _ => []) (fun _ ih n => cond (n.beq 0) [] (((n - 1) % 256) :: ih ((n - 1) / 256))) f
def encN : List Nat → Nat
  | [] => 0
  | b :: r => 1 + b + 256 * encN r
def zz : Int → Nat
  | .ofNat n => 2 * n
  | .negSucc n => 2 * n + 1
def unzz (m : Nat) : Int := cond ((m % 2).beq 0) (.ofNat (m / 2)) (.negSucc (m / 2))
/-- The bytes of string number a. -/
def strN (a : Int) : List Nat := decN (Nat.log2 (zz a) + 1) (zz a)
def codeN (l : List Nat) : Int := unzz (encN l)
def strB (a : Int) : ByteArray := ⟨((strN a).map UInt8.ofNat).toArray⟩
def codeB (s : ByteArray) : Int := codeN (s.data.toList.map UInt8.toNat)
def ltN : List Nat → List Nat → Bool
  | [], [] => false
  | [], _ :: _ => true
  | _ :: _, [] => false
  | a :: r, b :: s => if a.blt b then true else if b.blt a then false else ltN r s
/-- Functions of strings: how long; a byte; is the one before the other? -/
def fixF (f : Nat) (a b : Int) : Int := match f with
  | 0 => ((strN a).length : Nat)
  | 1 => (((strN a)[b.toNat]?).getD 0 : Nat)
  | 2 => if ltN (strN a) (strN b) then 1 else 0
  | _ => 0
structure EnvS where
  v : Nat → Int
  f : Nat → Int → Int → Int
  g : Nat → Int → Int → Value
  a : Nat → Nat
  o : Nat → Nat
  p : Nat → Option Addr
  c : Nat → Nat
/-- Number i is j. -/
def EnvS.upd (ρ : EnvS) (i : Nat) (j : Int) : EnvS := { ρ with v := fun k => if k = i then j else ρ.v k }
def IE.den (ρ : EnvS) : IE → Int
  | .at i => ρ.v i
  | .lit n => n
  | .add a b => a.den ρ + b.den ρ
  | .sub a b => a.den ρ - b.den ρ
  | .mul a b => a.den ρ * b.den ρ
  | .quo a b => (a.den ρ).tdiv (b.den ρ)
  | .rem a b => (a.den ρ).tmod (b.den ρ)
  | .wr k a => k.wrap (a.den ρ)
  | .mn a b => if b.den ρ < a.den ρ then b.den ρ else a.den ρ
  | .mx a b => if b.den ρ > a.den ρ then b.den ρ else a.den ρ
  | .ap f a b => ρ.f f (a.den ρ) (b.den ρ)
  | .fx f a b => fixF f (a.den ρ) (b.den ρ)
def BE.den (ρ : EnvS) : BE → Bool
  | .lit b => b
  | .lt a b => decide (a.den ρ < b.den ρ)
  | .le a b => decide (a.den ρ ≤ b.den ρ)
  | .eq a b => a.den ρ == b.den ρ
  | .not a => !a.den ρ
  | .and a b => a.den ρ && b.den ρ

def IntKind.same : IntKind → IntKind → Bool
  | .i8, .i8 | .i16, .i16 | .i32, .i32 | .i64, .i64 | .u8, .u8 | .u16, .u16 | .u32, .u32 | .u64, .u64 => true
  | _, _ => false
def IE.same : IE → IE → Bool
  | .at i, .at j => i.beq j
  | .lit n, .lit m => decide (n = m)
  | .add a b, .add c d => a.same c && b.same d
  | .sub a b, .sub c d => a.same c && b.same d
  | .mul a b, .mul c d => a.same c && b.same d
  | .quo a b, .quo c d => a.same c && b.same d
  | .rem a b, .rem c d => a.same c && b.same d
  | .wr j a, .wr k c => IntKind.same j k && a.same c
  | .mn a b, .mn c d => a.same c && b.same d
  | .mx a b, .mx c d => a.same c && b.same d
  | .ap f a b, .ap g c d => f.beq g && (a.same c && b.same d)
  | .fx f a b, .fx g c d => f.beq g && (a.same c && b.same d)
  | _, _ => false
def BE.same : BE → BE → Bool
  | .lit a, .lit b => a == b
  | .lt a b, .lt c d => a.same c && b.same d
  | .le a b, .le c d => a.same c && b.same d
  | .eq a b, .eq c d => a.same c && b.same d
  | .not a, .not b => a.same b
  | .and a b, .and c d => a.same c && b.same d
  | _, _ => false

def IE.bin (f : Int → Int → Int) (g : IE → IE → IE) : IE → IE → IE
  | .lit a, .lit b => .lit (f a b)
  | a, b => g a b
/-- The sum at a kind: reckoned where both numbers are known. -/
def IE.wrap (k : IntKind) : IE → IE
  | .lit n => .lit (k.wrap n)
  | .wr j a => if IntKind.same j k then .wr j a else .wr k (.wr j a)
  | a => .wr k a
def BE.ltS : IE → IE → BE
  | .lit a, .lit b => .lit (decide (a < b))
  | a, b => if a.same b then .lit false else .lt a b
def BE.leS : IE → IE → BE
  | .lit a, .lit b => .lit (decide (a ≤ b))
  | a, b => if a.same b then .lit true else .le a b
def BE.eqS : IE → IE → BE
  | .lit a, .lit b => .lit (a == b)
  | a, b => if a.same b then .lit true else .eq a b
/-- Sums, differences and products: reckoned where both numbers are known, 0 and 1 left out. -/
def IE.addS : IE → IE → IE
  | .lit a, .lit b => .lit (a + b)
  | .lit a, b => if a = 0 then b else .add (.lit a) b
  | a, .lit b => if b = 0 then a else .add a (.lit b)
  | a, b => .add a b
def IE.subS : IE → IE → IE
  | .lit a, .lit b => .lit (a - b)
  | a, .lit b => if b = 0 then a else .sub a (.lit b)
  | a, b => .sub a b
def IE.mulS : IE → IE → IE
  | .lit a, .lit b => .lit (a * b)
  | .lit a, b => if a = 0 then .lit 0 else if a = 1 then b else .mul (.lit a) b
  | a, .lit b => if b = 0 then .lit 0 else if b = 1 then a else .mul a (.lit b)
  | a, b => .mul a b
def IE.fxS (f : Nat) : IE → IE → IE := .bin (fixF f) (.fx f)
def BE.notS : BE → BE
  | .lit b => .lit (!b)
  | .not a => a
  | a => .not a
def BE.andS : BE → BE → BE
  | .lit true, b => b
  | .lit false, _ => .lit false
  | a, .lit true => a
  | a, b => .and a b

/-- What is known on a way: conditions with their values. -/
abbrev PC := List (BE × Bool)
def PC.find (c : BE) : PC → Option Bool
  | [] => none
  | (d, v) :: r => if c.same d then some v else PC.find c r
def maxO : Option Int → Int → Option Int
  | none, x => some x
  | some y, x => some (if y < x then x else y)
def minO : Option Int → Int → Option Int
  | none, x => some x
  | some y, x => some (if x < y then x else y)
/-- Bounds of a number that stand among what is known. -/
def PC.bnd (e : IE) : PC → Option Int → Option Int → Option Int × Option Int
  | [], l, h => (l, h)
  | (c, v) :: r, l, h => match c with
    | .lt a (.lit n) => if a.same e then (if v then PC.bnd e r l (minO h (n - 1)) else PC.bnd e r (maxO l n) h) else PC.bnd e r l h
    | .lt (.lit n) a => if a.same e then (if v then PC.bnd e r (maxO l (n + 1)) h else PC.bnd e r l (minO h n)) else PC.bnd e r l h
    | .le a (.lit n) => if a.same e then (if v then PC.bnd e r l (minO h n) else PC.bnd e r (maxO l (n + 1)) h) else PC.bnd e r l h
    | .le (.lit n) a => if a.same e then (if v then PC.bnd e r (maxO l n) h else PC.bnd e r l (minO h (n - 1))) else PC.bnd e r l h
    | .eq a (.lit n) => if v && a.same e then PC.bnd e r (maxO l n) (minO h n) else PC.bnd e r l h
    | _ => PC.bnd e r l h
def minI (a b : Int) : Int := if b < a then b else a
def maxI (a b : Int) : Int := if a < b then b else a
/-- A range of a number. -/
def PC.rng0 (pc : PC) : IE → Option (Int × Int)
  | .lit n => some (n, n)
  | .at i => match PC.bnd (.at i) pc none none with
    | (some l, some h) => some (l, h)
    | _ => none
  | .ap f a b => match PC.bnd (.ap f a b) pc none none with
    | (some l, some h) => some (l, h)
    | _ => none
  | .fx f a b => match PC.bnd (.fx f a b) pc none none with
    | (some l, some h) => some (l, h)
    | _ => none
  | .add a b => match PC.rng0 pc a, PC.rng0 pc b with
    | some (l, h), some (m, k) => some (l + m, h + k)
    | _, _ => none
  | .sub a b => match PC.rng0 pc a, PC.rng0 pc b with
    | some (l, h), some (m, k) => some (l - k, h - m)
    | _, _ => none
  | .mul a b => match PC.rng0 pc a, PC.rng0 pc b with
    | some (l, h), some (m, k) => some (minI (minI (l * m) (l * k)) (minI (h * m) (h * k)), maxI (maxI (l * m) (l * k)) (maxI (h * m) (h * k)))
    | _, _ => none
  | .mn a b => match PC.rng0 pc a, PC.rng0 pc b with
    | some (l, h), some (m, k) => some (minI l m, minI h k)
    | _, _ => none
  | .mx a b => match PC.rng0 pc a, PC.rng0 pc b with
    | some (l, h), some (m, k) => some (maxI l m, maxI h k)
    | _, _ => none
  | .quo a _ => match PC.rng0 pc a with
    | some (l, h) => some (minI l (minI (-h) 0), maxI h (maxI (-l) 0))
    | none => none
  | .rem a _ => match PC.rng0 pc a with
    | some (l, h) => some (minI l (minI (-h) 0), maxI h (maxI (-l) 0))
    | none => none
  | .wr k _ => some (k.min, k.max)
/-- With what is known of the number itself. -/
def PC.rng (pc : PC) (e : IE) : Option Int × Option Int :=
  match PC.rng0 pc e with
  | some (l, h) => PC.bnd e pc (some l) (some h)
  | none => PC.bnd e pc none none
/-- A number at a kind: as it is, where its range says that it fits. -/
def IE.wrapP (pc : PC) (k : IntKind) (e : IE) : IE :=
  match e with
  | .lit n => .lit (k.wrap n)
  | e => match PC.rng pc e with
  | (some l, some h) => if decide (k.min ≤ l) && decide (h ≤ k.max) then e else IE.wrap k e
  | _ => IE.wrap k e
def ltO : Option Int → Option Int → Bool
  | some x, some y => decide (x < y)
  | _, _ => false
def leO : Option Int → Option Int → Bool
  | some x, some y => decide (x ≤ y)
  | _, _ => false
def PC.decLt (pc : PC) (a b : IE) : Option Bool :=
  if ltO (PC.rng pc a).2 (PC.rng pc b).1 then some true
  else if leO (PC.rng pc b).2 (PC.rng pc a).1 then some false
  else none
def PC.dec0 (pc : PC) : BE → Option Bool
  | .lt a b => match pc.find (.lt a b) with
    | some v => some v
    | none => match pc.find (.lt b a) with
      | some true => some false
      | _ => match pc.find (.le b a) with
        | some v => some (!v)
        | none => match pc.find (.eq a b) with
          | some true => some false
          | _ => PC.decLt pc a b
  | .le a b => match pc.find (.le a b) with
    | some v => some v
    | none => match pc.find (.lt b a) with
      | some v => some (!v)
      | none => match pc.find (.lt a b) with
        | some true => some true
        | _ => (PC.decLt pc b a).map (!·)
  | .eq a b => match pc.find (.eq a b) with
    | some v => some v
    | none => match pc.find (.lt a b), pc.find (.lt b a) with
      | some true, _ => some false
      | _, some true => some false
      | some false, some false => some true
      | _, _ => match PC.decLt pc a b, PC.decLt pc b a with
        | some true, _ => some false
        | _, some true => some false
        | some false, some false => some true
        | _, _ => none
  | _ => none
/-- The value of a condition, as far as what is known decides it. -/
def PC.dec (pc : PC) : BE → Option Bool
  | .lit b => some b
  | .not a => (PC.dec pc a).map (!·)
  | .and a b => match PC.dec pc a with
    | some false => some false
    | some true => PC.dec pc b
    | none => match PC.dec pc b with
      | some false => some false
      | _ => none
  | c => PC.dec0 pc c

inductive T (α : Type) where
  | ret (a : α)
  | br (c : BE) (t e : T α)
  | bad (why : Nat)
def T.bind {α β : Type} (t : T α) (k : α → T β) : T β := T.rec (motive := fun _ => T β) k (fun c _ _ x y => .br c x y) (fun n => .bad n) t
def T.all {α : Type} (p : α → Bool) : T α → Bool
  | .ret a => p a
  | .br _ t e => t.all p && e.all p
  | .bad _ => false
def T.pick {α : Type} (ρ : EnvS) : T α → Option α
  | .ret a => some a
  | .br c t e => if c.den ρ then t.pick ρ else e.pick ρ
  | .bad _ => none
/-- Part on a condition, unless what is known decides it: a conjunction limb by limb. -/
def T.condB {α : Type} : BE → PC → (PC → Bool → T α) → T α
  | .lit b, pc, k => k pc b
  | .not c, pc, k => T.condB c pc fun pc v => k pc (!v)
  | .and c d, pc, k => T.condB c pc fun pc v => if v then T.condB d pc k else k pc false
  | c, pc, k => match PC.dec0 pc c with
    | some v => k pc v
    | none => .br c (k ((c, true) :: pc) true) (k ((c, false) :: pc) false)
def T.cond {α : Type} (pc : PC) (b : BE) (k : PC → Bool → T α) : T α := match b with
  | .lit v => k pc v
  | b => T.condB b pc k

/-- What a name stands for: a block; how many elements more a grown slice has room for than is known; the value of a function. -/
structure Pl where
  blk : Nat
  ext : Nat
  fn : Fn
  caps : Array Value
  deriving Inhabited
/-- What a cell of a list's element is. -/
inductive CK where
  | int (k : IntKind)
  | bool
  | opq
  | str
  deriving Inhabited
/-- A list that came in: its number, its length's number, its elements' type, their cells. -/
structure LD where
  i : Nat
  n : Nat
  elem : TypeId
  ks : List CK
  deriving Inhabited
def CK.same : CK → CK → Bool
  | .int k, .int l => IntKind.same k l
  | .bool, .bool => true
  | .opq, .opq => true
  | .str, .str => true
  | _, _ => false
def sameK : List CK → List CK → Bool
  | [], [] => true
  | a :: r, b :: s => a.same b && sameK r s
  | _, _ => false
def LD.same (L M : LD) : Bool := L.i.beq M.i && (L.n.beq M.n && (Nat.beq L.elem M.elem && sameK L.ks M.ks))
def hasL (ls : List LD) (L : LD) : Bool := ls.any (·.same L)
def one1 (v : Value) : Value := if v.oneCell' then v else .bool false
/-- One cell. -/
inductive SCl where
  | ssl (L : LD)
  | ept (L : LD) (j : IE) (c : Nat)
  | opq (i : Nat) (j : IE) (c : Nat)
  | int (k : IntKind) (e : IE)
  | bool (b : BE)
  | ptr (id off : Nat)
  | slc (id off len cap : Nat) (x : Bool)
  | nm (id : Nat)
  | raw (v : Value)
  | str (e : IE)
  | bls (id : Nat) (n : IE)
  | bpt (id z : Nat) (j : IE) (c : Nat)
  | empL (L : LD)
  | empB (id : Nat)
  | blc (k : Nat) (elem : TypeId) (i : Nat) (h : Option IE) (n : IE) (ks : List CK)
  deriving Inhabited
structure S1 where
  agg : Bool
  cs : List SCl
  deriving Inhabited
inductive SV where
  | one (c : SCl)
  | agg (cs : List SCl)
  | tup (vs : List S1)
  deriving Inhabited
def CK.cell (L : LD) (j : IE) (c : Nat) : CK → SCl
  | .int k => .int k (.ap L.i j (.lit c))
  | .bool => .bool (.eq (.ap L.i j (.lit c)) (.lit 1))
  | .opq => .opq L.i j c
  | .str => .str (.ap L.i j (.lit c))
def cellsFrom (L : LD) (j : IE) : Nat → List CK → List SCl
  | _, [] => []
  | c, k :: r => k.cell L j c :: cellsFrom L j (c + 1) r
def LD.cells (L : LD) (j : IE) : List SCl := cellsFrom L j 0 L.ks
/-- The nil slice stands under its name, no block. -/
def Pl.isNil (p : Pl) : Bool := !p.caps.isEmpty
def Pl.emp (p : Pl) : Value := one1 (p.caps.toList.headD (.slice none 0 0))
def nilPl : Pl := ⟨0, 0, .func 0, #[.slice none 0 0]⟩
def SCl.den (ρ : EnvS) (α : Nat → Pl) : SCl → Value
  | .ssl L => .slice (ρ.p L.i) (ρ.v L.n).toNat (ρ.c L.i)
  | .ept L j c => .pointer (some ⟨ρ.a L.i, ρ.o L.i + (j.den ρ).toNat * L.ks.length + c, none⟩)
  | .opq i j c => one1 (ρ.g i (j.den ρ) c)
  | .int k e => .int k (e.den ρ)
  | .bool b => .bool (b.den ρ)
  | .ptr id off => .pointer (some ⟨(α id).blk, off, none⟩)
  | .slc id off len cap x => .slice (some ⟨(α id).blk, off, none⟩) len (if x then cap else cap + (α id).ext)
  | .nm id => .func (α id).fn #[] (α id).caps
  | .raw v => v
  | .str e => .string (strB (e.den ρ))
  | .bls id n => if (α id).isNil then (α id).emp else .slice (some ⟨(α id).blk, 0, none⟩) (n.den ρ).toNat (α id).ext
  | .empL L => .slice (ρ.p L.i) 0 0
  | .empB id => if (α id).isNil then (α id).emp else .slice (some ⟨(α id).blk, 0, none⟩) 0 0
  | .blc id _ _ _ n _ => if (α id).isNil then (α id).emp else .slice (some ⟨(α id).blk, 0, none⟩) (n.den ρ).toNat (α id).ext
  | .bpt id z j c => .pointer (some ⟨(α id).blk, (j.den ρ).toNat * z + c, none⟩)
def S1.den (ρ : EnvS) (α : Nat → Pl) (s : S1) : Value :=
  if s.agg then .agg (s.cs.map (SCl.den ρ α)).toArray else match s.cs with | c :: _ => c.den ρ α | [] => undef
def SV.den (ρ : EnvS) (α : Nat → Pl) : SV → Value
  | .one c => c.den ρ α
  | .agg cs => .agg (cs.map (SCl.den ρ α)).toArray
  | .tup vs => .tuple (vs.map (S1.den ρ α)).toArray
def S1.sv (s : S1) : Option SV := if s.agg then some (.agg s.cs) else match s.cs with | [c] => some (.one c) | _ => none
def SV.s1 : SV → Option S1
  | .one c => some ⟨false, [c]⟩
  | .agg cs => some ⟨true, cs⟩
  | .tup _ => none
def SCl.cellOk : SCl → Bool
  | .raw v => v.oneCell'
  | _ => true
def SV.cells : SV → Option (List SCl)
  | .one c => if c.cellOk then some [c] else none
  | .agg cs => some cs
  | .tup _ => none
def SCl.id? : SCl → Option Nat
  | .ptr id _ => some id
  | .slc id _ _ _ _ => some id
  | .nm id => some id
  | .bls id _ => some id
  | .bpt id _ _ _ => some id
  | .empB id => some id
  | .blc id _ _ _ _ _ => some id
  | _ => none
def idsL (cs : List SCl) : List Nat := cs.filterMap SCl.id?
def SV.ids : SV → List Nat
  | .one c => idsL [c]
  | .agg cs => idsL cs
  | .tup vs => vs.flatMap fun s => idsL s.cs
def lowL (n : Nat) (l : List Nat) : Bool := l.all (·.blt n)
def SV.below (n : Nat) (s : SV) : Bool := lowL n s.ids
def cst1 : Value → Option SCl
  | .int k n => some (.int k (.lit n))
  | .bool b => some (.bool (.lit b))
  | .string s => some (.str (.lit (codeB s)))
  | .agg _ => none
  | .tuple _ => none
  | v => some (.raw v)
def cstL : List Value → Option (List SCl)
  | [] => some []
  | v :: vs => match cst1 v, cstL vs with
    | some c, some cs => some (c :: cs)
    | _, _ => none
def cst : Value → Option SV
  | .agg ⟨cs⟩ => (cstL cs).map .agg
  | .tuple ⟨[]⟩ => some (.tup [])
  | v => (cst1 v).map .one

/-- The temporaries that have been written, the last first. -/
abbrev Tm := List (Nat × SV)
def Tm.get (t : Nat) (tm : Tm) : Option SV := List.rec (motive := fun _ => Option SV) none (fun p _ ih => cond (p.1.beq t) (some p.2) ih) tm
def Tm.ids : Tm → List Nat
  | [] => []
  | (_, s) :: r => s.ids ++ Tm.ids r
/-- A block: its cells as far as they are known; 'sz': how many cells each further element has that it may have room for (0: there is none); 'ro': it is only read (a grown slice may lie in it), 'sib': the names that may stand for the same block. -/
structure Blk where
  elem : TypeId
  cs : List SCl
  sz : Nat
  ro : Bool
  sib : List Nat
  deriving Inhabited
/-- A loop over a function: the temporaries where it began, its variables, its code; the name of its block for deferred calls; 0: ready, 1: busy, 2: done; how it is left. -/
structure Yl where
  nt : Nat
  tm : Tm
  ps : List Nat
  asg : Code
  body : Code
  dfr : Nat
  st : Nat
  pend : Option Code
  deriving Inhabited
/-- A list of the call's own: its elements' type, the number of its cells' values, which of them, its length, its cells; what has been stored since, the last first. -/
structure LB where
  elem : TypeId
  i : Nat
  k : Option IE
  n : IE
  ks : List CK
  ups : List (IE × List SCl)
  deriving Inhabited
def apB (i : Nat) (k : Option IE) (j : IE) (c : Nat) : IE := match k with
  | none => .ap i j (.lit c)
  | some k => .ap (i + c) k j
def CK.cellB (i : Nat) (k : Option IE) (j : IE) (c : Nat) : CK → SCl
  | .int t => .int t (apB i k j c)
  | .bool => .bool (.eq (apB i k j c) (.lit 1))
  | .str => .str (apB i k j c)
  | .opq => match k with | none => .opq i j c | some _ => .raw (.bool false)
def cellsB (i : Nat) (k : Option IE) (j : IE) : Nat → List CK → List SCl
  | _, [] => []
  | c, x :: r => x.cellB i k j c :: cellsB i k j (c + 1) r
def LB.base (b : LB) (j : IE) : List SCl := cellsB b.i b.k j 0 b.ks
inductive Ob where
  | blk (b : Blk)
  | lst (b : LB)
  | clo (g : FuncId) (caps : List S1)
  | dfr
  | yld (y : Yl)
  deriving Inhabited
def Ob.addr : Ob → Bool
  | .clo _ _ => false
  | _ => true
def Ob.isL : Ob → Bool
  | .lst _ => true
  | _ => false
/-- It stands at an address. -/
def Ob.adr (p : Pl) (o : Ob) : Bool := o.addr && !(o.isL && p.isNil)
def Ob.ro : Ob → Bool
  | .blk b => b.ro
  | _ => false
def Ob.sib : Ob → List Nat
  | .blk b => b.sib
  | _ => []
/-- The names that are told in an object. -/
def Ob.ids : Ob → List Nat
  | .blk b => idsL b.cs ++ b.sib
  | .lst b => b.ups.flatMap fun p => idsL p.2
  | .clo _ caps => caps.flatMap fun s => idsL s.cs
  | .dfr => []
  | .yld y => y.dfr :: y.tm.ids
/-- What has been done to objects, the last first ('none': nothing is known of it any more). -/
abbrev Hp := List (Nat × Option Ob)
def Hp.get (id : Nat) (d : Hp) : Option (Option Ob) := List.rec (motive := fun _ => Option (Option Ob)) none (fun p _ ih => cond (p.1.beq id) (some p.2) ih) d
def Hp.has (id : Nat) (d : Hp) : Bool := d.any fun p => p.1.beq id
abbrev Vw := Nat → Option Ob
/-- The objects behind what has been done. -/
def Hp.over (d : Hp) (h : Vw) : Vw := fun id => match d.get id with | some x => x | none => h id
def Hp.drop (f : Hp) : Hp → Hp
  | [] => []
  | p :: r => if f.has p.1 then Hp.drop f r else p :: Hp.drop f r
def Hp.app (f d : Hp) : Hp := match f with
  | [] => d
  | p :: r => (p :: r) ++ Hp.drop (p :: r) d
def ev (tm : Tm) : Operand → Option SV
  | .tmp t => tm.get t
  | .const v => cst v
  | .func f => some (.one (.raw (.func (.func f) #[] #[])))
  | .global _ => none
def putL {β : Type} (cs : List β) (off : Nat) (vs : List β) : List β := cs.take off ++ vs ++ cs.drop (off + vs.length)

def isAggT (P : Program) (t : TypeId) : Option Bool :=
  match P.underlying t with
  | some (.struct _) => some true
  | some (.array _ _) => some true
  | some _ => some false
  | none => none
def sizeT (P : Program) (t : TypeId) : Option Nat := (P.info? t).map (·.size)
def bytesT (P : Program) (t : TypeId) : Option Nat := (P.info? t).map (·.bytes)
def zeroT (P : Program) (t : TypeId) : Option SV :=
  match P.info? t with
  | some i => match i.zero with
    | some z => cst z
    | none => none
  | none => none
/-- The value of type t that lies in the cells from 'off' on. -/
def partS (P : Program) (t : TypeId) (cs : List SCl) (off : Nat) : Option SV :=
  match isAggT P t, sizeT P t with
  | some true, some n => if (off + n).ble cs.length then some (.agg ((cs.drop off).take n)) else none
  | some false, some _ => (cs[off]?).map .one
  | _, _ => none
/-- 'place': the offset and the size of part number i. -/
def fillS (place : Nat → Option (Nat × Nat)) (cs : List SCl) : List (Nat × SV) → Option (List SCl)
  | [] => some cs
  | (i, v) :: r => match place i, v.cells with
    | some (off, size), some vs => if vs.length.beq size && (off + size).ble cs.length then fillS place (putL cs off vs) r else none
    | _, _ => none
def placesL (P : Program) : List Field → Option (List (Nat × Nat))
  | [] => some []
  | f :: fs => match sizeT P f.type, placesL P fs with
    | some n, some r => some ((f.offset, n) :: r)
    | _, _ => none
def evL (e : Operand → Option SV) : List Operand → Option (List SV)
  | [] => some []
  | x :: xs => match e x, evL e xs with
    | some v, some vs => some (v :: vs)
    | _, _ => none
def evP (e : Operand → Option SV) : List (Nat × Operand) → Option (List (Nat × SV))
  | [] => some []
  | (i, x) :: xs => match e x, evP e xs with
    | some v, some vs => some ((i, v) :: vs)
    | _, _ => none
/-- Equality of two cells ('true': integers, 'false': truth values). -/
def eqCell : Bool → SCl → SCl → Option BE
  | true, .int k a, .int l b => if IntKind.same k l then some (.eqS a b) else none
  | false, .bool (.lit true), .bool b => some b
  | false, .bool (.lit false), .bool b => some (.notS b)
  | false, .bool b, .bool (.lit true) => some b
  | false, .bool b, .bool (.lit false) => some (.notS b)
  | _, _, _ => none
def eqCells : List Bool → List SCl → List SCl → Option BE
  | [], [], [] => some (.lit true)
  | k :: ks, a :: xs, b :: ys => match eqCell k a b, eqCells ks xs ys with
    | some x, some y => some (.andS x y)
    | _, _ => none
  | _, _, _ => none
/-- All leaves of the type are integers or truth values, one cell each, in order; nothing that the model holds apart: which. -/
def flatF (P : Program) (rec : TypeId → Option (List Bool)) : List Field → Nat → Option (List Bool)
  | [], _ => some []
  | f :: r, n => match rec f.type with
    | some m => if f.offset.beq n && f.name != "_" then (flatF P rec r (n + m.length)).map (m ++ ·) else none
    | none => none
def flatT (P : Program) : Nat → TypeId → Option (List Bool)
  | 0, _ => none
  | d + 1, t => match P.underlying t with
    | some (.int _) => if sizeT P t == some 1 then some [true] else none
    | some .bool => if sizeT P t == some 1 then some [false] else none
    | some (.struct fs) =>
      if P.stoodInHeld t then none else
      match flatF P (flatT P d) fs.toList 0 with
      | some n => if sizeT P t == some n.length then some n else none
      | none => none
    | _ => none

/-- The names that are led to from some (those that were found, as bits and as a list). -/
def reachE (h : Vw) : Nat → List Nat → Nat → List Nat → Option (Nat × List Nat)
  | _, [], m, seen => some (m, seen)
  | 0, _ :: _, _, _ => none
  | n + 1, id :: r, m, seen => if m.testBit id then reachE h n r m seen else match h id with
    | some o => reachE h n (o.ids ++ r) (m ||| 2 ^ id) (id :: seen)
    | none => reachE h n r (m ||| 2 ^ id) (id :: seen)
def pickL (h : Vw) : List Nat → Hp
  | [] => []
  | id :: r => match h id with
    | some o => (id, some o) :: pickL h r
    | none => pickL h r
inductive Tg where
  | fn (g : FuncId)
  | yl (id : Nat) (y : Yl)
  deriving Inhabited
/-- A call: the target, its arguments, the objects that it is led to, the first free name: what it hands back, what it has done, the first free name. -/
structure CallF where
  run : Tg → List SV → Hp → Nat → PC → T (SV × Hp × Nat × PC)
  ls : List LD
structure Res where
  v : SV
  f : Hp
  n : Nat
  pc : PC
  tch : List Nat
  deriving Inhabited
def callable (P : Program) (g : FuncId) : Bool := match P.funcs[g]? with | some fn => fn.name != "runtime.NumGoroutine" && fn.body.isSome | none => false
/-- Shifts and bits of known numbers. -/
def shL (op : BinOp) (k : IntKind) : IE → IE → Option Int
  | .lit x, .lit y => if y < 0 then none else match op with
    | .shl => some (k.wrap (x * 2 ^ (min y.toNat k.bits)))
    | .shr => some (x.fdiv (2 ^ (min y.toNat k.bits)))
    | _ => none
  | _, _ => none
def bitL (op : BinOp) (k : IntKind) : IE → IE → Option Int
  | .lit x, .lit y => match op with
    | .and => some (k.wrap (BitVec.ofInt k.bits x &&& BitVec.ofInt k.bits y).toNat)
    | .or => some (k.wrap (BitVec.ofInt k.bits x ||| BitVec.ofInt k.bits y).toNat)
    | .xor => some (k.wrap (BitVec.ofInt k.bits x ^^^ BitVec.ofInt k.bits y).toNat)
    | .andNot => some (k.wrap (BitVec.ofInt k.bits x &&& ~~~BitVec.ofInt k.bits y).toNat)
    | _ => none
  | _, _ => none
def binS (op : BinOp) (a b : IE) : Option SCl := match op with
  | .eql => some (.bool (.eqS a b))
  | .neq => some (.bool (.notS (.eqS a b)))
  | .lss => some (.bool (.eqS (.fxS 2 a b) (.lit 1)))
  | .gtr => some (.bool (.andS (.notS (.eqS (.fxS 2 a b) (.lit 1))) (.notS (.eqS a b))))
  | .leq => some (.bool (.notS (.andS (.notS (.eqS (.fxS 2 a b) (.lit 1))) (.notS (.eqS a b)))))
  | .geq => some (.bool (.notS (.eqS (.fxS 2 a b) (.lit 1))))
  | _ => none
def Tg.ok (P : Program) : Tg → Bool
  | .fn g => callable P g
  | .yl _ _ => true
def binI (pc : PC) (op : BinOp) (k : IntKind) (a b : IE) : Option SCl :=
  match op with
  | .add => some (.int k (.wrapP pc k (.addS a b)))
  | .sub => some (.int k (.wrapP pc k (.subS a b)))
  | .mul => some (.int k (.wrapP pc k (.mulS a b)))
  | .eql => some (.bool (.eqS a b))
  | .neq => some (.bool (.notS (.eqS a b)))
  | .lss => some (.bool (.ltS a b))
  | .leq => some (.bool (.leS a b))
  | .gtr => some (.bool (.ltS b a))
  | .geq => some (.bool (.leS b a))
  | op => (bitL op k a b).map fun r => .int k (.lit r)
def mmS (f : IE → IE → IE) : IntKind → IE → List SV → Option SV
  | k, a, [] => some (.one (.int k a))
  | k, a, .one (.int _ b) :: r => mmS f k (f a b) r
  | _, _, _ => none
def mnS : IE → IE → IE := .bin (fun a b => if b < a then b else a) .mn
def mxS : IE → IE → IE := .bin (fun a b => if b > a then b else a) .mx
def s1L : List SV → Option (List S1)
  | [] => some []
  | v :: vs => match v.s1, s1L vs with
    | some s, some ss => some (s :: ss)
    | _, _ => none
/-- A literal bound of a slice expression. -/
def bndE (e : Operand → Option SV) (dflt : Nat) : Option Operand → Option Nat
  | none => some dflt
  | some x => match e x with
    | some (.one (.int _ (.lit n))) => if 0 ≤ n then some n.toNat else none
    | _ => none
def reachFuel : Nat := 100000
def val (n : Nat) (pc : PC) (o : Option SV) : T Res := match o with | some v => .ret ⟨v, [], n, pc, []⟩ | none => .bad 1
def valT (n : Nat) (pc : PC) (tch : List Nat) (o : Option SV) : T Res := match o with | some v => .ret ⟨v, [], n, pc, tch⟩ | none => .bad 1
def dropAll : List Nat → Hp
  | [] => []
  | j :: r => (j, none) :: dropAll r
def roOk (h : Vw) (j : Nat) : Bool := match h j with | some (.blk b) => b.ro | some _ => false | none => true
/-- The cells of what is appended or copied, how many elements, which objects it looks at. -/
def srcE (h : Vw) (z : Nat) : SCl → Option (List SCl × Nat × List Nat)
  | .slc id off len _ _ => match h id with
    | some (.blk b) => if (off + len * z).ble b.cs.length then some ((b.cs.drop off).take (len * z), len, [id]) else none
    | _ => none
  | .raw (.slice none 0 0) => some ([], 0, [])
  | _ => none
/-- How many cells and bytes an element has; its zero cells. -/
def elT (P : Program) (el : TypeId) : Option (Nat × Nat × List SCl) := match sizeT P el, bytesT P el, zeroT P el with
  | some z, some b, some zv => match zv.cells with
    | some zs => if (0).blt z && zs.length.beq z && zs.all SCl.cellOk then some (z, b, zs) else none
    | none => none
  | _, _, _ => none
def zerosL (zs : List SCl) (k : Nat) : List SCl := (List.range k).map fun i => zs.getD (i % zs.length) (.raw undef)
def isT : Option Bool → Bool
  | some true => true
  | _ => false
def rawEq : Value → Value → Bool
  | .slice none a b, .slice none c d => a.beq c && b.beq d
  | .pointer none, .pointer none => true
  | .nilFunc, .nilFunc => true
  | .func (.func f) ⟨[]⟩ ⟨[]⟩, .func (.func g) ⟨[]⟩ ⟨[]⟩ => Nat.beq f g
  | _, _ => false
/-- Equal, by what is known. -/
def IE.eqP (pc : PC) (a b : IE) : Bool := a.same b || isT (PC.dec0 pc (.eq a b))
def BE.eqP (pc : PC) (a b : BE) : Bool := a.same b || (match PC.dec pc a, PC.dec pc b with | some x, some y => x == y | _, _ => false)
def SCl.eqP (pc : PC) : SCl → SCl → Bool
  | .int k a, .int l b => IntKind.same k l && a.eqP pc b
  | .bool a, .bool b => a.eqP pc b
  | .ptr i o, .ptr j p => i.beq j && o.beq p
  | .slc i o l c x, .slc j p m d y => i.beq j && (o.beq p && (l.beq m && (c.beq d && x == y)))
  | .nm i, .nm j => i.beq j
  | .raw v, .raw w => rawEq v w
  | .str a, .str b => a.eqP pc b
  | .bls i n, .bls j m => i.beq j && n.eqP pc m
  | .bpt i y j c, .bpt l z k d => i.beq l && (y.beq z && (j.eqP pc k && c.beq d))
  | .ssl L, .ssl M => L.same M
  | .ept L j c, .ept M k d => L.same M && (j.eqP pc k && c.beq d)
  | .opq i j c, .opq m k d => i.beq m && (j.eqP pc k && c.beq d)
  | _, _ => false
def eqPL (pc : PC) : List SCl → List SCl → Bool
  | [], [] => true
  | a :: r, b :: s => a.eqP pc b && eqPL pc r s
  | _, _ => false
def eqAll (pc : PC) (a b : List SCl) : Bool := eqPL pc a b
def eqO (pc : PC) : Option IE → Option IE → Bool
  | none, none => true
  | some a, some b => a.eqP pc b
  | _, _ => false
def eqUps (pc : PC) : List (IE × List SCl) → List (IE × List SCl) → Bool
  | [], [] => true
  | (i, a) :: r, (j, b) :: s => i.eqP pc j && (eqPL pc a b && eqUps pc r s)
  | _, _ => false
/-- The same list, told otherwise. -/
def LB.like (pc : PC) (a b : LB) : Bool := Nat.beq a.elem b.elem && (a.i.beq b.i && (sameK a.ks b.ks && (eqO pc a.k b.k && (a.n.eqP pc b.n && eqUps pc a.ups b.ups))))
def neP (pc : PC) (a b : IE) : Bool := (match PC.dec0 pc (.eq a b) with | some false => true | _ => false) || (match PC.dec0 pc (.eq b a) with | some false => true | _ => false)
def lookU (pc : PC) (j : IE) (base : List SCl) : List (IE × List SCl) → Option (List SCl)
  | [] => some base
  | (e, vs) :: r => if e.eqP pc j then some vs else if neP pc e j then lookU pc j base r else none
/-- The cells of element number j. -/
def LB.look (pc : PC) (b : LB) (j : IE) : Option (List SCl) := lookU pc j (b.base j) b.ups
/-- append of one element to a list of the call's own: the value of its new cells is known. -/
def appB (P : Program) (h : Vw) (n : Nat) (pc : PC) (el : TypeId) (id : Nat) (len : IE) (xv : SCl) : T Res := match elT P el, h id with
  | some (z, by_, _), some (.lst b) => match srcE h z xv with
    | some (new, m, t1) =>
      if m.beq 1 && (new.all SCl.cellOk && (z.beq b.ks.length && (Nat.beq b.elem el && (len.same b.n && (by_.ble 100000 && (b.ups.isEmpty && (leO (PC.rng pc b.n).2 (some 1000000) && eqAll pc (b.base b.n) new))))))) then
        .ret ⟨.one (.bls n (.addS b.n (.lit 1))), [(n, some (.lst { b with n := .addS b.n (.lit 1) })), (id, none)], n + 1, pc, id :: t1⟩
      else .bad 80
    | none => .bad 81
  | _, _ => .bad 82
/-- A list as a source: what it is, which object it looks at. -/
def srcC (ls : List LD) (h : Vw) : SCl → Option (LB × List Nat)
  | .ssl L => if ls.any (·.same L) then some (⟨L.elem, L.i, none, .at L.n, L.ks, []⟩, []) else none
  | .bls id len => match h id with
    | some (.lst b) => if len.same b.n && b.ups.all (fun p => p.2.length.beq b.ks.length) then some (b, [id]) else none
    | _ => none
  | _ => none
/-- append of a list to an empty slice without room. -/
def appC (P : Program) (ls : List LD) (h : Vw) (n : Nat) (pc : PC) (el : TypeId) (xv : SCl) (t0 : List Nat) : T Res := match elT P el, srcC ls h xv with
  | some (z, by_, _), some (b, t1) =>
    if z.beq b.ks.length && (by_.ble 100000 && leO (PC.rng pc b.n).2 (some 1000000)) then
      .ret ⟨.one (.bls n b.n), [(n, some (.lst { b with elem := el }))], n + 1, pc, t0 ++ t1⟩
    else .bad 83
  | _, _ => .bad 84
/-- append of a slice. -/
def appE (P : Program) (h : Vw) (n : Nat) (pc : PC) (el : TypeId) (sv xv : SCl) : T Res := match elT P el with
  | none => .bad 47
  | some (z, by_, _) => match srcE h z xv with
    | none => .bad 47
    | some (new, m, t1) =>
      if !(new.all SCl.cellOk && (m * by_).ble 1000000 && m.ble 1000000) then .bad 47 else
      match sv with
      | .raw (.slice none 0 0) =>
        if m.beq 0 then valT n pc t1 (some (.one (.raw (.slice none 0 0)))) else
        .ret ⟨.one (.slc n 0 m m false), [(n, some (.blk ⟨el, new, z, false, []⟩))], n + 1, pc, t1⟩
      | .slc id off len cap ex => match h id with
        | some (.blk b) =>
          if !((off + cap * z).ble b.cs.length && b.elem.beq el && len.ble cap && ((len + m) * by_).ble 1000000 && (len + m).ble 1000000) then .bad 47 else
          if m.beq 0 then valT n pc (id :: t1) (some (.one (.slc id off len cap ex))) else
          if (len + m).ble cap then
            if b.ro then .bad 48 else
            .ret ⟨.one (.slc id off (len + m) cap ex), (id, some (.blk ⟨b.elem, putL b.cs (off + len * z) new, b.sz, false, []⟩)) :: dropAll b.sib, n, pc, id :: (b.sib ++ t1)⟩
          else if ex then
            .ret ⟨.one (.slc n 0 (len + m) (len + m) false), [(n, some (.blk ⟨el, (b.cs.drop off).take (len * z) ++ new, z, false, []⟩))], n + 1, pc, id :: t1⟩
          else if !b.ro && off.beq 0 && b.sz.beq z && len.beq cap && b.cs.length.beq (len * z) && b.sib.all (roOk h) then
            .ret ⟨.one (.slc n 0 (len + m) (len + m) false), (n, some (.blk ⟨el, b.cs ++ new, z, false, [id]⟩)) :: (id, some (.blk ⟨b.elem, b.cs, z, true, []⟩)) :: dropAll b.sib, n + 1, pc, id :: (b.sib ++ t1)⟩
          else .bad 49
        | _ => .bad 47
      | _ => .bad 47
/-- append of 'make': that many zero elements, where a new block is made. -/
def appZ (P : Program) (h : Vw) (n : Nat) (pc : PC) (el : TypeId) (sv xv : SCl) : T Res := match elT P el, xv with
  | some (z, by_, zs), .int _ (.lit k) =>
    if !(decide (0 < k) && (k.toNat * by_).ble 1000000 && k.toNat.ble 1000000) then .bad 47 else
    match sv with
    | .raw (.slice none 0 0) => .ret ⟨.one (.slc n 0 k.toNat k.toNat false), [(n, some (.blk ⟨el, zerosL zs (k.toNat * z), z, false, []⟩))], n + 1, pc, []⟩
    | .slc id off len cap true => match h id with
      | some (.blk b) =>
        if (off + len * z).ble b.cs.length && cap.blt (len + k.toNat) && ((len + k.toNat) * by_).ble 1000000 && (len + k.toNat).ble 1000000 then
          .ret ⟨.one (.slc n 0 (len + k.toNat) (len + k.toNat) false), [(n, some (.blk ⟨el, (b.cs.drop off).take (len * z) ++ zerosL zs (k.toNat * z), z, false, []⟩))], n + 1, pc, [id]⟩
        else .bad 47
      | _ => .bad 47
    | _ => .bad 47
  | _, _ => .bad 47
/-- Is a value of a type with nil the nil? -/
def nilS : SCl → Option Bool
  | .slc _ _ _ _ _ => some false
  | .ptr _ _ => some false
  | .nm _ => some false
  | .raw (.slice none _ _) => some true
  | .raw (.pointer none) => some true
  | .raw .nilFunc => some true
  | .raw (.func _ _ _) => some false
  | _ => none
def nilT (P : Program) (t : TypeId) (a : SCl) : Bool := match P.underlying t, a with
  | some (.slice _), .slc _ _ _ _ _ => true
  | some (.slice _), .raw (.slice _ _ _) => true
  | some (.pointer _), .ptr _ _ => true
  | some (.pointer _), .raw (.pointer _) => true
  | some (.func _ _ _), .nm _ => true
  | some (.func _ _ _), .raw (.func _ _ _) => true
  | some (.func _ _ _), .raw .nilFunc => true
  | _, _ => false
/-- The target of a call of a function value, with what it bears itself. -/
def tgtE (h : Vw) : SV → Option (Tg × List SV × List Nat)
  | .one (.raw (.func (.func g) ⟨[]⟩ ⟨[]⟩)) => some (.fn g, [], [])
  | .one (.nm id) => match h id with
    | some (.clo g caps) => match caps.mapM S1.sv with
      | some vs => some (.fn g, vs, [id])
      | none => none
    | some (.yld y) => some (.yl id y, [], [id])
    | _ => none
  | _ => none
def oPick (n : Nat) (pc : PC) (e : Operand → Option SV) (c a b : Operand) : T Res := match e c with
    | some (.one (.bool x)) => T.cond pc x fun pc v => val n pc (e (if v then a else b))
    | _ => .bad 2
def oAlloc (P : Program) (n : Nat) (pc : PC) (t : TypeId) : T Res := match zeroT P t with
    | some z => match z.cells with
      | some cs => .ret ⟨.one (.ptr n 0), [(n, some (.blk ⟨t, cs, 0, false, []⟩))], n + 1, pc, []⟩
      | none => .bad 3
    | none => .bad 3
def oBox (n : Nat) (pc : PC) (e : Operand → Option SV) (t : TypeId) (x : Operand) : T Res := match e x with
    | some v => match v.cells with
      | some cs => .ret ⟨.one (.ptr n 0), [(n, some (.blk ⟨t, cs, 0, false, []⟩))], n + 1, pc, []⟩
      | none => .bad 4
    | none => .bad 4
def oBuild (P : Program) (n : Nat) (pc : PC) (e : Operand → Option SV) (t : TypeId) (parts : Array (Nat × Operand)) : T Res := match zeroT P t, evP e parts.toList, P.underlying t with
    | some (.agg z), some ps, some (.struct fs) => match placesL P fs.toList with
      | some pl => val n pc ((fillS (fun i => pl[i]?) z ps).map .agg)
      | none => .bad 5
    | some (.agg z), some ps, some (.array _ el) => match sizeT P el with
      | some s => val n pc ((fillS (fun i => some (i * s, s)) z ps).map .agg)
      | none => .bad 5
    | _, _, _ => .bad 5
def inL (ls : List LD) (pc : PC) (L : LD) (j : IE) : Bool := hasL ls L && (isT (PC.dec0 pc (.le (.lit 0) j)) && isT (PC.dec0 pc (.lt j (.at L.n))))
def inN (pc : PC) (n j : IE) : Bool := isT (PC.dec0 pc (.le (.lit 0) j)) && isT (PC.dec0 pc (.lt j n))
def oLoad (P : Program) (ls : List LD) (n : Nat) (pc : PC) (e : Operand → Option SV) (h : Vw) (t : TypeId) (a : Operand) : T Res := match e a with
    | some (.one (.ptr id off)) => match h id with
      | some (.blk b) => valT n pc [id] (partS P t b.cs off)
      | _ => .bad 6
    | some (.one (.ept L j c)) => if inL ls pc L j then valT n pc [] (partS P t (L.cells j) c) else .bad 6
    | some (.one (.bpt id z j c)) => match h id with
      | some (.lst b) => if z.beq b.ks.length && inN pc b.n j then valT n pc [id] ((b.look pc j).bind fun cs => partS P t cs c) else .bad 6
      | _ => .bad 6
    | _ => .bad 6
def oStore (P : Program) (n : Nat) (pc : PC) (e : Operand → Option SV) (h : Vw) (t : TypeId) (a x : Operand) : T Res := match e a, e x, sizeT P t with
    | some (.one (.ptr id off)), some v, some m => match h id, v.cells with
      | some (.blk b), some cs => if cs.length.beq m && (off + m).ble b.cs.length && !b.ro && cs.all SCl.cellOk then
          .ret ⟨.tup [], (id, some (.blk ⟨b.elem, putL b.cs off cs, b.sz, false, []⟩)) :: dropAll b.sib, n, pc, id :: b.sib⟩ else .bad 7
      | _, _ => .bad 7
    | some (.one (.bpt id z j c)), some v, some m => match h id, v.cells with
      | some (.lst b), some cs => match b.look pc j with
        | some old => if z.beq b.ks.length && (old.length.beq z && (inN pc b.n j && (cs.length.beq m && ((c + m).ble z && (cs.all SCl.cellOk && b.ups.all fun p => p.2.length.beq b.ks.length))))) then
            .ret ⟨.tup [], [(id, some (.lst { b with ups := (j, putL old c cs) :: b.ups }))], n, pc, [id]⟩ else .bad 7
        | none => .bad 7
      | _, _ => .bad 7
    | _, _, _ => .bad 7
def oNil (n : Nat) (pc : PC) (e : Operand → Option SV) (x : Operand) : T Res := match e x with
    | some (.one (.ptr id off)) => val n pc (some (.one (.ptr id off)))
    | some (.one (.ept L j c)) => val n pc (some (.one (.ept L j c)))
    | some (.one (.bpt id z j c)) => val n pc (some (.one (.bpt id z j c)))
    | _ => .bad 8
def oUn (n : Nat) (pc : PC) (e : Operand → Option SV) (op : UnOp) (x : Operand) : T Res := match op, e x with
    | .neg, some (.one (.int k a)) => val n pc (some (.one (.int k (.wrapP pc k (.subS (.lit 0) a)))))
    | .not, some (.one (.bool b)) => val n pc (some (.one (.bool (.notS b))))
    | _, _ => .bad 14
def oConv (P : Program) (n : Nat) (pc : PC) (e : Operand → Option SV) (s d : TypeId) (x : Operand) : T Res := match P.underlying s, P.underlying d, e x with
    | some _, some (.int k), some (.one (.int _ a)) => val n pc (some (.one (.int k (.wrapP pc k a))))
    | _, _, _ => .bad 15
def oFA (P : Program) (n : Nat) (pc : PC) (e : Operand → Option SV) (s : TypeId) (x : Operand) (f : Nat) : T Res := match P.underlying s, e x with
    | some (.struct fs), some (.one (.ptr id off)) => match fs[f]? with
      | some g => match sizeT P g.type with
        | some m => if m.beq 0 then .bad 16 else val n pc (some (.one (.ptr id (off + g.offset))))
        | none => .bad 16
      | none => .bad 16
    | some (.struct fs), some (.one (.ept L j c)) => match fs[f]? with
      | some g => match sizeT P g.type with
        | some m => if m.beq 0 then .bad 16 else val n pc (some (.one (.ept L j (c + g.offset))))
        | none => .bad 16
      | none => .bad 16
    | some (.struct fs), some (.one (.bpt id z j c)) => match fs[f]? with
      | some g => match sizeT P g.type with
        | some m => if m.beq 0 then .bad 16 else val n pc (some (.one (.bpt id z j (c + g.offset))))
        | none => .bad 16
      | none => .bad 16
    | _, _ => .bad 16
def oFld (P : Program) (n : Nat) (pc : PC) (e : Operand → Option SV) (t : TypeId) (x : Operand) (f : Nat) : T Res := match P.underlying t, e x with
    | some (.struct fs), some (.agg cs) => match fs[f]? with
      | some g => val n pc (partS P g.type cs g.offset)
      | none => .bad 17
    | _, _ => .bad 17
def oIA (P : Program) (ls : List LD) (n : Nat) (pc : PC) (e : Operand → Option SV) (h : Vw) (t : TypeId) (x i : Operand) : T Res := match P.underlying t, e x, e i with
    | some (.array len el), some (.one (.ptr id off)), some (.one (.int _ (.lit m))) => match sizeT P el with
      | some s => if decide (0 ≤ m) && decide (m < len) then val n pc (some (.one (.ptr id (off + m.toNat * s)))) else .bad 18
      | none => .bad 18
    | some (.slice el), some (.one (.slc id off len _ _)), some (.one (.int _ (.lit m))) => match sizeT P el with
      | some s => if decide (0 ≤ m) && decide (m < len) then val n pc (some (.one (.ptr id (off + m.toNat * s)))) else .bad 18
      | none => .bad 18
    | some (.slice el), some (.one (.ssl L)), some (.one (.int _ m)) => match sizeT P el with
      | some s => if s.beq L.ks.length && inL ls pc L m then val n pc (some (.one (.ept L m 0))) else .bad 18
      | none => .bad 18
    | some (.slice el), some (.one (.bls id len)), some (.one (.int _ m)) => match sizeT P el, h id with
      | some s, some (.lst b) => if s.beq b.ks.length && (len.same b.n && inN pc b.n m) then valT n pc [id] (some (.one (.bpt id s m 0))) else .bad 18
      | _, _ => .bad 18
    | _, _, _ => .bad 18
def oIdx (P : Program) (n : Nat) (pc : PC) (e : Operand → Option SV) (t : TypeId) (x i : Operand) : T Res := match P.underlying t, e x, e i with
    | some (.array len el), some (.agg cs), some (.one (.int _ (.lit m))) => match sizeT P el with
      | some s => if decide (0 ≤ m) && decide (m < len) then val n pc (partS P el cs (m.toNat * s)) else .bad 19
      | none => .bad 19
    | some .string, some (.one (.str a)), some (.one (.int _ m)) => if isT (PC.dec pc (.leS (.lit 0) m)) && isT (PC.dec pc (.ltS m (.fxS 0 a (.lit 0)))) then val n pc (some (.one (.int .u8 (.fxS 1 a m)))) else .bad 19
    | _, _, _ => .bad 19
def oExt (n : Nat) (pc : PC) (e : Operand → Option SV) (x : Operand) (i : Nat) : T Res := match e x with
    | some (.tup vs) => match vs[i]? with
      | some s => val n pc s.sv
      | none => .bad 20
    | _ => .bad 20
def oMkF (n : Nat) (pc : PC) (e : Operand → Option SV) (fn : Fn) (first caps : Array Operand) : T Res := match fn, first.toList, evL e caps.toList with
    | .func g, [], some vs => match s1L vs with
      | some ss => .ret ⟨.one (.nm n), [(n, some (.clo g ss))], n + 1, pc, []⟩
      | none => .bad 43
    | _, _, _ => .bad 43
def oBS (P : Program) (n : Nat) (pc : PC) (e : Operand → Option SV) (t : TypeId) (len : Nat) (parts : Array (Nat × Operand)) : T Res := match P.underlying t, evP e parts.toList with
    | some (.slice el), some ps => match elT P el with
      | some (z, _, zs) => if (len * z).ble 100000 then
          match fillS (fun i => some (i * z, z)) (zerosL zs (len * z)) ps with
          | some cs => .ret ⟨.one (.slc n 0 len len true), [(n, some (.blk ⟨el, cs, 0, false, []⟩))], n + 1, pc, []⟩
          | none => .bad 21
        else .bad 21
      | none => .bad 21
    | _, _ => .bad 21
def oMkS (P : Program) (n : Nat) (pc : PC) (e : Operand → Option SV) (t : TypeId) (l c : Operand) : T Res := match P.underlying t, e l, e c with
    | some (.slice el), some (.one (.int _ (.lit len))), some (.one (.int _ (.lit cap))) => match elT P el with
      | some (z, by_, zs) => if decide (0 ≤ len) && decide (len ≤ cap) && (cap.toNat * by_).ble 1000000 && cap.toNat.ble 1000000 then
            .ret ⟨.one (.slc n 0 len.toNat cap.toNat true), [(n, some (.blk ⟨el, zerosL zs (cap.toNat * z), 0, false, []⟩))], n + 1, pc, []⟩
          else .bad 44
      | none => .bad 44
    | _, _, _ => .bad 44
def oSl (P : Program) (n : Nat) (pc : PC) (e : Operand → Option SV) (h : Vw) (t : TypeId) (x : Operand) (lo hi mx : Option Operand) : T Res := match P.underlying t, e x with
    | some (.slice el), some (.one (.slc id off len cap ex)) => match sizeT P el, bndE e 0 lo, bndE e len hi, bndE e cap mx with
      | some s, some l, some u, some m => if l.ble u && u.ble m && m.ble cap && (ex || l.blt m || mx.isSome) && (hi.isSome || !mx.isSome) then
          val n pc (some (.one (.slc id (if l.beq m then off else off + l * s) (u - l) (m - l) (ex || mx.isSome)))) else .bad 45
      | _, _, _, _ => .bad 45
    | some (.slice el), some (.one (.raw (.slice none 0 0))) => match sizeT P el, bndE e 0 lo, bndE e 0 hi, bndE e 0 mx with
      | some _, some 0, some 0, some 0 => if hi.isSome || !mx.isSome then val n pc (some (.one (.raw (.slice none 0 0)))) else .bad 45
      | _, _, _, _ => .bad 45
    | some (.slice el), some (.one (.ssl L)) => match sizeT P el, bndE e 1 lo, bndE e 1 hi, bndE e 1 mx with
      | some _, some 0, some 0, some 0 => val n pc (some (.one (.empL L)))
      | _, _, _, _ => .bad 45
    | some (.slice el), some (.one (.bls id len)) => match sizeT P el, bndE e 1 lo, bndE e 1 hi, bndE e 1 mx, h id with
      | some _, some 0, some 0, some 0, some (.lst b) => if len.same b.n then valT n pc [id] (some (.one (.empB id))) else .bad 45
      | _, _, _, _, _ => .bad 45
    | some (.pointer at_), some (.one (.ptr id off)) => match P.underlying at_ with
      | some (.array len el) => match sizeT P el, bndE e 0 lo, bndE e len hi, bndE e len mx with
        | some s, some l, some u, some m => if l.ble u && u.ble m && m.ble len && (hi.isSome || !mx.isSome) then val n pc (some (.one (.slc id (if l.beq m then off else off + l * s) (u - l) (m - l) true))) else .bad 45
        | _, _, _, _ => .bad 45
      | _ => .bad 45
    | _, _ => .bad 45
def oInt (n : Nat) (pc : PC) (op : BinOp) (k l : IntKind) (a b : IE) : T Res :=
      match shL op k a b with
      | some r => val n pc (some (.one (.int k (.lit r))))
      | none =>
      if IntKind.same k l then
        match op with
        | .quo => match b with
          | .lit m => if m = 0 then .bad 9 else val n pc (some (.one (.int k (.wrapP pc k (.bin Int.tdiv .quo a (.lit m))))))
          | b => T.cond pc (.eqS b (.lit 0)) fun pc v => if v then .bad 10 else val n pc (some (.one (.int k (.wrapP pc k (.quo a b)))))
        | .rem => match b with
          | .lit m => if m = 0 then .bad 9 else val n pc (some (.one (.int k (.bin Int.tmod .rem a (.lit m)))))
          | b => T.cond pc (.eqS b (.lit 0)) fun pc v => if v then .bad 10 else val n pc (some (.one (.int k (.rem a b))))
        | op => val n pc ((binI pc op k a b).map .one)
      else .bad 11
def oAgg (P : Program) (n : Nat) (pc : PC) (op : BinOp) (t : TypeId) (a b : List SCl) : T Res := match flatT P 20 t, isAggT P t with
      | some m, some true => if m.length.beq a.length && !P.eqGuardType P.depth t then
          match op with
          | .eql => val n pc ((eqCells m a b).map (fun c => .one (.bool c)))
          | .neq => val n pc ((eqCells m a b).map (fun c => .one (.bool (.notS c))))
          | _ => .bad 12
        else .bad 12
      | _, _ => .bad 12
def oBoo (P : Program) (n : Nat) (pc : PC) (op : BinOp) (t : TypeId) (a b : BE) : T Res := match P.underlying t with
      | some .bool => match op with
        | .eql => if a.same b then val n pc (some (.one (.bool (.lit true)))) else T.cond pc a fun pc v => val n pc (some (.one (.bool (if v then b else .notS b))))
        | .neq => if a.same b then val n pc (some (.one (.bool (.lit false)))) else T.cond pc a fun pc v => val n pc (some (.one (.bool (if v then .notS b else b))))
        | _ => .bad 12
      | _ => .bad 12
def oNi (P : Program) (n : Nat) (pc : PC) (op : BinOp) (t : TypeId) (a b : SCl) : T Res := match nilS a, nilS b with
      | some p, some q => if (p || q) && nilT P t a && nilT P t b then match op with
          | .eql => val n pc (some (.one (.bool (.lit (p && q)))))
          | .neq => val n pc (some (.one (.bool (.lit (!(p && q))))))
          | _ => .bad 13
        else .bad 13
      | _, _ => .bad 13
def oStr (P : Program) (n : Nat) (pc : PC) (op : BinOp) (t : TypeId) (a b : IE) : T Res := match P.underlying t with
      | some .string => val n pc ((binS op a b).map .one)
      | _ => .bad 12
/-- A list that is not empty is not nil. -/
def nlS (ls : List LD) (h : Vw) (pc : PC) : SCl → Option (List Nat)
  | .ssl L => if hasL ls L && isT (PC.dec pc (.ltS (.lit 0) (.at L.n))) then some [] else none
  | .bls id len => match h id with
    | some (.lst b) => if len.same b.n && isT (PC.dec pc (.ltS (.lit 0) b.n)) then some [id] else none
    | _ => none
  | _ => none
def oNl (P : Program) (ls : List LD) (n : Nat) (pc : PC) (h : Vw) (op : BinOp) (t : TypeId) (a : SCl) : T Res := match P.underlying t, nlS ls h pc a with
      | some (.slice _), some t0 => match op with
        | .eql => valT n pc t0 (some (.one (.bool (.lit false))))
        | .neq => valT n pc t0 (some (.one (.bool (.lit true))))
        | _ => .bad 13
      | _, _ => .bad 13
def oBin (P : Program) (ls : List LD) (h : Vw) (n : Nat) (pc : PC) (e : Operand → Option SV) (op : BinOp) (t : TypeId) (x y : Operand) : T Res := match e x, e y with
    | some (.one (.int k a)), some (.one (.int l b)) => oInt n pc op k l a b
    | some (.agg a), some (.agg b) => oAgg P n pc op t a b
    | some (.one (.bool a)), some (.one (.bool b)) => oBoo P n pc op t a b
    | some (.one (.str a)), some (.one (.str b)) => oStr P n pc op t a b
    | some (.one (.ssl L)), some (.one (.raw (.slice none 0 0))) => oNl P ls n pc h op t (.ssl L)
    | some (.one (.bls i m)), some (.one (.raw (.slice none 0 0))) => oNl P ls n pc h op t (.bls i m)
    | some (.one a), some (.one b) => oNi P n pc op t a b
    | _, _ => .bad 13
def oLen (P : Program) (ls : List LD) (n : Nat) (pc : PC) (e : Operand → Option SV) (h : Vw) (c : Call) : T Res := match c.args.toList, c.argTypes.toList with
      | [x], t :: _ => match P.underlying t, e x with
        | some (.slice _), some (.one (.slc _ _ m _ _)) => val n pc (some (.one (.int .i64 (.lit m))))
        | some (.slice _), some (.one (.ssl L)) => if hasL ls L then val n pc (some (.one (.int .i64 (.at L.n)))) else .bad 22
        | some (.slice _), some (.one (.raw (.slice none 0 0))) => val n pc (some (.one (.int .i64 (.lit 0))))
        | some (.slice _), some (.one (.bls id len)) => match h id with
          | some (.lst b) => if len.same b.n then valT n pc [id] (some (.one (.int .i64 b.n))) else .bad 22
          | _ => .bad 22
        | some .string, some (.one (.str a)) => val n pc (some (.one (.int .i64 (.fxS 0 a (.lit 0)))))
        | some (.array m _), some _ => val n pc (some (.one (.int .i64 (.lit m))))
        | _, _ => .bad 22
      | _, _ => .bad 22
def oCap (P : Program) (n : Nat) (pc : PC) (e : Operand → Option SV) (c : Call) : T Res := match c.args.toList, c.argTypes.toList with
      | [x], t :: _ => match P.underlying t, e x with
        | some (.slice _), some (.one (.slc _ _ _ m true)) => val n pc (some (.one (.int .i64 (.lit m))))
        | some (.slice _), some (.one (.raw (.slice none 0 0))) => val n pc (some (.one (.int .i64 (.lit 0))))
        | _, _ => .bad 46
      | _, _ => .bad 46
def oMin (n : Nat) (pc : PC) (e : Operand → Option SV) (c : Call) : T Res := match evL e c.args.toList with
      | some (.one (.int k a) :: r) => val n pc (mmS mnS k a r)
      | _ => .bad 23
def oMax (n : Nat) (pc : PC) (e : Operand → Option SV) (c : Call) : T Res := match evL e c.args.toList with
      | some (.one (.int k a) :: r) => val n pc (mmS mxS k a r)
      | _ => .bad 23
def oApp (P : Program) (ls : List LD) (n : Nat) (pc : PC) (e : Operand → Option SV) (h : Vw) (c : Call) : T Res := match c.args.toList, c.argTypes.toList with
      | [s, x], [t, t2] => match P.underlying t, P.underlying t2, e s, e x with
        | some (.slice el), some (.slice _), some (.one (.bls id len)), some (.one xv) => appB P h n pc el id len xv
        | some (.slice el), some (.slice _), some (.one (.empL _)), some (.one xv) => appC P ls h n pc el xv []
        | some (.slice el), some (.slice _), some (.one (.empB id)), some (.one xv) => match h id with
          | some (.lst _) => appC P ls h n pc el xv [id]
          | _ => .bad 86
        | some (.slice el), some (.slice _), some (.one (.slc _ _ 0 0 true)), some (.one (.ssl L)) => appC P ls h n pc el (.ssl L) []
        | some (.slice el), some (.slice _), some (.one (.slc _ _ 0 0 true)), some (.one (.bls i m)) => appC P ls h n pc el (.bls i m) []
        | some (.slice el), some (.slice _), some (.one (.raw (.slice none 0 0))), some (.one (.ssl L)) => appC P ls h n pc el (.ssl L) []
        | some (.slice el), some (.slice _), some (.one (.raw (.slice none 0 0))), some (.one (.bls i m)) => appC P ls h n pc el (.bls i m) []
        | some (.slice el), some (.slice _), some (.one sv), some (.one xv) => appE P h n pc el sv xv
        | some (.slice el), some (.int _), some (.one sv), some (.one xv) => appZ P h n pc el sv xv
        | _, _, _, _ => .bad 47
      | _, _ => .bad 47
def oCpy (P : Program) (n : Nat) (pc : PC) (e : Operand → Option SV) (h : Vw) (c : Call) : T Res := match c.args.toList, c.argTypes.toList with
      | [s, x], [t, _] => match P.underlying t, e s, e x with
        | some (.slice el), some (.one (.slc id off len _ _)), some (.one xv) => match sizeT P el, h id with
          | some z, some (.blk b) => match srcE h z xv with
            | some (new, m, t1) =>
              if (off + len * z).ble b.cs.length && !b.ro && new.all SCl.cellOk then
                .ret ⟨.one (.int .i64 (.lit (min m len : Nat))), (id, some (.blk ⟨b.elem, putL b.cs off (new.take (min m len * z)), b.sz, false, []⟩)) :: dropAll b.sib, n, pc, id :: (b.sib ++ t1)⟩
              else .bad 60
            | none => .bad 60
          | _, _ => .bad 60
        | _, _, _ => .bad 60
      | _, _ => .bad 60
def oClr (P : Program) (n : Nat) (pc : PC) (e : Operand → Option SV) (h : Vw) (c : Call) : T Res := match c.args.toList, c.argTypes.toList with
      | [s], [t] => match P.underlying t, e s with
        | some (.slice el), some (.one (.slc id off len _ _)) => match elT P el, h id with
          | some (z, _, zs), some (.blk b) => if (off + len * z).ble b.cs.length && !b.ro && !len.beq 0 then
                .ret ⟨.tup [], (id, some (.blk ⟨b.elem, putL b.cs off (zerosL zs (len * z)), b.sz, false, []⟩)) :: dropAll b.sib, n, pc, id :: b.sib⟩
              else if len.beq 0 then val n pc (some (.tup [])) else .bad 61
          | _, _ => .bad 61
        | _, _ => .bad 61
      | _, _ => .bad 61
def oVal (P : Program) (call : CallF) (n : Nat) (pc : PC) (e : Operand → Option SV) (h : Vw) (f : Operand) (c : Call) : T Res := match e f, evL e c.args.toList with
      | some fv, some args => match tgtE h fv with
        | some (tg, caps, t0) =>
          if tg.ok P then
            match reachE h reachFuel (t0 ++ (args ++ caps).flatMap SV.ids) 0 [] with
            | some (_, ids) =>
              if lowL n ids then
                (call.run tg (args ++ caps) (pickL h ids) n pc).bind fun (v, f, n', pc) => .ret ⟨v, f, n', pc, ids⟩
              else .bad 25
            | none => .bad 24
          else .bad 25
        | none => .bad 26
      | _, _ => .bad 26
def oCall (P : Program) (call : CallF) (n : Nat) (pc : PC) (e : Operand → Option SV) (h : Vw) (c : Call) : T Res := match c.callee with
    | .builtin .len => oLen P call.ls n pc e h c
    | .builtin .cap => oCap P n pc e c
    | .builtin .min => oMin n pc e c
    | .builtin .max => oMax n pc e c
    | .builtin .append => oApp P call.ls n pc e h c
    | .builtin .copy => oCpy P n pc e h c
    | .builtin .clear => oClr P n pc e h c
    | .value f => oVal P call n pc e h f c
    | _ => .bad 27
/-- One operation: what it yields and what it does to objects; 'n': the first free name; which objects it looks at. -/
def opE (P : Program) (call : CallF) (pc : PC) (e : Operand → Option SV) (h : Vw) (n : Nat) (o : Oper) : T Res :=
  match o.op with
  | .move x | .assign x => val n pc (e x)
  | .pick c a b => oPick n pc e c a b
  | .alloc t => oAlloc P n pc t
  | .box t x => oBox n pc e t x
  | .build t parts => oBuild P n pc e t parts
  | .load t a => oLoad P call.ls n pc e h t a
  | .store t a x => oStore P n pc e h t a x
  | .nilCheck x => oNil n pc e x
  | .binOp op t x y _ => oBin P call.ls h n pc e op t x y
  | .unOp op _ x => oUn n pc e op x
  | .convert s d x => oConv P n pc e s d x
  | .fieldAddr s x f => oFA P n pc e s x f
  | .field t x f => oFld P n pc e t x f
  | .indexAddr t x i => oIA P call.ls n pc e h t x i
  | .index t x i => oIdx P n pc e t x i
  | .extract x i => oExt n pc e x i
  | .makeFunc fn first caps => oMkF n pc e fn first caps
  | .buildSlice t len parts => oBS P n pc e t len parts
  | .makeSlice t l c => oMkS P n pc e t l c
  | .slice t x lo hi mx => oSl P n pc e h t x lo hi mx
  | .call c => oCall P call n pc e h c
  | _ => .bad 28

/-- Is the operation wanted: its guard. -/
def guardE {α : Type} (ops : Array Oper) (tm : Tm) (pc : PC) (o : Oper) (k : PC → Bool → T α) : T α :=
  match o.guard with
  | none => k pc true
  | some (j, want) => match (ops[j]?).bind (·.dst) with
    | none => .bad 30
    | some t => match tm.get t with
      | some (.one (.bool b)) => T.cond pc b fun pc v => k pc (v == want)
      | some (.tup _) => k pc false
      | _ => .bad 31
def Tm.put (tm : Tm) (d : Option Tmp) (v : SV) : Tm := match d with | some t => (t, v) :: tm | none => tm
/-- What one operation of a region came to: its value, what it did, its names (from n0, below n), the objects that it looked at. -/
structure Rr where
  v : SV
  f : Hp
  n0 : Nat
  n : Nat
  tch : List Nat
  deriving Inhabited
def Hp.told (n : Nat) (f : Hp) : Bool := f.all fun p => p.1.blt n && match p.2 with | some o => lowL n o.ids | none => true
/-- What was done is done to new objects (n0 to n) and to those that were looked at. -/
def dOk (n0 n : Nat) (tch : List Nat) (h : Vw) (f : Hp) : Bool := f.all fun p =>
  (n0.ble p.1 && p.1.blt n) || (tch.any (·.beq p.1) && match h p.1 with
    | some o => o.addr && (match p.2 with | some o' => o'.isL == o.isL | none => true) && (if o.ro then (match p.2 with | some o' => o'.ro | none => true) else o.sib.all (f.has ·))
    | none => false)
/-- What an operation has done is told in order. -/
def okR (n : Nat) (s : Res) (h : Vw) : Bool := cond (n.ble s.n) (cond (s.v.below s.n) (match s.f with | [] => true | f => s.f.told s.n && dOk n s.n s.tch h f) false) false
/-- The operations of a region in their written order. -/
def seqE (P : Program) (call : CallF) (h0 : Vw) (ops : Array Oper) (l : List Oper) : PC → Tm → Hp → Nat → List Rr → T (PC × Tm × Hp × Nat × List Rr) :=
  List.rec (motive := fun _ => PC → Tm → Hp → Nat → List Rr → T (PC × Tm × Hp × Nat × List Rr)) (fun pc tm d n acc => .ret (pc, tm, d, n, acc.reverse))
    (fun o _ ih pc tm d n acc => guardE ops tm pc o fun pc w =>
      cond w ((opE P call pc (ev tm) (d.over h0) n o).bind fun s =>
        cond (okR n s (d.over h0)) (ih s.pc (tm.put o.dst s.v) (s.f.app d) s.n (⟨s.v, s.f, n, s.n, s.tch⟩ :: acc)) (.bad 42))
        (ih pc (tm.put o.dst (.tup [])) d n (⟨.tup [], [], n, n, []⟩ :: acc))) l
def Hp.keys (f : Hp) : List Nat := f.map (·.1)
def Hp.ids : Hp → List Nat
  | [] => []
  | (k, some o) :: r => k :: o.ids ++ Hp.ids r
  | (k, none) :: r => k :: Hp.ids r
def ancOf (acc : List Nat) (o : Oper) : Nat :=
  o.after.toList.foldl (fun s e => if Region.binds .any e then s ||| (2 ^ e.on ||| acc.getD e.on 0) else s) 0
def ancs : List Oper → List Nat → List Nat
  | [], acc => acc
  | o :: r, acc => ancs r (acc ++ [ancOf acc o])
def looks (ops : Array Oper) (o : Oper) : List Nat := o.looksAt ops
def sameO (a b : Option Nat) : Bool := match a, b with | some x, some y => x.beq y | _, _ => false
def inO (a : Option Nat) (l : List Nat) : Bool := match a with | some x => l.any (·.beq x) | none => false
def meets (a b : List Nat) : Bool := a.any fun x => b.any (·.beq x)
/-- Two operations of a region that may not change places. -/
def clash (ops : Array Oper) (a b : Oper × Rr) : Bool :=
  inO a.1.dst (looks ops b.1) || inO b.1.dst (looks ops a.1) || sameO a.1.dst b.1.dst ||
  meets a.2.f.keys b.2.tch || meets b.2.f.keys a.2.tch || meets a.2.f.keys b.2.f.keys
/-- Against what stands in front of it (numbers k, k + 1, ..). -/
def clear1 (ops : Array Oper) (m : Nat) (x : Oper × Rr) : List (Oper × Rr) → Nat → Bool
  | [], _ => true
  | y :: r, k => (m.testBit k || !clash ops y x) && clear1 ops m x r (k + 1)
/-- A name of an operation that it knows of. -/
def toldBy (m id : Nat) : List (Oper × Rr) → Nat → Bool
  | [], _ => false
  | y :: r, k => (m.testBit k && y.2.n0.ble id && id.blt y.2.n) || toldBy m id r (k + 1)
/-- All operations: what is in front (in order), what is still to come. -/
def clearAll (ops : Array Oper) (base : Nat) : List (Oper × Rr) → List (Oper × Rr) → List Nat → Nat → Bool
  | _, [], _, _ => true
  | pre, x :: r, m :: ms, i =>
    clear1 ops m x pre 0 &&
    (x.2.v.ids ++ x.2.f.ids).all (fun id => id.blt base || (x.2.n0.ble id && id.blt x.2.n) || toldBy m id pre 0) &&
    x.1.after.toList.all (fun e => !Region.binds .any e || e.on.blt i) &&
    clearAll ops base (pre ++ [x]) r ms (i + 1)
  | _, _ :: _, [], _ => false
def anyOk (ops : Array Oper) (base : Nat) (rs : List Rr) : Bool :=
  rs.length.beq ops.size && clearAll ops base [] (ops.toList.zip rs) (ancs ops.toList []) 0
structure St where
  pc : PC
  tm : Tm
  d : Hp
  next : Nat
  mks : List Nat
  deriving Inhabited
inductive SXt where
  | norm
  | ex (id : Nat)
  | ret
  deriving Inhabited
def dstOk (nt : Nat) (ops : Array Oper) : Bool := ops.toList.all fun o => match o.dst with | some d => d.blt nt | none => true
/-- A straight operation is its own order. -/
def regE (P : Program) (call : CallF) (h0 : Vw) (nt : Nat) (ops : Array Oper) (draw : Bool) (s : St) : T St :=
  if dstOk nt ops then
    (seqE P call h0 ops ops.toList s.pc s.tm s.d s.next []).bind fun (pc, tm, d, n, rs) =>
      if (!draw || anyOk ops s.next rs) then .ret ⟨pc, tm, d, n, s.mks⟩ else .bad 40
  else .bad 41
def tmpOf : Operand → Option Nat
  | .tmp t => some t
  | _ => none
/-- The temporaries that code names. -/
def readsC : Code → List Nat
  | .region _ ops _ => ops.toList.flatMap fun o => o.op.operands.toList.filterMap tmpOf
  | .seq a b => readsC a ++ readsC b
  | .cond c a b => (tmpOf c).toList ++ (readsC a ++ readsC b)
  | .block _ a => readsC a
  | .loop a => readsC a
  | .rangeFunc f _ a b => (tmpOf f).toList ++ (readsC a ++ readsC b)
  | .scope a => readsC a
  | _ => []
def pruneG : Nat → List Nat → Tm → Tm
  | _, [], _ => []
  | m, t :: r, tm => if m.testBit t then pruneG m r tm else match tm.get t with
    | some s => (t, s) :: pruneG (m ||| 2 ^ t) r tm
    | none => pruneG (m ||| 2 ^ t) r tm
/-- The temporaries of a list. -/
def pruneT (l : List Nat) (tm : Tm) : Tm := pruneG 0 l tm
def putPs (tm : Tm) : List Nat → List SV → Option Tm
  | [], [] => some tm
  | p :: ps, v :: vs => putPs ((p, v) :: tm) ps vs
  | _, _ => none
/-- A loop over a function. -/
def rangeE (P : Program) (call : CallF) (h0 : Vw) (nt : Nat) (rd : Option Nat) (f : Operand) (ps : Array Tmp) (asg body : Code) (s : St) : T (SXt × St) :=
      let h := s.d.over h0
      match (match rd with
        | none => some (s.next, s.next + 1, [(s.next, some Ob.dfr)], s.next :: s.mks)
        | some l => match h l with
          | some (.yld y) => some (y.dfr, s.next, [], s.mks)
          | _ => none) with
      | none => .bad 53
      | some (df, yid, d0, mk) =>
        let d1 := Hp.app [(yid, some (.yld ⟨nt, pruneT (readsC asg ++ readsC body) s.tm, ps.toList, asg, body, df, 0, none⟩))] (Hp.app d0 s.d)
        let h1 := Hp.over d1 h0
        match ev s.tm f with
        | none => .bad 54
        | some fv => match tgtE h1 fv with
          | some (.fn g, caps, t0) =>
            let args := .one (.nm yid) :: caps
            if callable P g then
              match reachE h1 reachFuel (t0 ++ args.flatMap SV.ids) 0 [] with
              | some (_, ids) =>
                if lowL (yid + 1) ids then
                  (call.run (.fn g) args (pickL h1 ids) (yid + 1) s.pc).bind fun (_, f, n', pc) =>
                    if (yid + 1).ble n' && f.told n' && dOk (yid + 1) n' ids h1 f then
                      let d2 := Hp.app f d1
                      match d2.get yid with
                      | some (some (.yld y)) =>
                        if y.st.beq 1 then .bad 55 else
                        let s' : St := ⟨pc, s.tm, Hp.app [(yid, none)] d2, n', mk⟩
                        match y.pend with
                        | none => .ret (.norm, s')
                        | some .ret => .ret (.ret, s')
                        | some (.exit j) => .ret (.ex j, s')
                        | some _ => .bad 55
                      | _ => .bad 55
                    else .bad 56
                else .bad 56
              | none => .bad 56
            else .bad 57
          | _ => .bad 57
/-! What is known of loops. -/
def IE.sb : IE → Nat → IE → IE
  | .at k, i, e => if k.beq i then e else .at k
  | .lit n, _, _ => .lit n
  | .add a b, i, e => .add (a.sb i e) (b.sb i e)
  | .sub a b, i, e => .sub (a.sb i e) (b.sb i e)
  | .mul a b, i, e => .mul (a.sb i e) (b.sb i e)
  | .quo a b, i, e => .quo (a.sb i e) (b.sb i e)
  | .rem a b, i, e => .rem (a.sb i e) (b.sb i e)
  | .wr k a, i, e => .wr k (a.sb i e)
  | .mn a b, i, e => .mn (a.sb i e) (b.sb i e)
  | .mx a b, i, e => .mx (a.sb i e) (b.sb i e)
  | .ap f a b, i, e => .ap f (a.sb i e) (b.sb i e)
  | .fx f a b, i, e => .fx f (a.sb i e) (b.sb i e)
def BE.sb (i : Nat) (e : IE) : BE → BE
  | .lit b => .lit b
  | .lt a b => .lt (a.sb i e) (b.sb i e)
  | .le a b => .le (a.sb i e) (b.sb i e)
  | .eq a b => .eq (a.sb i e) (b.sb i e)
  | .not a => .not (a.sb i e)
  | .and a b => .and (a.sb i e) (b.sb i e)
def SCl.sb (i : Nat) (e : IE) : SCl → SCl
  | .int k a => .int k (a.sb i e)
  | .bool b => .bool (b.sb i e)
  | .ept L j c => .ept L (j.sb i e) c
  | .opq f j c => .opq f (j.sb i e) c
  | .str a => .str (a.sb i e)
  | .bls id n => .bls id (n.sb i e)
  | .bpt id z j c => .bpt id z (j.sb i e) c
  | .blc k el f h n ks => .blc k el f h (n.sb i e) ks
  | c => c
def S1.sb (i : Nat) (e : IE) (s : S1) : S1 := ⟨s.agg, s.cs.map (SCl.sb i e)⟩
def SV.sb (i : Nat) (e : IE) : SV → SV
  | .one c => .one (c.sb i e)
  | .agg cs => .agg (cs.map (SCl.sb i e))
  | .tup vs => .tup (vs.map (S1.sb i e))
def Tm.sb (i : Nat) (e : IE) (tm : Tm) : Tm := tm.map fun p => (p.1, p.2.sb i e)
def Blk.sb (i : Nat) (e : IE) (b : Blk) : Blk := { b with cs := b.cs.map (SCl.sb i e) }
/-- Number i does not stand there. -/
def IE.noI (i : Nat) : IE → Bool
  | .at k => !k.beq i
  | .lit _ => true
  | .add a b | .sub a b | .mul a b | .quo a b | .rem a b | .mn a b | .mx a b | .ap _ a b | .fx _ a b => a.noI i && b.noI i
  | .wr _ a => a.noI i
def BE.noI (i : Nat) : BE → Bool
  | .lit _ => true
  | .lt a b | .le a b | .eq a b => a.noI i && b.noI i
  | .not a => a.noI i
  | .and a b => a.noI i && b.noI i
def SCl.noI (i : Nat) : SCl → Bool
  | .int _ a => a.noI i
  | .bool b => b.noI i
  | .ept _ j _ => j.noI i
  | .opq _ j _ => j.noI i
  | .str a => a.noI i
  | .bls _ n => n.noI i
  | .bpt _ _ j _ => j.noI i
  | .blc _ _ _ _ n _ => n.noI i
  | .ssl L => !L.n.beq i
  | _ => true
def SV.noI (i : Nat) : SV → Bool
  | .one c => c.noI i
  | .agg cs => cs.all (SCl.noI i)
  | .tup vs => vs.all fun s => s.cs.all (SCl.noI i)
def Ob.noI (i : Nat) : Ob → Bool
  | .blk b => b.cs.all (SCl.noI i)
  | .lst b => (match b.k with | none => true | some k => k.noI i) && (b.n.noI i && b.ups.all fun p => p.1.noI i && p.2.all (SCl.noI i))
  | .clo _ caps => caps.all fun s => s.cs.all (SCl.noI i)
  | .dfr => true
  | .yld y => y.tm.all fun p => p.2.noI i
/-- A list's length is not number i. -/
def SCl.okI (i : Nat) : SCl → Bool
  | .ssl L => !L.n.beq i
  | _ => true
def SV.okI (i : Nat) : SV → Bool
  | .one c => c.okI i
  | .agg cs => cs.all (SCl.okI i)
  | .tup vs => vs.all fun s => s.cs.all (SCl.okI i)
def S1.eqP (pc : PC) (a b : S1) : Bool := a.agg == b.agg && eqPL pc a.cs b.cs
def eqPS (pc : PC) : List S1 → List S1 → Bool
  | [], [] => true
  | a :: r, b :: s => a.eqP pc b && eqPS pc r s
  | _, _ => false
def SV.eqP (pc : PC) : SV → SV → Bool
  | .one a, .one b => a.eqP pc b
  | .agg a, .agg b => eqPL pc a b
  | .tup a, .tup b => eqPS pc a b
  | _, _ => false
/-- A loop that is known: which (key), the number of the round in which it is left; at a round's head: the temporaries, the blocks that it changes, the objects that it only looks at; what is known in the last round; what may be known in a round before it (one of these); the first name that is free; the lists of the call's own that grow. -/
structure LAnn where
  key : Nat
  i : Nat
  tms : Tm
  obs : List (Nat × Blk)
  cobs : List Nat
  pc : PC
  pcR : List PC
  nx : Nat
  lobs : List (Nat × LB)
  ax0 : List (LB × LB)
  ax : List (LB × LB)
  deriving Inhabited
def keyC (c : Code) : Nat := (readsC c).foldl (fun a t => (a * 31 + t + 1) % 1000003) 7
def LAnn.find (k : Nat) (ok : LAnn → Bool) : List LAnn → Option (LAnn × List LAnn)
  | [] => none
  | A :: r => cond (A.key.beq k && ok A) (some (A, r)) (LAnn.find k ok r)
def obsH (obs : List (Nat × Blk)) : Hp := obs.map fun p => (p.1, some (.blk p.2))
def lobsH (obs : List (Nat × LB)) : Hp := obs.map fun p => (p.1, some (.lst p.2))
def ndK : List Nat → Bool
  | [] => true
  | k :: r => !(r.any (·.beq k)) && ndK r
def obsS (i : Nat) (e : IE) (obs : List (Nat × Blk)) : List (Nat × Blk) := obs.map fun p => (p.1, p.2.sb i e)
def LB.sb (i : Nat) (e : IE) (b : LB) : LB := { b with k := b.k.map fun k => k.sb i e, n := b.n.sb i e }
def lobsS (i : Nat) (e : IE) (obs : List (Nat × LB)) : List (Nat × LB) := obs.map fun p => (p.1, p.2.sb i e)
def maxN (a b : Nat) : Nat := if a.ble b then b else a
def LAnn.objs (A : LAnn) : Hp := obsH A.obs ++ lobsH A.lobs
def SV.flat : SV → List SCl
  | .one c => [c]
  | .agg cs => cs
  | .tup vs => vs.flatMap fun s => s.cs
/-- For a list's name at a loop's head: the name that stands there now ('none': the nil slice). -/
def sg1 (k : Nat) : List SCl → List SCl → Option (Option Nat)
  | a :: r, b :: s => match a, b with
    | .bls j _, .bls i _ => if j.beq k then some (some i) else sg1 k r s
    | .bls j _, .raw (.slice none 0 0) => if j.beq k then some none else sg1 k r s
    | _, _ => sg1 k r s
  | _, _ => none
def sgTm (k : Nat) (tm' : Tm) : Tm → Option (Option Nat)
  | [] => none
  | p :: r => match (match tm'.get p.1 with | some v => sg1 k p.2.flat v.flat | none => none) with
    | some x => some x
    | none => sgTm k tm' r
def sgOb (k : Nat) (h : Vw) : List (Nat × Blk) → Option (Option Nat)
  | [] => none
  | p :: r => match (match h p.1 with | some (.blk b) => sg1 k p.2.cs b.cs | _ => none) with
    | some x => some x
    | none => sgOb k h r
abbrev Sg := List (Nat × Option Nat)
def LAnn.sg (A : LAnn) (tm : Tm) (h : Vw) : Sg := A.lobs.map fun p => (p.1, match sgTm p.1 tm A.tms with
  | some x => x
  | none => match sgOb p.1 h A.obs with
    | some x => x
    | none => none)
def Sg.get (id : Nat) : Sg → Option (Option Nat)
  | [] => none
  | p :: r => cond (p.1.beq id) (some p.2) (Sg.get id r)
def Sg.tgts : Sg → List Nat
  | [] => []
  | (_, some j) :: r => j :: Sg.tgts r
  | (_, none) :: r => Sg.tgts r
def LAnn.tgts (A : LAnn) (tm : Tm) (h : Vw) : List Nat := (A.sg tm h).tgts
/-- The same with the names that stand there now. -/
def SCl.rn (g : Sg) (c : SCl) : SCl := match c.id? with
  | none => c
  | some id => match g.get id with
    | none => c
    | some x => match c, x with
      | .bls _ n, some j => .bls j n
      | .bls _ _, none => .raw (.slice none 0 0)
      | _, _ => .raw undef
def S1.rn (g : Sg) (s : S1) : S1 := ⟨s.agg, s.cs.map (SCl.rn g)⟩
def SV.rn (g : Sg) : SV → SV
  | .one c => .one (c.rn g)
  | .agg cs => .agg (cs.map (SCl.rn g))
  | .tup vs => .tup (vs.map (S1.rn g))
def eqTm (pc : PC) (g : Sg) (tm tm' : Tm) : Bool := tm.all fun p => match tm'.get p.1 with | some v => (p.2.rn g).eqP pc v | none => false
def eqOb (pc : PC) (g : Sg) (obs : List (Nat × Blk)) (h : Vw) : Bool := obs.all fun p => match h p.1 with
  | some (.blk b) => Nat.beq p.2.elem b.elem && (p.2.sz.beq b.sz && (!b.ro && (b.sib.isEmpty && eqPL pc (p.2.cs.map (SCl.rn g)) b.cs)))
  | _ => false
/-- The lists that grow stand there, with the values that they should have, by what is known of those. -/
def eqLb (pc : PC) (ax : List (LB × LB)) (g : Sg) (lobs : List (Nat × LB)) (h : Vw) : Bool := lobs.all fun p => match g.get p.1 with
  | some none => IE.eqP pc p.2.n (.lit 0)
  | some (some j) => match h j with
    | some (.lst b) => LB.like pc p.2 b || (Nat.beq p.2.elem b.elem && (sameK p.2.ks b.ks && (IE.eqP pc p.2.n b.n && ax.any fun q => LB.like pc q.1 p.2 && LB.like pc q.2 b)))
    | _ => false
  | none => false
/-- What a round looks at. -/
def LAnn.view (A : LAnn) (h : Vw) : Hp := A.objs ++ pickL h A.cobs
def LAnn.startOk (A : LAnn) (rd : Option Nat) (h : Vw) (s : St) : Bool :=
  ndK (A.obs.map (·.1) ++ A.lobs.map (·.1)) && (s.mks.isEmpty && ((A.lobs.isEmpty && A.nx.ble s.next || s.next.ble A.nx) && (eqTm s.pc (A.sg s.tm h) (A.tms.sb A.i (.lit 0)) s.tm && (eqOb s.pc (A.sg s.tm h) (obsS A.i (.lit 0) A.obs) h &&
  (A.obs.all (fun p => p.1.blt A.nx && (p.1.blt s.next && (p.2.sib.isEmpty && (!p.2.ro && (lowL A.nx (idsL p.2.cs) && p.2.cs.all (SCl.okI A.i)))))) &&
  (A.cobs.all (fun id => id.blt A.nx && (id.blt s.next && (!((A.sg s.tm h).tgts.any (·.beq id)) && match h id with | some o => lowL A.nx o.ids && o.noI A.i | none => true))) &&
  (lowL A.nx A.tms.ids && (A.tms.all (fun p => p.2.okI A.i) &&
  (A.lobs.all (fun p => s.next.ble p.1 && (p.1.blt A.nx && p.2.ups.isEmpty)) &&
  (eqLb s.pc A.ax0 (A.sg s.tm h) (lobsS A.i (.lit 0) A.lobs) h && (ndK (A.sg s.tm h).tgts && ((A.sg s.tm h).tgts.all (fun j => j.blt s.next && !(A.obs.any fun p => p.1.beq j)) &&
  (match rd with | none => true | some l => match Hp.over (A.view h) (fun _ => none) l with | some (.yld _) => true | _ => false)))))))))))))
def LAnn.backOk (A : LAnn) (hR : Vw) (r : SXt × St) : Bool := match r.1 with
  | .norm => r.2.mks.isEmpty && (eqTm r.2.pc (A.sg r.2.tm (r.2.d.over hR)) (A.tms.sb A.i (.add (.at A.i) (.lit 1))) r.2.tm && (eqOb r.2.pc (A.sg r.2.tm (r.2.d.over hR)) (obsS A.i (.add (.at A.i) (.lit 1)) A.obs) (r.2.d.over hR) &&
      (r.2.d.all (fun p => A.nx.ble p.1 || (A.obs.any (fun q => q.1.beq p.1) || A.lobs.any (fun q => q.1.beq p.1))) &&
      (eqLb r.2.pc A.ax (A.sg r.2.tm (r.2.d.over hR)) (lobsS A.i (.add (.at A.i) (.lit 1)) A.lobs) (r.2.d.over hR) && (ndK (A.sg r.2.tm (r.2.d.over hR)).tgts &&
      (A.sg r.2.tm (r.2.d.over hR)).tgts.all (fun j => A.nx.ble j || A.lobs.any (fun q => q.1.beq j)))))))
  | _ => false
abbrev RunF := List LAnn → CallF
/-- One step of a body; 'rd': the loop whose round this is. -/
def stepX (P : Program) (rc : RunF) (nt : Nat) (rd : Option Nat) (rec : List LAnn → Vw → Code → St → T (SXt × St)) (lps : List LAnn) (h0 : Vw) (c : Code) (s : St) : T (SXt × St) := match c with
    | .skip => .ret (.norm, s)
    | .label _ => .ret (.norm, s)
    | .region _ ops draw => (regE P (rc lps) h0 nt ops draw s).bind fun s => .ret (.norm, s)
    | .seq a b => (rec lps h0 a s).bind fun (x, s) => match x with
      | .norm => rec lps h0 b s
      | x => .ret (x, s)
    | .cond c a b => match ev s.tm c with
      | some (.one (.bool x)) => T.cond s.pc x fun pc v => rec lps h0 (if v then a else b) { s with pc := pc }
      | _ => .bad 51
    | .block id body => (rec lps h0 body s).bind fun (x, s) => match x with
      | .ex j => if j.beq id then .ret (.norm, s) else .ret (.ex j, s)
      | x => .ret (x, s)
    | .loop body => match (match lps with | [] => none | l => LAnn.find (keyC body) (fun A => A.startOk rd (s.d.over h0) s) l) with
      | none => (rec lps h0 body s).bind fun (x, s) => match x with
        | .norm => rec lps h0 (.loop body) s
        | x => .ret (x, s)
      | some (A, tl) =>
        cond (A.pcR.all fun pcr => (rec tl (Hp.over (A.view (s.d.over h0)) fun _ => none) body ⟨pcr, A.tms, [], A.nx, []⟩).all (A.backOk (Hp.over (A.view (s.d.over h0)) fun _ => none)))
          ((rec lps h0 body ⟨A.pc ++ s.pc, A.tms, Hp.app A.objs (Hp.app (dropAll (A.tgts s.tm (s.d.over h0))) s.d), maxN s.next A.nx, []⟩).bind fun (x, s) => match x with
            | .norm => .bad 90
            | x => .ret (x, s))
          (.bad 91)
    | .exit id => .ret (.ex id, s)
    | .ret => .ret (.ret, s)
    | .rangeFunc f ps asg body => rangeE P (rc lps) h0 nt rd f ps asg body s
    | _ => .bad 52
def exec (P : Program) (rc : RunF) (nt : Nat) (rd : Option Nat) (n : Nat) : List LAnn → Vw → Code → St → T (SXt × St) :=
  Nat.rec (motive := fun _ => List LAnn → Vw → Code → St → T (SXt × St)) (fun _ _ _ _ => .bad 50) (fun _ ih => stepX P rc nt rd ih) n
def resV (P : Program) (tm : Tm) (h : Vw) : ResultVar → Option SV
  | .tmp t => tm.get t
  | .cell a t => match tm.get a with
    | some (.one (.ptr id off)) => match h id with
      | some (.blk b) => partS P t b.cs off
      | _ => none
    | _ => none
def resL (P : Program) (tm : Tm) (h : Vw) : List ResultVar → Option (List SV)
  | [] => some []
  | r :: rs => match resV P tm h r, resL P tm h rs with
    | some v, some vs => some (v :: vs)
    | _, _ => none
def resE (P : Program) (fn : Func) (tm : Tm) (h : Vw) : Option SV :=
  match resL P tm h fn.results.toList with
  | some [v] => some v
  | some vs => (s1L vs).map .tup
  | none => none
def tmU : Nat → Nat → Tm
  | _, 0 => []
  | i, k + 1 => (i, .tup []) :: tmU (i + 1) k
def tm0 : List SV → Nat → Nat → Tm
  | [], i, k => tmU i k
  | v :: vs, i, k => (i, v) :: tm0 vs (i + 1) (k - 1)
def SCl.same : SCl → SCl → Bool
  | .int k a, .int l b => IntKind.same k l && a.same b
  | .bool a, .bool b => a.same b
  | .ssl L, .ssl M => L.same M
  | .ept L j c, .ept M k d => L.same M && (j.same k && c.beq d)
  | .opq i j c, .opq m k d => i.beq m && (j.same k && c.beq d)
  | .str a, .str b => a.same b
  | .raw v, .raw w => rawEq v w
  | _, _ => false
def sameL : List SCl → List SCl → Bool
  | [], [] => true
  | a :: r, b :: s => a.same b && sameL r s
  | _, _ => false
def SV.same : SV → SV → Bool
  | .one a, .one b => a.same b
  | .agg a, .agg b => sameL a b
  | _, _ => false
def sameVs : List SV → List SV → Bool
  | [], [] => true
  | a :: r, b :: s => a.same b && sameVs r s
  | _, _ => false
/-- What is known of calls: a function, its arguments, what it hands back. -/
abbrev Con := List (FuncId × List SV × SV)
def Con.find (f : FuncId) (args : List SV) : Con → Option SV
  | [] => none
  | (g, xs, v) :: r => if g.beq f && sameVs xs args then some v else Con.find f args r
/-- The lists that a contract names. -/
def SCl.blcs : SCl → List (Nat × LB)
  | .blc k e i h n ks => [(k, ⟨e, i, h, n, ks, []⟩)]
  | _ => []
def SV.blcs (v : SV) : List (Nat × LB) := v.flat.flatMap SCl.blcs
/-- No names but those of its lists. -/
def SCl.onlyB : SCl → Bool
  | .blc _ _ _ _ _ _ => true
  | c => c.id?.isNone
def insV (args : List SV) : List (Nat × LB) := args.flatMap SV.blcs
/-- An argument as a contract tells it. -/
def SCl.mt (pc : PC) (h : Vw) : SCl → SCl → Bool
  | .blc _ e i k n ks, .bls id n' => match h id with
    | some (.lst b) => LB.like pc ⟨e, i, k, n, ks, []⟩ b && n'.same b.n
    | _ => false
  | .blc _ _ _ _ _ _, _ => false
  | a, b => a.same b
def mtL (pc : PC) (h : Vw) : List SCl → List SCl → Bool
  | [], [] => true
  | a :: r, b :: s => a.mt pc h b && mtL pc h r s
  | _, _ => false
def SV.mt (pc : PC) (h : Vw) : SV → SV → Bool
  | .one a, .one b => a.mt pc h b
  | .agg a, .agg b => mtL pc h a b
  | _, _ => false
def mtVs (pc : PC) (h : Vw) : List SV → List SV → Bool
  | [], [] => true
  | a :: r, b :: s => a.mt pc h b && mtVs pc h r s
  | _, _ => false
def bdL : List SCl → List SCl → List (Nat × Nat)
  | a :: r, b :: s => match a, b with
    | .blc k _ _ _ _ _, .bls id _ => (k, id) :: bdL r s
    | _, _ => bdL r s
  | _, _ => []
def SV.bd (a b : SV) : List (Nat × Nat) := bdL a.flat b.flat
def bdVs : List SV → List SV → List (Nat × Nat)
  | a :: r, b :: s => a.bd b ++ bdVs r s
  | _, _ => []
def Con.findL (pc : PC) (h : Vw) (f : FuncId) (args : List SV) : Con → Option SV
  | [] => none
  | (g, xs, v) :: r => cond (g.beq f && (mtVs pc h xs args && (ndK ((bdVs xs args).map (·.1)) && ndK ((bdVs xs args).map (·.2))))) (some v) (Con.findL pc h f args r)
/-- With new names. -/
def SCl.fr (nx : Nat) : SCl → SCl
  | .blc k _ _ _ n _ => .bls (nx + k) n
  | c => c
def SV.fr (nx : Nat) : SV → SV
  | .one c => .one (c.fr nx)
  | .agg cs => .agg (cs.map (SCl.fr nx))
  | .tup vs => .tup (vs.map fun s => ⟨s.agg, s.cs.map (SCl.fr nx)⟩)
/-- What a contract hands back. -/
def conE (v : SV) (nx : Nat) (pc : PC) : T (SV × Hp × Nat × PC) :=
  cond (v.ids.isEmpty) (.ret (v, [], nx, pc))
    (cond (v.flat.all SCl.onlyB && (ndK (v.blcs.map (·.1)) && v.blcs.all fun p => p.1.blt v.blcs.length))
      (.ret (v.fr nx, v.blcs.map (fun p => (nx + p.1, some (.lst p.2))), nx + v.blcs.length, pc)) (.bad 85))
/-- The marks of a function's loops: each for itself, none has been taken. -/
def mksOk (h : Vw) : List Nat → Bool
  | [] => true
  | m :: r => !(r.any (·.beq m)) && (match h m with | some .dfr => true | _ => false) && mksOk h r
def dropMk : List Nat → Hp → Hp
  | [], d => d
  | m :: r, d => dropMk r (Hp.app [(m, none)] d)
/-- What a call has done, without the new objects to which nothing leads. -/
def gcE (n0 : Nat) (v : SV) (d : Hp) : Option Hp :=
  match reachE (d.over fun _ => none) reachFuel (v.ids ++ Hp.ids (d.filter fun p => p.1.blt n0)) 0 [] with
  | some (m, _) => some (d.filter fun p => p.1.blt n0 || m.testBit p.1)
  | none => none
/-- A round has ended. -/
def finE (nx id : Nat) (y : Yl) (s : St) (st : Nat) (p : Option Code) (b : Bool) : T (SV × Hp × Nat × PC) :=
  match gcE nx (.one (.bool (.lit b))) (Hp.app [(id, some (.yld { y with st := st, pend := p }))] s.d) with
  | some d => .ret (.one (.bool (.lit b)), d, s.next, s.pc)
  | none => .bad 67
/-- A function's body. -/
def fnE (P : Program) (rc : RunF) (lps : List LAnn) (fuel : Nat) (fn : Func) (c : Code) (args : List SV) (hp : Hp) (nx : Nat) (pc : PC) : T (SV × Hp × Nat × PC) :=
          if args.length.ble fn.ntmps then
            (exec P rc fn.ntmps none fuel lps (Hp.over hp fun _ => none) c ⟨pc, tm0 args 0 fn.ntmps, [], nx, []⟩).bind fun (x, s) => match x with
              | .ex _ => .bad 63
              | _ => match resE P fn s.tm (s.d.over (Hp.over hp fun _ => none)) with
                | some v => if mksOk (s.d.over (Hp.over hp fun _ => none)) s.mks then match gcE nx v (dropMk s.mks s.d) with
                  | some d => .ret (v, d, s.next, s.pc)
                  | none => .bad 67
                  else .bad 68
                | none => .bad 64
          else .bad 65
/-- A round that has ended as it should, with nothing done to the loop's record but what is undone again: it need not be told. -/
def calmE (h0 : Vw) (id : Nat) (y : Yl) (d1 d2 : Hp) : Bool := match d1.get id, d2.get id, y.pend with
  | none, none, none => (Hp.app d2 d1).all fun p => match h0 p.1 with | some o => !(o.sib.any (·.beq id)) | none => true
  | _, _, _ => false
/-- A round. -/
def ylE (P : Program) (rc : RunF) (lps : List LAnn) (fuel : Nat) (id : Nat) (y : Yl) (args : List SV) (hp : Hp) (nx : Nat) (pc : PC) : T (SV × Hp × Nat × PC) :=
    if !(y.st.beq 0 && y.ps.all (·.blt y.nt)) then .bad 70 else
    match putPs y.tm y.ps args with
    | none => .bad 71
    | some tm =>
      let h0 := Hp.over hp fun _ => none
      (exec P rc y.nt (some id) fuel lps h0 y.asg ⟨pc, tm, [], nx, []⟩).bind fun (x, s) => match x with
        | .norm => match (s.d.over h0) id with
          | some (.yld y1) => if !y1.st.beq 0 then .bad 72 else
            let d1 := Hp.app [(id, some (.yld { y1 with st := 1 }))] s.d
            (exec P rc y.nt (some id) fuel lps (d1.over h0) y.body ⟨s.pc, s.tm, [], s.next, s.mks⟩).bind fun (x, s2) =>
              match (s2.d.over (d1.over h0)) id with
              | some (.yld y2) => match x with
                | .norm => if calmE h0 id y s.d s2.d then
                    match gcE nx (.one (.bool (.lit true))) (Hp.app s2.d s.d) with
                    | some d => .ret (.one (.bool (.lit true)), d, s2.next, s2.pc)
                    | none => .bad 67
                  else finE nx id y2 { s2 with d := Hp.app s2.d d1 } 0 none true
                | .ret => finE nx id y2 { s2 with d := Hp.app s2.d d1 } 2 (some .ret) false
                | .ex j => finE nx id y2 { s2 with d := Hp.app s2.d d1 } 2 (some (.exit j)) false
              | _ => .bad 73
          | _ => .bad 74
        | _ => .bad 75
/-- A function that is called by value: by what is known of it, else its body; a round of a loop over a function. -/
def callR (P : Program) (con : Con) (ls : List LD) (fuel : Nat) : Nat → RunF
  | 0, _ => ⟨fun _ _ _ _ _ => .bad 60, ls⟩
  | d + 1, lps => ⟨fun tg args hp nx pc => match tg with
    | .fn f => match con.findL pc (Hp.over hp fun _ => none) f args with
      | some v => conE v nx pc
      | none => match P.funcs[f]? with
        | none => .bad 61
        | some fn => match fn.body with
          | none => .bad 62
          | some c => fnE P (callR P con ls fuel d) lps fuel fn c args hp nx pc
    | .yl id y => ylE P (callR P con ls fuel d) lps fuel id y args hp nx pc, ls⟩
/-- Without lists and loops. -/
def callE (P : Program) (con : Con) (fuel d : Nat) (tg : Tg) (args : List SV) (hp : Hp) (nx : Nat) (pc : PC) : T (SV × Hp × Nat × PC) := (callR P con [] fuel d []).run tg args hp nx pc
def T.isTrue : T SV → Bool
  | .ret (.one (.bool (.lit true))) => true
  | _ => false
/-- Where both ways come to 'true' the condition is left out. -/
def T.prune : T SV → T SV
  | .br c t e => match T.prune t, T.prune e with
    | t', e' => if t'.isTrue && e'.isTrue then .ret (.one (.bool (.lit true))) else .br c t' e'
  | t => t
/-- The tree of a call: what it hands back, by cases; 'pc': what is known ahead. -/
def treeL (P : Program) (con : Con) (ls : List LD) (lps : List LAnn) (pc : PC) (fuel d : Nat) (f : FuncId) (args : List SV) : T SV :=
  ((callR P con ls fuel d lps).run (.fn f) args [] 0 pc).bind fun (v, _) => if v.below 0 then .ret v else .bad 66
/-- The same for a call that hands back a truth value: parted until it is known. -/
def treeBL (P : Program) (con : Con) (ls : List LD) (lps : List LAnn) (pc : PC) (fuel d : Nat) (f : FuncId) (args : List SV) : T SV :=
  (((callR P con ls fuel d lps).run (.fn f) args [] 0 pc).bind fun (v, _, _, pc) => match v with
    | .one (.bool b) => T.cond pc b fun _ r => .ret (.one (.bool (.lit r)))
    | _ => .bad 67).prune
def tree (P : Program) (con : Con) (pc : PC) (fuel d : Nat) (f : FuncId) (args : List SV) : T SV := treeL P con [] [] pc fuel d f args
def treeB (P : Program) (con : Con) (pc : PC) (fuel d : Nat) (f : FuncId) (args : List SV) : T SV := treeBL P con [] [] pc fuel d f args
end
end Go.Proofs.Ytmpadjlplgajcaa
