/- A reckoner for calls whose arguments are written out: values with names for the blocks that the call makes, and a run by fuel. No condition. -/
import Derived.Calls
import Derived.Below
namespace Go.Proofs.YtdkkblkbonjjgabGreatDoor.Ev
open Go
noncomputable section

/-- What the names of numbers and texts stand for. -/
class Env where
  i : Nat → Int
  s : Nat → ByteArray

/-- A text that is told by names. -/
inductive SE where
  | lit (b : ByteArray)
  | v (n : Nat)
  | cat (a b : SE)
  | sub (a : SE) (lo hi : Nat)

/-- A number that is told by names. -/
inductive IE where
  | lit (n : Int)
  | v (n : Nat)
  | len (a : SE)
  | at_ (a : SE) (i : Nat)
  | op (o : BinOp) (k : IntKind) (a b : IE)
  | conv (k : IntKind) (a : IE)

def iop (o : BinOp) (k : IntKind) (x y : Int) : Int := match o with
  | .add => k.wrap (x + y)
  | .sub => k.wrap (x - y)
  | .mul => k.wrap (x * y)
  | .quo => k.wrap (x.tdiv y)
  | .rem => x.tmod y
  | _ => 0

def SE.den [Env] : SE → ByteArray
  | .lit b => b
  | .v n => Env.s n
  | .cat a b => a.den ++ b.den
  | .sub a lo hi => a.den.extract lo hi

def IE.den [Env] : IE → Int
  | .lit n => n
  | .v n => Env.i n
  | .len a => (a.den.size : Nat)
  | .at_ a i => (((a.den[i]?).map UInt8.toNat).getD 0 : Nat)
  | .op o k a b => iop o k a.den b.den
  | .conv k a => k.wrap a.den

def SE.beq : SE → SE → Bool
  | .lit a, .lit b => a == b
  | .v n, .v m => Nat.beq n m
  | .cat a b, .cat c d => a.beq c && b.beq d
  | .sub a l h, .sub b l' h' => a.beq b && Nat.beq l l' && Nat.beq h h'
  | _, _ => false

def IE.beq : IE → IE → Bool
  | .lit a, .lit b => decide (a = b)
  | .v n, .v m => Nat.beq n m
  | .len a, .len b => a.beq b
  | .at_ a i, .at_ b j => a.beq b && Nat.beq i j
  | .op o k a b, .op o' k' c d => decide (o = o') && decide (k = k') && a.beq c && b.beq d
  | .conv k a, .conv k' b => decide (k = k') && a.beq b
  | _, _ => false

/-- What is known of the names. -/
inductive Fact where
  | lo (a : IE) (l : Int)
  | hi (a : IE) (h : Int)
  | lt (a b : IE) (r : Bool)
  | eq (a b : IE) (r : Bool)
  | seq (a b : SE) (r : Bool)

def Fact.holds [Env] : Fact → Prop
  | .lo a l => l ≤ a.den
  | .hi a h => a.den ≤ h
  | .lt a b r => decide (a.den < b.den) = r
  | .eq a b r => decide (a.den = b.den) = r
  | .seq a b r => (a.den.toList == b.den.toList) = r

def loG : List Fact → IE → Option Int
  | [], _ => none
  | .lo a l :: fs, e => match a.beq e with | true => some l | false => loG fs e
  | _ :: fs, e => loG fs e
def loF (fs : List Fact) (e : IE) : Option Int := match e with
  | .lit n => some n
  | e => loG fs e

def hiG : List Fact → IE → Option Int
  | [], _ => none
  | .hi a l :: fs, e => match a.beq e with | true => some l | false => hiG fs e
  | _ :: fs, e => hiG fs e
def hiF (fs : List Fact) (e : IE) : Option Int := match e with
  | .lit n => some n
  | e => hiG fs e

/-- An order told by bounds. -/
def ltI (fs : List Fact) (a b : IE) : Option Bool := match hiF fs a, loF fs b with
  | some h, some l => match decide (h < l) with
    | true => some true
    | false => match loF fs a, hiF fs b with
      | some l, some h => match decide (h ≤ l) with | true => some false | false => none
      | _, _ => none
  | _, _ => match loF fs a, hiF fs b with
    | some l, some h => match decide (h ≤ l) with | true => some false | false => none
    | _, _ => none

def ltF : List Fact → IE → IE → Option Bool
  | [], _, _ => none
  | .lt a b r :: fs, x, y => match a.beq x && b.beq y with
    | true => some r
    | false => match r && a.beq y && b.beq x with
      | true => some false
      | false => ltF fs x y
  | _ :: fs, x, y => ltF fs x y

def ltD (fs : List Fact) (a b : IE) : Option Bool := match a.beq b with
  | true => some false
  | false => match ltI fs a b with
    | some r => some r
    | none => ltF fs a b

def eqF : List Fact → IE → IE → Option Bool
  | [], _, _ => none
  | .eq a b r :: fs, x, y => match (a.beq x && b.beq y) || (a.beq y && b.beq x) with
    | true => some r
    | false => eqF fs x y
  | .lt a b true :: fs, x, y => match (a.beq x && b.beq y) || (a.beq y && b.beq x) with
    | true => some false
    | false => eqF fs x y
  | _ :: fs, x, y => eqF fs x y

def eqD (fs : List Fact) (a b : IE) : Option Bool := match a.beq b with
  | true => some true
  | false => match ltI fs a b, ltI fs b a with
    | some true, _ => some false
    | _, some true => some false
    | _, _ => eqF fs a b

def seqF : List Fact → SE → SE → Option Bool
  | [], _, _ => none
  | .seq a b r :: fs, x, y => match (a.beq x && b.beq y) || (a.beq y && b.beq x) with
    | true => some r
    | false => seqF fs x y
  | _ :: fs, x, y => seqF fs x y

def seqD (fs : List Fact) (a b : SE) : Option Bool := match a.beq b with
  | true => some true
  | false => seqF fs a b

/-- A bound of a text's length. -/
def sizeHi (fs : List Fact) : SE → Option Int
  | .lit b => some b.size
  | .cat a b => match sizeHi fs a, sizeHi fs b with
    | some x, some y => some (x + y)
    | _, _ => none
  | e => hiF fs (.len e)

/-- A value as the reckoner holds it: blocks that the call makes have names. -/
inductive SV where
  | lit (v : Value)
  | sint (k : IntKind) (e : IE)
  | sstr (e : SE)
  | ptr (n off : Nat)
  | sl (n off len cap : Nat)
  | vs (n off len k : Nat)
  | v0 (n off l size k : Nat)
  | mp (n : Nat)
  | fn (f : Fn) (caps : List SV)
  | yl (n : Nat)
  | ifc (t : TypeId) (v : SV)
  | agg (l : List SV)
  | tup (l : List SV)

/-- A tree from numbers to things. -/
inductive T (α : Type) where
  | leaf
  | node (l : T α) (v : Option α) (r : T α)

namespace T
variable {α : Type}
/-- Written with the recursors themselves, which the kernel runs fastest; each step is a constant of its own, so that little is copied. -/
def getGo (gl gr : Nat → Option α) (k : Nat) (_ : Option α) : Option α := Bool.rec (motive := fun _ => Option α) (gr (Nat.div k 2)) (gl (Nat.div k 2)) (Nat.beq (Nat.mod k 2) 0)
def getNode (_ : T α) (v : Option α) (_ : T α) (gl gr : Nat → Option α) (n : Nat) : Option α := Nat.rec (motive := fun _ => Option α) v (getGo gl gr) n
def getLeaf (_ : Nat) : Option α := none
def get (t : T α) : Nat → Option α := T.rec (motive := fun _ => Nat → Option α) getLeaf getNode t
def putL0 (ih : T α → Nat → T α) (k : Nat) (_ : T α) : T α := Bool.rec (motive := fun _ => T α) (.node .leaf none (ih .leaf (Nat.div k 2))) (.node (ih .leaf (Nat.div k 2)) none .leaf) (Nat.beq (Nat.mod k 2) 0)
def putLeaf (a : Option α) (ih : T α → Nat → T α) (n : Nat) : T α := Nat.rec (motive := fun _ => T α) (.node .leaf a .leaf) (putL0 ih) n
def putN0 (ih : T α → Nat → T α) (l : T α) (v : Option α) (r : T α) (k : Nat) (_ : T α) : T α := Bool.rec (motive := fun _ => T α) (.node l v (ih r (Nat.div k 2))) (.node (ih l (Nat.div k 2)) v r) (Nat.beq (Nat.mod k 2) 0)
def putNode (a : Option α) (ih : T α → Nat → T α) (n : Nat) (l : T α) (v : Option α) (r : T α) (_ _ : T α) : T α := Nat.rec (motive := fun _ => T α) (.node l a r) (putN0 ih l v r) n
def putStep (a : Option α) (_ : Nat) (ih : T α → Nat → T α) (t : T α) (n : Nat) : T α := T.rec (motive := fun _ => T α) (putLeaf a ih n) (putNode a ih n) t
def putZero (t : T α) (_ : Nat) : T α := t
/-- What lies there is taken apart at once: nothing is left to be looked up in elder trees. -/
def putF (a : Option α) (f : Nat) : T α → Nat → T α := Nat.rec (motive := fun _ => T α → Nat → T α) putZero (putStep a) f
def put (a : Option α) (t : T α) (n : Nat) : T α := putF a (Nat.succ n) t n
end T

/-- A block as the reckoner holds it. -/
inductive SO where
  | cells (c : List SV) (e : TypeId)
  | vec (c : List SV) (e : TypeId) (sz : Nat)
  | row (c : List SV) (e : TypeId) (sz : Nat)
  | map (kt : TypeId) (es : List (Value × SV))
  | siter (s : ByteArray) (pos : Nat)
  | miter (m : Nat) (since : Nat) (seen : List Nat) (stepped : Nat)
  | loop (state : LoopState) (pending : Option Code) (fn : FuncId) (nt : Nat) (tt : T SV) (params : List Tmp) (assign body : Code) (defers : Nat)
  | defd

structure St where
  heap : T SO
  next : Nat
  hid : List (Nat × Nat)
  wr : List Nat

def hidden : List (Nat × Nat) → Nat → Bool
  | [], _ => false
  | (a, b) :: l, n => match Nat.ble a n && Nat.blt n b with | true => true | false => hidden l n

def St.see (s : St) (n : Nat) : Option SO := match hidden s.hid n with | true => none | false => s.heap.get n
def St.set (s : St) (n : Nat) (o : SO) : St := { s with heap := T.put (some o) s.heap n, wr := n :: s.wr }
def St.new (s : St) (o : SO) : St := { s with heap := T.put (some o) s.heap s.next, next := Nat.add s.next 1 }
def St.kill (s : St) (n : Nat) : St := { s with heap := T.put none s.heap n, wr := n :: s.wr }

/-- A row of which a text has been made: it is read alone from then on. -/
def St.frost (s : St) (n : Nat) : St := match s.see n with
  | some (.vec c e sz) => s.set n (.row c e sz)
  | some (.row c e sz) => s.set n (.row c e sz)
  | some (.cells c e) => s.set n (.row c e 0)
  | _ => s.kill n

/-- Forcing lists and values, so that what is kept is written out. -/
def SV.toValue? : SV → Option Value
  | .lit v => some v
  | .agg l => (go l).map fun ws => .agg ws.toArray
  | .tup l => (go l).map fun ws => .tuple ws.toArray
  | .fn f [] => some (.func f #[] #[])
  | _ => none
  where go : List SV → Option (List Value)
  | [] => some []
  | x :: xs => match x.toValue?, go xs with
    | some v, some ws => some (v :: ws)
    | _, _ => none

def SV.cells : SV → List SV
  | .lit (.agg cs) => cs.toList.map .lit
  | .agg l => l
  | v => [v]

def SV.isCell : SV → Bool
  | .lit (.agg _) | .lit (.tuple _) | .agg _ | .tup _ => false
  | _ => true

/-- What a program of the model answers that only asks for the program. -/
def pureRun {α : Type} (P : Program) : Sem α → Option α
  | .pure a => some a
  | .program k => pureRun P (k P)
  | .mark _ k => pureRun P k
  | _ => none

abbrev Nm := Nat → Option (Nat × Nat)

section
variable [Env]
mutual
def conc (ρ : Nm) : SV → Option Value
  | .lit v => some v
  | .sint k e => some (.int k e.den)
  | .sstr e => some (.string e.den)
  | .ptr n off => (ρ n).map fun p => .pointer (some ⟨p.1, off, none⟩)
  | .sl n off len cap => (ρ n).map fun p => .slice (some ⟨p.1, off, none⟩) len cap
  | .vs n off len k => (ρ n).map fun p => .slice (some ⟨p.1, off, none⟩) len (p.2 - k)
  | .v0 n off l size k => (ρ n).map fun p => .slice (some (if p.2 - k = l then ⟨p.1, off, none⟩ else (Addr.mk p.1 off none).add (l * size))) 0 (p.2 - k - l)
  | .mp n => (ρ n).map fun p => .map (some p.1)
  | .fn f caps => (concs ρ caps).map fun vs => .func f #[] vs.toArray
  | .yl n => (ρ n).map fun p => .func (.yield p.1) #[] #[]
  | .ifc t v => (conc ρ v).map fun u => .iface t u
  | .agg l => (concs ρ l).map fun vs => .agg vs.toArray
  | .tup l => (concs ρ l).map fun vs => .tuple vs.toArray
def concs (ρ : Nm) : List SV → Option (List Value)
  | [] => some []
  | x :: xs => match conc ρ x, concs ρ xs with
    | some v, some l => some (v :: l)
    | _, _ => none
end
end

/-- What is known of a call: its arguments and its result bear no addresses of ours. -/
def CallOK [Env] (P : Program) (old : Nat → Nat → Option Value) (c : FuncId × List SV × SV) : Prop :=
  ∀ w us r, (∀ b i v, old b i = some v → w.cell? ⟨b, i, none⟩ = some v) → concs (fun _ => none) c.2.1 = some us → conc (fun _ => none) c.2.2 = some r →
    Calls P c.1 us.toArray w fun e w' => e = .returned r ∧ RowKit.Below w.heap.size w w'

structure Cx [Env] where
  P : Program
  old : Nat → Nat → Option Value
  facts : List Fact
  fok : ∀ f ∈ facts, f.holds
  calls : List (FuncId × List SV × SV)
  cok : ∀ c ∈ calls, CallOK P old c ∧ (concs (fun _ => none) c.2.1).isSome = true ∧ (conc (fun _ => none) c.2.2).isSome = true

/-- Without facts. -/
def Cx.plain [Env] (P : Program) (old : Nat → Nat → Option Value) : Cx := ⟨P, old, [], fun _ h => (List.not_mem_nil h).elim, [], fun _ h => (List.not_mem_nil h).elim⟩

variable [Env]

def eval (tt : T SV) : Operand → Option SV
  | .tmp t => tt.get t
  | .const v => some (.lit v)
  | .global g => some (.lit (.pointer (some ⟨g, 0, none⟩)))
  | .func f => some (.fn (.func f) [])

def litOf (ev : Operand → Option SV) (o : Operand) : Option Value := match ev o with | some v => v.toValue? | none => none

def asNat? (x : SV) : Option Nat := match x with
  | .lit (.int _ n) => match n with | .ofNat n => some n | _ => none
  | _ => none

def splice (l : List SV) (off : Nat) (vs : List SV) : Option (List SV) :=
  match Nat.ble (Nat.add off vs.length) l.length with
  | true => some (l.take off ++ (vs ++ l.drop (Nat.add off vs.length)))
  | false => none

def fill (place : Nat → Option (Nat × Nat)) (cells : List SV) : List (Nat × SV) → Option (List SV)
  | [] => some cells
  | (i, v) :: rest => match place i with
    | none => none
    | some (off, size) => match Nat.beq v.cells.length size with
      | false => none
      | true => match splice cells off v.cells with
        | none => none
        | some c => fill place c rest

def isAgg? (P : Program) (t : TypeId) : Option Bool := match P.underlying t with
  | some (.struct _) => some true
  | some (.array _ _) => some true
  | some _ => some false
  | none => none

def zeroCells? (P : Program) (t : TypeId) : Option (List SV) := match P.info? t with
  | some i => match i.zero with
    | some v => some (v.cells.toList.map .lit)
    | none => none
  | none => none

def size? (P : Program) (t : TypeId) : Option Nat := match P.info? t with
  | some i => some i.size
  | none => none

def repeatL (n : Nat) (l : List SV) : List SV := match n with
  | 0 => []
  | n + 1 => l ++ repeatL n l

/-- The cells of a block that is seen. -/
def St.cellsAt (s : St) (n : Nat) : Option (List SV) := match s.see n with
  | some (.cells c _) => some c
  | some (.vec c _ _) => some c
  | some (.row c _ _) => some c
  | _ => none

def range? (c : List SV) (off n : Nat) : Option (List SV) := match Nat.ble (Nat.add off n) c.length with
  | true => some ((c.drop off).take n)
  | false => none

def setCells (s : St) (n : Nat) (off : Nat) (vs : List SV) : Option St := match s.see n with
  | some (.cells c e) => match splice c off vs with
    | some c' => some (s.set n (.cells c' e))
    | none => none
  | some (.vec c e sz) => match splice c off vs with
    | some c' => some (s.set n (.vec c' e sz))
    | none => none
  | _ => none

def oldCells (old : Nat → Nat → Option Value) (b off : Nat) : Nat → Option (List SV)
  | 0 => some []
  | n + 1 => match old b off, oldCells old b (Nat.add off 1) n with
    | some v, some l => some (.lit v :: l)
    | _, _ => none

def loadFrom (cx : Cx) (s : St) (a : SV) (n : Nat) : Option (List SV) := match a with
  | .ptr b off => match s.cellsAt b with
    | some c => range? c off n
    | none => none
  | .lit (.pointer (some ⟨b, off, none⟩)) => oldCells cx.old b off n
  | _ => none

def load (cx : Cx) (s : St) (t : TypeId) (a : SV) : Option SV := match isAgg? cx.P t with
  | some true => match size? cx.P t with
    | some n => match loadFrom cx s a n with
      | some l => some (.agg l)
      | none => none
    | none => none
  | some false => match loadFrom cx s a 1 with
    | some [v] => some v
    | _ => none
  | none => none

def store (cx : Cx) (s : St) (t : TypeId) (a v : SV) : Option St := match a, size? cx.P t with
  | .ptr b off, some n => match Nat.beq v.cells.length n && v.cells.all SV.isCell with
    | true => setCells s b off v.cells
    | false => none
  | _, _ => none

def part (P : Program) (t : TypeId) (cs : List SV) (off : Nat) : Option SV := match isAgg? P t with
  | some true => match size? P t with
    | some n => (range? cs off n).map .agg
    | none => none
  | some false => cs[off]?
  | none => none

/-- The elements of a slice, as cells. -/
def sliceCells (cx : Cx) (s : St) (size : Nat) (x : SV) : Option (Nat × List SV) := match x with
  | .lit (.slice none 0 _) => some (0, [])
  | .lit (.string b) => some (b.size, b.data.toList.map fun c => .lit (.int .u8 c.toNat))
  | .sl n off len _ => match loadFrom cx s (.ptr n off) (Nat.mul len size) with
    | some l => some (len, l)
    | none => none
  | .vs n off len _ => match loadFrom cx s (.ptr n off) (Nat.mul len size) with
    | some l => some (len, l)
    | none => none
  | _ => none

def bytesOf? : List SV → Option (List UInt8)
  | [] => some []
  | x :: l => match x, bytesOf? l with
    | .lit (.int .u8 n), some bs => some (UInt8.ofNat n.toNat :: bs)
    | _, _ => none

def append (cx : Cx) (s : St) (elem : TypeId) (x y : SV) : Option (SV × St) := match cx.P.info? elem with
  | none => none
  | some i => match i.zero with
    | none => none
    | some z => match sliceCells cx s i.size y with
      | none => none
      | some (n, new) => match new.all SV.isCell && Nat.beq new.length (Nat.mul n i.size) && Nat.beq z.cells.size i.size && Nat.blt 0 i.size with
        | false => none
        | true => match x with
          | .lit (.slice none 0 0) => match n with
            | 0 => some (x, s)
            | n + 1 => match Nat.ble (Nat.mul (n + 1) (Nat.add i.bytes 1)) 140737488355328 with
              | true => some (.vs s.next 0 (n + 1) 0, s.new (.vec new elem i.size))
              | false => none
          | .sl b off len cap => match Nat.ble (Nat.add len n) cap with
            | true => match setCells s b (Nat.add off (Nat.mul len i.size)) new with
              | some s' => some (.sl b off (Nat.add len n) cap, s')
              | none => none
            | false => match loadFrom cx s (.ptr b off) (Nat.mul len i.size), Nat.ble (Nat.mul (Nat.add len n) (Nat.add i.bytes 1)) 140737488355328 with
              | some l, true => some (.vs s.next 0 (Nat.add len n) 0, s.new (.vec (l ++ new) elem i.size))
              | _, _ => none
          | .vs b 0 len 0 => match s.see b with
            | some (.vec c e sz) => match Nat.beq c.length (Nat.mul len i.size) && Nat.beq sz i.size && Nat.beq e elem && Nat.ble (Nat.mul (Nat.add len n) (Nat.add i.bytes 1)) 140737488355328 with
              | true => match n with
                | 0 => some (x, s)
                | n + 1 => some (.vs s.next 0 (Nat.add len (n + 1)) 0, (s.kill b).new (.vec (c ++ new) elem i.size))
              | false => none
            | _ => none
          | _ => none

def isAggV : Value → Bool
  | .agg _ => true
  | _ => false

def sameKey : Value → Value → Option Bool
  | .int k a, .int k' b => match decide (k = k') with | true => some (decide (a = b)) | false => none
  | .string a, .string b => some (a == b)
  | .bool a, .bool b => some (a == b)
  | _, _ => none

/-- Two keys of a type, also structs and arrays. -/
def sameKeyP (P : Program) (t : TypeId) (k k' : Value) : Option Bool := match isAggV k with
  | false => sameKey k k'
  | true => match pureRun P (Op.equal t k k') with
    | some true => match Instr.sameBits 10000 k' k with
      | true => some true
      | false => none
    | r => r

/-- The one entry with a key, whatever the order of the entries: all are looked at. -/
def findKey (P : Program) (t : TypeId) (k : Value) : List (Value × SV) → Option (Option SV)
  | [] => some none
  | (k', v) :: es => match sameKeyP P t k k', findKey P t k es with
    | some true, some none => some (some v)
    | some false, some r => some r
    | _, _ => none

def putKey (P : Program) (t : TypeId) (k : Value) (v : SV) : List (Value × SV) → List (Value × SV)
  | [] => []
  | (k', v') :: es => match sameKeyP P t k k' with
    | some true => (k, v) :: es
    | _ => (k', v') :: putKey P t k v es

def setKey (P : Program) (t : TypeId) (k : Value) (v : SV) (es : List (Value × SV)) : Option (List (Value × SV)) := match findKey P t k es with
  | some (some _) => some (putKey P t k v es)
  | some none => some (es ++ [(k, v)])
  | none => none

def keyFits (P : Program) (t : TypeId) (k : Value) : Bool := match P.underlying t, k with
  | some (.int j), .int k _ => decide (j = k)
  | some .string, .string _ => true
  | some .bool, .bool _ => true
  | some (.struct _), .agg _ => match pureRun P (Instr.checkKey true 10000 t k), pureRun P (Instr.checkKey false 10000 t k) with
    | some _, some _ => true
    | _, _ => false
  | some (.array _ _), .agg _ => match pureRun P (Instr.checkKey true 10000 t k), pureRun P (Instr.checkKey false 10000 t k) with
    | some _, some _ => true
    | _, _ => false
  | _, _ => false

def symInt : SV → Option (IntKind × IE)
  | .sint k e => some (k, e)
  | .lit (.int k n) => some (k, .lit n)
  | _ => none
def symStr : SV → Option SE
  | .sstr e => some e
  | .lit (.string b) => some (.lit b)
  | _ => none

/-- A number that the facts pin. -/
def pin (fs : List Fact) (k : IntKind) (e : IE) : SV := match loF fs e, hiF fs e with
  | some l, some h => match decide (l = h) with
    | true => .lit (.int k l)
    | false => .sint k e
  | _, _ => .sint k e

def zeroLit : IE → Bool
  | .lit n => match n with
    | .ofNat (_ + 1) => false
    | _ => true
  | _ => true

/-- An operation on numbers or texts that are told by names. -/
def symBin (fs : List Fact) (op : BinOp) (a b : SV) : Option SV := match symInt a, symInt b with
  | some (k, x), some (k', y) => match decide (k = k') with
    | true => match op with
      | .add => some (pin fs k (.op .add k x y))
      | .sub => some (pin fs k (.op .sub k x y))
      | .mul => some (pin fs k (.op .mul k x y))
      | .quo => match zeroLit y with
        | false => some (pin fs k (.op .quo k x y))
        | true => none
      | .rem => match zeroLit y with
        | false => some (pin fs k (.op .rem k x y))
        | true => none
      | .eql => (eqD fs x y).map fun r => .lit (.bool r)
      | .neq => (eqD fs x y).map fun r => .lit (.bool (!r))
      | .lss => (ltD fs x y).map fun r => .lit (.bool r)
      | .gtr => (ltD fs y x).map fun r => .lit (.bool r)
      | .leq => (ltD fs y x).map fun r => .lit (.bool (!r))
      | .geq => (ltD fs x y).map fun r => .lit (.bool (!r))
      | _ => none
    | false => none
  | _, _ => match symStr a, symStr b with
    | some x, some y => match op with
      | .eql => (seqD fs x y).map fun r => .lit (.bool r)
      | .neq => (seqD fs x y).map fun r => .lit (.bool (!r))
      | .add => match sizeHi fs x, sizeHi fs y with
        | some h, some h' => match decide (h + h' ≤ 9223372036854775807) with
          | true => some (.sstr (.cat x y))
          | false => none
        | _, _ => none
      | _ => none
    | _, _ => none

/-- Something made by the call against nil, of one type. -/
def madeNil (P : Program) (t : TypeId) (a b : SV) : Bool := match P.underlying t, a, b with
  | some (.slice _), .sl .., .lit (.slice none _ _) => true
  | some (.slice _), .vs .., .lit (.slice none _ _) => true
  | some (.slice _), .lit (.slice none _ _), .sl .. => true
  | some (.slice _), .lit (.slice none _ _), .vs .. => true
  | some (.map _ _), .mp _, .lit (.map none) => true
  | some (.map _ _), .lit (.map none), .mp _ => true
  | some (.func _ _ _), .fn .., .lit .nilFunc => true
  | some (.func _ _ _), .yl _, .lit .nilFunc => true
  | some (.func _ _ _), .lit .nilFunc, .fn .. => true
  | some (.func _ _ _), .lit .nilFunc, .yl _ => true
  | some (.pointer _), .ptr .., .lit (.pointer none) => true
  | some (.pointer _), .lit (.pointer none), .ptr .. => true
  | some (.interface _), .ifc .., .lit .nilIface => true
  | some (.interface _), .lit .nilIface, .ifc .. => true
  | _, _, _ => false

/-- Two pointers to one place that the call has made. -/
def samePtr (P : Program) (t : TypeId) (a b : SV) : Bool := match P.underlying t, a, b with
  | some (.pointer e), .ptr n o, .ptr m p => match P.info? e with
    | some _ => Nat.beq n m && Nat.beq o p
    | none => false
  | _, _, _ => false

def ifaceDesc : TypeDesc → Bool
  | .interface _ => true
  | _ => false

def aggCells : SV → Option (List SV)
  | .agg l => some l
  | .lit (.agg cs) => some (cs.toList.map .lit)
  | _ => none

/-- A part of a text that is told by names. -/
def symSlice (fs : List Fact) (e : SE) (lo hi : Option (Option (IntKind × IE))) : Option SV := match lo, hi with
  | some none, some (some (_, h)) => match h with
    | .lit (.ofNat n) => match ltD fs (.len e) (.lit n) with
      | some false => some (.sstr (.sub e 0 n))
      | _ => none
    | .len e' => match e'.beq e with
      | true => some (.sstr e)
      | false => none
    | _ => none
  | some (some (_, l)), some (some (_, h)) => match l, h with
    | .lit (.ofNat m), .lit (.ofNat n) => match Nat.ble m n, ltD fs (.len e) (.lit n) with
      | true, some false => some (.sstr (.sub e m n))
      | _, _ => none
    | _, _ => none
  | _, _ => none

/-- An operation that runs no Go code. -/
def xop (cx : Cx) (ev : Operand → Option SV) (s : St) (op : Op) : Option (SV × St) :=
  match op with
  | .move x | .assign x => match ev x with | some v => some (v, s) | none => none
  | .pick c a b => match ev c with
    | some (.lit (.bool true)) => (ev a).map fun v => (v, s)
    | some (.lit (.bool false)) => (ev b).map fun v => (v, s)
    | _ => none
  | .alloc e => match zeroCells? cx.P e with
    | some c => some (.ptr s.next 0, s.new (.cells c e))
    | none => none
  | .box e x => match ev x with
    | some v => some (.ptr s.next 0, s.new (.cells v.cells e))
    | none => none
  | .build t parts => match zeroCells? cx.P t, (parts.toList.mapM fun p => (ev p.2).map fun v => (p.1, v)) with
    | some z, some ps => match cx.P.underlying t with
      | some (.struct fields) => match fields.toList.mapM (fun f => (size? cx.P f.type).map fun n => (f.offset, n)) with
        | some places => (fill (fun i => places[i]?) z ps).map fun c => (.agg c, s)
        | none => none
      | some (.array _ elem) => match size? cx.P elem with
        | some n => (fill (fun i => some (Nat.mul i n, n)) z ps).map fun c => (.agg c, s)
        | none => none
      | _ => none
    | _, _ => none
  | .buildSlice t len parts => match cx.P.underlying t, (parts.toList.mapM fun p => (ev p.2).map fun v => (p.1, v)) with
    | some (.slice elem), some ps => match size? cx.P elem, zeroCells? cx.P elem with
      | some n, some z => match Nat.beq z.length n && Nat.blt 0 n && Nat.ble (Nat.mul len n) 16777216 with
        | true => match fill (fun i => some (Nat.mul i n, n)) (repeatL len z) ps with
          | some c => some (.sl s.next 0 len len, s.new (.cells c elem))
          | none => none
        | false => none
      | _, _ => none
    | _, _ => none
  | .load t a => match ev a with
    | some p => (load cx s t p).map fun v => (v, s)
    | none => none
  | .store t a v => match ev a, ev v with
    | some p, some x => (store cx s t p x).map fun s' => (.lit undef, s')
    | _, _ => none
  | .nilCheck x => match ev x with
    | some (.ptr n off) => some (.ptr n off, s)
    | some (.lit (.pointer (some a))) => some (.lit (.pointer (some a)), s)
    | some (.fn (.func f) caps) => some (.fn (.func f) caps, s)
    | some (.yl n) => some (.yl n, s)
    | _ => none
  | .binOp op t x y _ => match ev x, ev y with
    | some a, some b => match a.toValue?, b.toValue? with
      | some u, some v => (pureRun cx.P (do eqGuard op t x y u v; Go.binOp op t u v)).map fun v => (.lit v, s)
      | _, _ => match symBin cx.facts op a b with
        | some r => some (r, s)
        | none => match op, madeNil cx.P t a b, samePtr cx.P t a b with
          | .eql, true, _ => some (.lit (.bool false), s)
          | .neq, true, _ => some (.lit (.bool true), s)
          | .neq, _, true => some (.lit (.bool false), s)
          | _, _, _ => none
    | _, _ => none
  | .unOp op _ x => match litOf ev x with
    | some u => (pureRun cx.P (Op.unary op u)).map fun v => (.lit v, s)
    | none => none
  | .convert src dst x => match ev x with
    | some a => match a.toValue? with
      | some u => match cx.P.underlying src, cx.P.underlying dst, u with
        | some _, some (.slice e), .string b => match cx.P.underlying e with
          | some (.int .u8) => some (.vs s.next 0 b.size 0, s.new (.vec (b.data.toList.map fun c => .lit (.int .u8 c.toNat)) e 1))
          | _ => none
        | _, _, _ => (pureRun cx.P (Go.convert src dst u)).map fun v => (.lit v, s)
      | none => match cx.P.underlying src, cx.P.underlying dst with
        | some (.slice e), some .string => match cx.P.underlying e, sliceCells cx s 1 a with
          | some (.int .u8), some (_, l) => match bytesOf? l with
            | some bs => some (.lit (.string ⟨bs.toArray⟩), s)
            | none => none
          | _, _ => none
        | some (.int _), some (.int k') => match a with
          | .sint _ e => some (pin cx.facts k' (.conv k' e), s)
          | _ => none
        | some .string, some .string => match a with
          | .sstr e => some (.sstr e, s)
          | _ => none
        | some (.pointer t), some .unsafePointer => match a with
          | .ptr n off => match s.cellsAt n, size? cx.P t with
            | some c, some (_ + 1) => match Nat.blt off c.length with
              | true => some (.ptr n off, s)
              | false => none
            | _, _ => none
          | _ => none
        | some .unsafePointer, some (.pointer u) => match a with
          | .ptr n off => match s.see n, cx.P.info? u with
            | some (.cells c e), some _ => match liesAt cx.P cx.P.depth e (c.length / cx.P.cellsOf e) off u 1 with
              | true => some (.ptr n off, s)
              | false => none
            | _, _ => none
          | _ => none
        | _, _ => none
    | none => none
  | .makeFunc f first caps => match first.toList, caps.toList.mapM (ev) with
    | [], some cs => some (.fn f cs, s)
    | _, _ => none
  | .makeMap t r => match r with
    | none => match cx.P.underlying t with
      | some (.map key _) => some (.mp s.next, s.new (.map key []))
      | _ => none
    | some x => match litOf ev x, cx.P.underlying t with
      | some (.int _ _), some (.map key _) => some (.mp s.next, s.new (.map key []))
      | _, _ => none
  | .makeSlice t l c => match cx.P.underlying t, (ev l).bind asNat?, (ev c).bind asNat? with
    | some (.slice elem), some len, some cap => match cx.P.info? elem, zeroCells? cx.P elem with
      | some i, some z => match Nat.ble len cap && Nat.ble cap 100000 && Nat.beq z.length i.size && Nat.ble (Nat.mul i.bytes cap) 281474976710656 with
        | true => some (.sl s.next 0 len cap, s.new (.cells (repeatL cap z) elem))
        | false => none
      | _, _ => none
    | _, _, _ => none
  | .slice t x lo hi mx => match ev x with
    | some (.sl n off len cap) => match cx.P.underlying t, mx with
      | some (.slice elem), none => match size? cx.P elem, (match lo with | none => some 0 | some o => (ev o).bind asNat?), (match hi with | none => some len | some o => (ev o).bind asNat?) with
        | some size, some l, some h => match Nat.ble l h && Nat.ble h cap with
          | true => some (.sl n (match Nat.beq cap l with | true => off | false => Nat.add off (Nat.mul l size)) (Nat.sub h l) (Nat.sub cap l), s)
          | false => none
        | _, _, _ => none
      | _, _ => none
    | some (.vs n off len k) => match cx.P.underlying t, mx with
      | some (.slice elem), none => match size? cx.P elem, (match lo with | none => some 0 | some o => (ev o).bind asNat?), (match hi with | none => some len | some o => (ev o).bind asNat?) with
        | some size, some l, some h => match Nat.ble l h && Nat.ble h len && (Nat.blt l len || Nat.beq l 0) && (match s.see n with | some (.vec c _ sz) => Nat.beq c.length (Nat.mul (Nat.add len k) sz) && Nat.blt 0 sz | _ => false) with
          | true => some (.vs n (Nat.add off (Nat.mul l size)) (Nat.sub h l) (Nat.add k l), s)
          | false => match Nat.beq l len && Nat.beq h len && (match s.see n with | some (.vec c _ sz) => Nat.beq c.length (Nat.mul (Nat.add len k) sz) && Nat.blt 0 sz | _ => false) with
            | true => some (.v0 n off l size k, s)
            | false => none
        | _, _, _ => none
      | _, _ => none
    | some (.ptr n off) => match cx.P.underlying t, mx with
      | some (.array len elem), none => match size? cx.P elem, (match lo with | none => some 0 | some o => (ev o).bind asNat?), (match hi with | none => some len | some o => (ev o).bind asNat?) with
        | some size, some l, some h => match Nat.ble l h && Nat.ble h len with
          | true => some (.sl n (match Nat.beq len l with | true => off | false => Nat.add off (Nat.mul l size)) (Nat.sub h l) (Nat.sub len l), s)
          | false => none
        | _, _, _ => none
      | _, _ => none
    | some (.sstr e) => match cx.P.underlying t, mx with
      | some .string, none => (symSlice cx.facts e (match lo with | none => some none | some o => ((ev o).bind symInt).map some) (match hi with | none => some none | some o => ((ev o).bind symInt).map some)).map fun v => (v, s)
      | _, _ => none
    | some a => match a.toValue?, (match lo with | none => some none | some o => (litOf ev o).map some), (match hi with | none => some none | some o => (litOf ev o).map some), (match mx with | none => some none | some o => (litOf ev o).map some) with
      | some u, some l, some h, some m => (pureRun cx.P (Instr.sliceAt t u l h m)).map fun v => (.lit v, s)
      | _, _, _, _ => none
    | none => none
  | .fieldAddr t x f => match ev x with
    | some (.ptr n off) => match cx.P.underlying t with
      | some (.struct fields) => match fields[f]? with
        | some fl => match size? cx.P fl.type with
          | some (_ + 1) => some (.ptr n (Nat.add off fl.offset), s)
          | _ => none
        | none => none
      | _ => none
    | some a => match a.toValue? with
      | some u => (pureRun cx.P (Instr.fieldAt t u f)).map fun v => (.lit v, s)
      | none => none
    | none => none
  | .field t x f => match ev x with
    | some a => match cx.P.underlying t with
      | some (.struct fields) => match fields[f]? with
        | some fl => match aggCells a with
          | some l => (part cx.P fl.type l fl.offset).map fun v => (v, s)
          | none => none
        | none => none
      | _ => none
    | none => none
  | .indexAddr t x ix => match ev x, (ev ix).bind asNat? with
    | some a, some i => match cx.P.underlying t, a with
      | some (.slice elem), .sl n off len _ => match size? cx.P elem, Nat.blt i len with
        | some size, true => some (.ptr n (Nat.add off (Nat.mul i size)), s)
        | _, _ => none
      | some (.slice elem), .vs n off len _ => match size? cx.P elem, Nat.blt i len with
        | some size, true => some (.ptr n (Nat.add off (Nat.mul i size)), s)
        | _, _ => none
      | some (.array len elem), .ptr n off => match size? cx.P elem, Nat.blt i len with
        | some size, true => some (.ptr n (Nat.add off (Nat.mul i size)), s)
        | _, _ => none
      | _, .lit u => match litOf ev ix with
        | some iv => (pureRun cx.P (Instr.indexAt t u iv)).map fun v => (.lit v, s)
        | none => none
      | _, _ => none
    | _, _ => none
  | .index t x ix => match ev x with
    | some (.sstr e) => match cx.P.underlying t, (ev ix).bind asNat? with
      | some .string, some i => match ltD cx.facts (.lit i) (.len e) with
        | some true => some (.sint .u8 (.at_ e i), s)
        | _ => none
      | _, _ => none
    | some (.agg l) => match cx.P.underlying t, (ev ix).bind asNat? with
      | some (.array len elem), some i => match size? cx.P elem, Nat.blt i len with
        | some size, true => (part cx.P elem l (Nat.mul i size)).map fun v => (v, s)
        | _, _ => none
      | _, _ => none
    | some a => match a.toValue?, litOf ev ix with
      | some u, some iv => (pureRun cx.P (Instr.index t u iv)).map fun v => (.lit v, s)
      | _, _ => none
    | none => none
  | .lookup t x ix ok => match cx.P.underlying t, ev x, litOf ev ix with
    | some (.map key elem), some m, some k => match keyFits cx.P key k, (match m with | .mp n => (match s.see n with | some (.map _ es) => some es | _ => none) | .lit (.map none) => some [] | _ => none) with
      | true, some es => match findKey cx.P key k es with
        | some (some v) => some ((match ok with | true => .tup [v, .lit (.bool true)] | false => v), s)
        | some none => match (cx.P.info? elem).bind (·.zero) with
          | some z => some ((match ok with | true => .tup [.lit z, .lit (.bool false)] | false => .lit z), s)
          | none => none
        | none => none
      | _, _ => none
    | _, _, _ => none
  | .mapUpdate t m k x | .insert t m k x => match cx.P.underlying t, ev m, litOf ev k, ev x with
    | some (.map key _), some (.mp n), some kv, some v => match keyFits cx.P key kv, s.see n with
      | true, some (.map kt es) => match setKey cx.P key kv v es with
        | some es' => some (.lit undef, s.set n (.map kt es'))
        | none => none
      | _, _ => none
    | _, _, _, _ => none
  | .range t x => match cx.P.underlying t, ev x with
    | some .string, some (.lit (.string b)) => some (.ptr s.next 0, s.new (.siter b 0))
    | _, _ => none
  | .next it isString => match isString, ev it with
    | true, some (.ptr n 0) => match s.see n with
      | some (.siter b pos) => match decide (pos < b.size) with
        | true => match Utf8.decode b pos with
          | (c, width) => some (.lit (.tuple #[.bool true, goInt pos, .int .i32 c]), s.set n (.siter b (Nat.add pos width)))
        | false => some (.lit (.tuple #[.bool false]), s)
      | _ => none
    | _, _ => none
  | .extract t ix => match ev t with
    | some (.tup l) => (l[ix]?).map fun v => (v, s)
    | some (.lit (.tuple vs)) => (vs[ix]?).map fun v => (.lit v, s)
    | _ => none
  | .makeInterface t x => match litOf ev x with
    | some u => (pureRun cx.P (Instr.makeInterface t u)).map fun v => (.lit v, s)
    | none => match ev x, cx.P.underlying t with
      | some a, some d => match ifaceDesc d with
        | false => some (.ifc t a, s)
        | true => none
      | _, _ => none
  | .typeAssert x t asserted ok => match litOf ev x with
    | some u => (pureRun cx.P (Instr.typeAssert u t asserted ok)).map fun v => (.lit v, s)
    | none => match ev x, cx.P.underlying asserted with
      | some (.ifc d a), some (.interface want) => match cx.P.info? d with
        | some i => match Instr.missingMethod want i.methods with
          | none => some ((match ok with | true => .tup [.ifc d a, .lit (.bool true)] | false => .ifc d a), s)
          | some _ => none
        | none => none
      | some (.ifc d a), some _ => match Nat.beq d asserted with
        | true => some ((match ok with | true => .tup [a, .lit (.bool true)] | false => a), s)
        | false => match ok, (cx.P.info? asserted).bind (·.zero) with
          | true, some z => some (.tup [.lit z, .lit (.bool false)], s)
          | _, _ => none
      | _, _ => none
  | _ => none

def sliceLen : SV → Option (SV × Nat)
  | .sl n off len _ => some (.ptr n off, len)
  | .vs n off len _ => some (.ptr n off, len)
  | _ => none

def bytesIn? : List SV → Option (List UInt8)
  | [] => some []
  | x :: l => match x, bytesIn? l with
    | .lit (.int .u8 n), some bs => match n with
      | .ofNat m => match Nat.blt m 256 with
        | true => some (UInt8.ofNat m :: bs)
        | false => none
      | _ => none
    | _, _ => none

/-- The bytes of a text made of a row that the call has made. -/
def rowText (P : Program) (s : St) (pt : TypeId) (n len : Nat) : Option (List UInt8) := match P.underlying pt, s.see n with
  | some (.pointer e), some (.vec c e' _) => match Nat.beq e e' && Nat.beq (P.cellsOf e) 1 && Nat.blt 0 len && Nat.ble len c.length && Nat.ble len 9223372036854775807 with
    | true => bytesIn? (c.take len)
    | false => none
  | some (.pointer e), some (.row c e' _) => match Nat.beq e e' && Nat.beq (P.cellsOf e) 1 && Nat.blt 0 len && Nat.ble len c.length && Nat.ble len 9223372036854775807 with
    | true => bytesIn? (c.take len)
    | false => none
  | some (.pointer e), some (.cells c e') => match Nat.beq e e' && Nat.beq (P.cellsOf e) 1 && Nat.blt 0 len && Nat.ble len c.length && Nat.ble len 9223372036854775807 with
    | true => bytesIn? (c.take len)
    | false => none
  | _, _ => none

def symMin (fs : List Fact) : List SV → Option SV
  | [a, b] => match symInt a, symInt b with
    | some (k, x), some (_, y) => match ltD fs y x with
      | some true => some (.sint k y)
      | some false => some (.sint k x)
      | none => none
    | _, _ => none
  | _ => none
def symMax (fs : List Fact) : List SV → Option SV
  | [a, b] => match symInt a, symInt b with
    | some (k, x), some (_, y) => match ltD fs x y with
      | some true => some (.sint k y)
      | some false => some (.sint k x)
      | none => none
    | _, _ => none
  | _ => none

/-- A builtin. -/
def xbuiltin (cx : Cx) (s : St) (b : Builtin) (argTypes : Array TypeId) (type : TypeId) (args : List SV) : Option (SV × St) :=
  match b, args with
  | .append, [x, y] => match (argTypes[0]?).bind cx.P.underlying, (argTypes[1]?).bind cx.P.underlying with
    | some (.slice elem), some (.slice _) => append cx s elem x y
    | some (.slice elem), some .string => append cx s elem x y
    | _, _ => none
  | .len, [a] => match (argTypes[0]?).bind cx.P.underlying, a with
    | some (.slice _), .sl _ _ len _ => some (.lit (goInt len), s)
    | some (.slice _), .vs _ _ len _ => some (.lit (goInt len), s)
    | some (.map _ _), .mp n => match s.see n with
      | some (.map _ es) => some (.lit (goInt es.length), s)
      | _ => none
    | some .string, .sstr e => some (.sint .i64 (.len e), s)
    | _, a => match a.toValue? with
      | some u => (pureRun cx.P (Builtin.len_ argTypes type #[u])).map fun v => (.lit v, s)
      | none => none
  | .cap, [a] => match (argTypes[0]?).bind cx.P.underlying, a with
    | some (.slice _), .sl _ _ _ cap => some (.lit (goInt cap), s)
    | _, a => match a.toValue? with
      | some u => (pureRun cx.P (Builtin.cap_ argTypes type #[u])).map fun v => (.lit v, s)
      | none => none
  | .copy, [x, y] => match ((argTypes[0]?).bind cx.P.underlying), x with
    | some (.slice elem), .sl n off dl _ => match size? cx.P elem, sliceLen y with
      | some size, some (a, sl) => match loadFrom cx s a (Nat.mul (Nat.min sl dl) size) with
        | some c => match c.all SV.isCell, setCells s n off c with
          | true, some s' => some (.lit (goInt (Nat.min sl dl)), s')
          | _, _ => none
        | none => none
      | _, _ => none
    | _, _ => none
  | .unsafeSliceData, [a] => match a with
    | .lit (.slice none _ _) => some (.lit (.pointer none), s)
    | .sl n off _ (_ + 1) => some (.ptr n off, s)
    | .vs n off (len + 1) k => match s.see n with
      | some (.vec c _ sz) => match Nat.beq c.length (Nat.mul (Nat.add (len + 1) k) sz) && Nat.blt 0 sz with
        | true => some (.ptr n off, s)
        | false => none
      | some (.row c _ sz) => match Nat.beq c.length (Nat.mul (Nat.add (len + 1) k) sz) && Nat.blt 0 sz with
        | true => some (.ptr n off, s)
        | false => none
      | _ => none
    | _ => none
  | .unsafeString, [a, l] => match argTypes[0]?, argTypes[1]?, argTypes.size, l with
    | some pt, some _, 2, .lit (.int .i64 (.ofNat len)) => match len, a with
      | 0, .lit (.pointer _) => some (.lit (.string .empty), s)
      | 0, .ptr _ _ => some (.lit (.string .empty), s)
      | len + 1, .ptr n 0 => match rowText cx.P s pt n (len + 1) with
        | some bs => some (.lit (.string ⟨bs.toArray⟩), s.frost n)
        | none => none
      | _, _ => none
    | _, _, _, _ => none
  | .min, l => match l.mapM SV.toValue? with
    | some us => (pureRun cx.P (Builtin.min_ argTypes type us.toArray)).map fun v => (.lit v, s)
    | none => (symMin cx.facts l).map fun v => (v, s)
  | .max, l => match l.mapM SV.toValue? with
    | some us => (pureRun cx.P (Builtin.max_ argTypes type us.toArray)).map fun v => (.lit v, s)
    | none => (symMax cx.facts l).map fun v => (v, s)
  | _, _ => none

/-- Whether a guarded operation is carried out; none: not known. -/
def wanted (ops : List Oper) (o : Oper) (tt : T SV) : Option Bool := match o.guard with
  | none => some true
  | some (j, want) => match ops[j]? with
    | some g => match g.dst with
      | some d => match tt.get d with
        | some (.lit (.bool b)) => some (match b, want with | true, true => true | false, false => true | _, _ => false)
        | some _ => some false
        | none => none
      | none => none
    | none => none

def putT (nt : Nat) (tt : T SV) (dst : Option Tmp) (v : SV) : Option (T SV) := match dst with
  | some d => match Nat.blt d nt with
    | true => some (T.put (some v) tt d)
    | false => none
  | none => some tt

def putAll (nt : Nat) (tt : T SV) : List (Tmp × SV) → Option (T SV)
  | [] => some tt
  | (d, v) :: l => match putT nt tt (some d) v with
    | some tt' => putAll nt tt' l
    | none => none

/-- Which operations are ahead of each by edges that bind in every order, as numbers in bits. -/
def ancs (ops : List Oper) : List Nat := go ops []
  where go : List Oper → List Nat → List Nat
  | [], acc => acc
  | o :: rest, acc => go rest (acc ++ [o.after.toList.foldl (fun m e => match Region.binds .any e with | true => Nat.lor m (Nat.lor (Nat.pow 2 e.on) ((acc[e.on]?).getD 0)) | false => m) 0])

/-- An operation that looks at no memory. -/
def quietOp : Op → Bool
  | .move _ | .assign _ | .pick .. | .build .. | .nilCheck _ | .binOp .. | .unOp .. | .makeFunc .. | .fieldAddr .. | .field .. | .indexAddr .. | .index .. | .extract .. => true
  | _ => false

inductive Task where
  | call (f : FuncId) (args : List SV)
  | round (l : Nat) (f : FuncId) (nt : Nat) (tt : T SV) (assign body : Code)

def target (s : St) (f : SV) (args : List SV) : Option Task := match f with
  | .fn (.func f) caps => some (.call f (args ++ caps))
  | .lit (.func (.func f) first caps) => match first.toList, caps.toList with
    | [], [] => some (.call f args)
    | _, _ => none
  | .yl n => match s.see n with
    | some (.loop _ _ fn nt tt params assign body _) => match Nat.beq params.length args.length, putAll nt tt (params.zip args) with
      | true, some tt' => some (.round n fn nt tt' assign body)
      | _, _ => none
    | _ => none
  | _ => none

def setLoop (s : St) (l : Nat) (state : LoopState) (pending : Option (Option Code)) : Option St := match s.see l with
  | some (.loop _ p fn nt tt params assign body d) => some (s.set l (.loop state (pending.getD p) fn nt tt params assign body d))
  | _ => none

def loopState (s : St) (l : Nat) : Option LoopState := match s.see l with
  | some (.loop st ..) => some st
  | _ => none

abbrev Runs := Task → St → Option (SV × St)

def argEq1 : SV → SV → Bool
  | .lit (.int k n), .lit (.int k' n') => decide (k = k') && decide (n = n')
  | .lit (.bool a), .lit (.bool b) => a == b
  | .lit (.string a), .lit (.string b) => a == b
  | .sint k e, .sint k' e' => decide (k = k') && e.beq e'
  | .sstr e, .sstr e' => e.beq e'
  | _, _ => false
def argsEq1 : List SV → List SV → Bool
  | [], [] => true
  | a :: l, b :: m => argEq1 a b && argsEq1 l m
  | _, _ => false
/-- One argument against another: scalars, or structs of those. -/
def argEq : SV → SV → Bool
  | .agg l, .agg m => argsEq1 l m
  | a, b => argEq1 a b
def argsEq : List SV → List SV → Bool
  | [], [] => true
  | a :: l, b :: m => argEq a b && argsEq l m
  | _, _ => false
def knownCall : List (FuncId × List SV × SV) → FuncId → List SV → Option SV
  | [], _, _ => none
  | (g, l, r) :: cs, f, args => match Nat.beq g f && argsEq l args with
    | true => some r
    | false => knownCall cs f args

/-- A function without a Go body. -/
def bare (cx : Cx) (t : Task) : Option SV := match t with
  | .call g args => match cx.P.funcs[g]? with
    | some fn => match fn.body with
      | some _ => none
      | none => match args.mapM SV.toValue? with
        | some us => match pureRun cx.P (callFunc g us.toArray) with
          | some (.value v) => some (.lit v)
          | _ => none
        | none => match fn.name == "internal/abi.NoEscape", (Extern.findNext fn).isNone, args with
          | true, true, [x] => some x
          | _, _, _ => none
    | none => none
  | _ => none

/-- What an interface value holds. -/
def ifaceOf : SV → Option (TypeId × SV)
  | .ifc t v => some (t, v)
  | .lit (.iface t v) => some (t, .lit v)
  | _ => none

def isPtr : TypeDesc → Bool
  | .pointer _ => true
  | _ => false

/-- The function that a method of a type is, where the receiver is the value itself. -/
def methodOf (P : Program) (t : TypeId) (name : String) : Option FuncId := match P.info? t, P.underlying t with
  | some i, some d => match i.methods.find? (fun m => m.name == name) with
    | some m => match m.path.toList, m.func with
      | [], some (g, ptr) => match ptr, isPtr d with
        | true, true => some g
        | false, false => some g
        | _, _ => none
      | _, _ => none
    | none => none
  | _, _ => none

def oneOp (cx : Cx) (ih : Runs) (tt : T SV) (s : St) (o : Oper) : Option (SV × St) := match o.op with
  | .call c => match c.args.toList.mapM (eval tt) with
    | none => none
    | some args => match c.callee with
      | .builtin b => xbuiltin cx s b c.argTypes o.type args
      | .value f => match eval tt f with
        | some fv => match target s fv args with
          | some t => match bare cx t with
            | some v => some (v, s)
            | none => ih t s
          | none => none
        | none => none
      | .invoke r name => match eval tt r with
        | some x => match ifaceOf x with
          | some (t, v) => match methodOf cx.P t name with
            | some g => ih (.call g (v :: args)) s
            | none => none
          | none => none
        | none => none
  | op => xop cx (eval tt) s op

def runOps (cx : Cx) (ih : Runs) (nt : Nat) (ops : List Oper) : List Oper → T SV → St → Option (T SV × St)
  | [], tt, s => some (tt, s)
  | o :: rest, tt, s => match wanted ops o tt with
    | some true => match oneOp cx ih tt s o with
      | some (v, s') => match putT nt tt o.dst v with
        | some tt' => runOps cx ih nt ops rest tt' s'
        | none => none
      | none => none
    | some false => match putT nt tt o.dst (.lit undef) with
      | some tt' => runOps cx ih nt ops rest tt' s
      | none => none
    | none => none

/-- What one operation of a drawn region has done: its number, the names that it has made (from, below), the elder names that it has written. -/
abbrev Did := Nat × Nat × Nat × List Nat

/-- What a drawn region's operation may not see: what those have made that are not ahead of it. -/
def hides (anc : Nat) : List Did → List (Nat × Nat)
  | [] => []
  | (j, a, b, _) :: l => match Nat.testBit anc j with
    | true => hides anc l
    | false => (a, b) :: hides anc l

def eldest (next : Nat) : List Nat → List Nat
  | [] => []
  | n :: l => match Nat.blt n next with
    | true => n :: eldest next l
    | false => eldest next l

/-- Whether one of two operations is ahead of the other by edges. -/
def tied (as : List Nat) (i anc j : Nat) : Bool := match Nat.testBit anc j with
  | true => true
  | false => match as[j]? with
    | some a => Nat.testBit a i
    | none => false

def elder (next : Nat) : List Nat → List (Nat × Nat)
  | [] => []
  | n :: l => match Nat.blt n next with
    | true => (n, Nat.add n 1) :: elder next l
    | false => elder next l

/-- What a drawn region's operation may not see: what those write that are neither ahead of it nor behind it. -/
def claimed (as : List Nat) (i anc next : Nat) : List Did → List (Nat × Nat)
  | [] => []
  | (j, _, _, ns) :: l => match ns with
    | [] => claimed as i anc next l
    | _ => match Nat.beq i j || tied as i anc j with
      | true => claimed as i anc next l
      | false => elder next ns ++ claimed as i anc next l

def allTied (as : List Nat) (j anc : Nat) : List Did → Bool
  | [] => true
  | (i, _, _, _) :: l => match Nat.beq i j || tied as j anc i with
    | true => allTied as j anc l
    | false => false

def foretold (cl : List Did) (j n : Nat) : Bool := cl.any fun d => Nat.beq d.1 j && d.2.2.2.any (Nat.beq n)

/-- Whether no operation has written what one sees that is neither ahead of it nor behind it: all are tied to it, or what it has written was hidden from those that are not. -/
def calm (as : List Nat) (cl all : List Did) : List Did → Bool
  | [] => true
  | (j, _, _, ws) :: l => match ws with
    | [] => calm as cl all l
    | _ => match allTied as j ((as[j]?).getD 0) all || ws.all (foretold cl j) with
      | true => calm as cl all l
      | false => false

/-- The slots that an operation looks at. -/
def looks (ops : List Oper) (o : Oper) : List Tmp :=
  (o.op.operands.toList.filterMap fun x => match x with | .tmp t => some t | _ => none) ++
  (match o.guard with
   | some (g, _) => match ops[g]? with | some q => q.dst.toList | none => []
   | none => [])

def dstIn (d : Option Tmp) (l : List Tmp) : Bool := match d with
  | none => false
  | some d => l.any (Nat.beq d)

/-- One operation against those ahead of it in the text: (its number, its destination, what it looks at). -/
def fitsAhead (anc : Nat) (dst : Option Tmp) (lk : List Tmp) : List (Nat × Option Tmp × List Tmp) → Bool
  | [] => true
  | (i, di, li) :: rest => match (match dst with | some d => dstIn di [d] | none => false), dstIn di lk || dstIn dst li, Nat.testBit anc i with
    | true, _, _ => false
    | false, true, false => false
    | _, _, _ => fitsAhead anc dst lk rest

def edgesBack (o : Oper) (i : Nat) : Bool := o.after.toList.all (fun e => match Region.binds .any e with | true => Nat.blt e.on i | false => true)

def regionFits (ops : List Oper) : List (Oper × Nat) → Nat → List (Nat × Option Tmp × List Tmp) → Bool
  | [], _, _ => true
  | (o, anc) :: rest, i, acc => match edgesBack o i, fitsAhead anc o.dst (looks ops o) acc with
    | true, true => regionFits ops rest (Nat.add i 1) ((i, o.dst, looks ops o) :: acc)
    | _, _ => false

/-- An entry that is put into a map by a literal: the order of those doesn't matter. -/
def isIns : Op → Bool
  | .insert .. => true
  | _ => false

def apartKey (P : Program) (t : TypeId) (k k' : Value) : Bool := match sameKeyP P t k k', sameKeyP P t k' k with
  | some false, some false => true
  | _, _ => false

/-- An entry whose key is new: the map's name, the map's key type, the key, the value, the entries that were there. -/
def addOne (cx : Cx) (ev : Operand → Option SV) (s : St) (op : Op) : Option (Nat × TypeId × Value × SV × List (Value × SV)) := match op with
  | .insert t m k x => match cx.P.underlying t, ev m, litOf ev k, ev x with
    | some (.map key _), some (.mp n), some kv, some v => match keyFits cx.P key kv, s.see n with
      | true, some (.map kt es) => match Nat.beq kt key && es.all fun p => apartKey cx.P key kv p.1 with
        | true => some (n, kt, kv, v, es)
        | false => none
      | _, _ => none
    | _, _, _, _ => none
  | _ => none

/-- What is foretold but for entries that literals put into maps. -/
def noIns (ops : List Oper) : List Did → List Did
  | [] => []
  | (j, d) :: l => match ops[j]? with
    | some o => match isIns o.op with
      | true => noIns ops l
      | false => (j, d) :: noIns ops l
    | none => noIns ops l

/-- A state of no memory. -/
def noSt : St := { heap := .leaf, next := 0, hid := [], wr := [] }

/-- A region that draws its order, in the order of the text: whoever looks at memory doesn't see what those have made that are not ahead of it by edges, nor what those write (as foretold) that are neither ahead of it nor behind it. -/
def runDrawn (cx : Cx) (ih : Runs) (nt : Nat) (ops : List Oper) (as : List Nat) (ad : Bool) (cl : List Did) : List (Oper × Nat) → Nat → List Did → T SV → St → Option (T SV × St × List Did)
  | [], _, ran, tt, s => some (tt, s, ran)
  | (o, anc) :: rest, i, ran, tt, s => match wanted ops o tt with
    | some true => match quietOp o.op with
      | true => match oneOp cx ih tt s o with
        | some (v, _) => match putT nt tt o.dst v with
          | some tt' => runDrawn cx ih nt ops as ad cl rest (Nat.add i 1) ran tt' s
          | none => none
        | none => none
      | false => match ad && isIns o.op with
        | true => match addOne cx (eval tt) { s with hid := hides anc ran ++ (claimed as i anc s.next (noIns ops cl) ++ s.hid), wr := [] } o.op with
          | some (n, kt, k, v, es) => match putT nt tt o.dst (.lit undef) with
            | some tt' => runDrawn cx ih nt ops as ad cl rest (Nat.add i 1) ((i, s.next, s.next, [n]) :: ran) tt' (s.set n (.map kt (es ++ [(k, v)])))
            | none => none
          | none => none
        | false => match oneOp cx ih tt { s with hid := hides anc ran ++ (claimed as i anc s.next cl ++ s.hid), wr := [] } o with
          | some (v, s') => match putT nt tt o.dst v with
            | some tt' => runDrawn cx ih nt ops as ad cl rest (Nat.add i 1) ((i, s.next, s'.next, eldest s.next s'.wr) :: ran) tt' { s' with hid := s.hid, wr := eldest s.next s'.wr ++ s.wr }
            | none => none
          | none => none
    | some false => match putT nt tt o.dst (.lit undef) with
      | some tt' => runDrawn cx ih nt ops as ad cl rest (Nat.add i 1) ran tt' s
      | none => none
    | none => none

/-- A drawn region: first with nothing foretold; where that doesn't do, with what was written then. -/
def runRegion (cx : Cx) (ih : Runs) (nt : Nat) (ops : List Oper) (as : List Nat) (tt : T SV) (s : St) : Option (T SV × St) :=
  match runDrawn cx ih nt ops as false [] (ops.zip as) 0 [] tt s with
  | some (tt', s', ran) => match calm as [] ran ran with
    | true => some (tt', s')
    | false => match runDrawn cx ih nt ops as true ran (ops.zip as) 0 [] tt s with
      | some (tt', s', ran') => match calm as ran ran' ran' with
        | true => some (tt', s')
        | false => none
      | none => none
  | none => none

def results (cx : Cx) (s : St) (tt : T SV) (l : List ResultVar) : Option SV :=
  match l.mapM (fun r => match r with
    | .tmp t => tt.get t
    | .cell a t => match tt.get a with
      | some p => load cx s t p
      | none => none) with
  | some [v] => some v
  | some vs => some (.tup vs)
  | none => none

/-- What is left to do in a frame. -/
def exitTo (id : Nat) : List Item → Option (List Item)
  | .inBlock id' :: k => match Nat.beq id' id with | true => some k | false => exitTo id k
  | _ :: k => exitTo id k
  | [] => none

inductive Mode where
  | fn
  | round (l : Nat)

def tmps0 : List SV → Nat → T SV → T SV
  | [], _, tt => tt
  | v :: l, i, tt => tmps0 l (Nat.add i 1) (T.put (some v) tt i)

def takeAll : List Nat → St → Option St
  | [], s => some s
  | d :: l, s => match s.see d with
    | some .defd => takeAll l (s.kill d)
    | _ => none

def leave (cx : Cx) (mode : Mode) (f : FuncId) (ds : List Nat) (tt : T SV) (s : St) (jump : Option Code) : Option (SV × St) := match mode with
  | .fn => match (match jump with | none => true | some .ret => true | _ => false), cx.P.funcs[f]? with
    | true, some fn => match takeAll ds s with
      | some s' => (results cx s' tt fn.results.toList).map fun v => (v, s')
      | none => none
    | _, _ => none
  | .round l => (setLoop s l (match jump with | none => .ready | some _ => .done) (some jump)).map fun s' => (.lit (.bool (match jump with | none => true | some _ => false)), s')

def tasksOf (cx : Cx) (r : Mode → FuncId → List Nat → Nat → T SV → List Item → St → Option (SV × St)) : Runs := fun t s => match t with
  | .call g args => match cx.P.funcs[g]? with
    | some fn => match fn.body with
      | some c => match knownCall cx.calls g args with
        | some v => some (v, s)
        | none => match Nat.ble args.length fn.ntmps with
          | true => r .fn g [] fn.ntmps (tmps0 args 0 .leaf) [.code c] s
          | false => none
      | none => none
    | none => none
  | .round l g nt tt assign body => r (.round l) g [] nt tt [.code assign, .beginRound, .code body] s

/-- A frame. -/
def run (cx : Cx) : Nat → Mode → FuncId → List Nat → Nat → T SV → List Item → St → Option (SV × St)
  | 0, _, _, _, _, _, _, _ => none
  | n + 1, mode, f, ds, nt, tt, todo, s =>
    let ih : Runs := tasksOf cx (run cx n)
    match todo with
    | [] => leave cx mode f ds tt s none
    | .code c :: k => match c with
      | .ret => leave cx mode f ds tt s (some .ret)
      | .skip | .label _ => run cx n mode f ds nt tt k s
      | .seq a b => run cx n mode f ds nt tt (.code a :: .code b :: k) s
      | .cond c x y => match eval tt c with
        | some (.lit (.bool true)) => run cx n mode f ds nt tt (.code x :: k) s
        | some (.lit (.bool false)) => run cx n mode f ds nt tt (.code y :: k) s
        | _ => none
      | .block id body => run cx n mode f ds nt tt (.code body :: .inBlock id :: k) s
      | .loop body => run cx n mode f ds nt tt (.code body :: .inLoop body :: k) s
      | .scope body => run cx n mode f ds nt tt (.code body :: .inScope body :: k) s
      | .exit id => match exitTo id k with
        | some k' => run cx n mode f ds nt tt k' s
        | none => leave cx mode f ds tt s (some (.exit id))
      | .region _ ops draw => match draw with
        | false => match runOps cx ih nt ops.toList ops.toList tt s with
          | some (tt', s') => run cx n mode f ds nt tt' k s'
          | none => none
        | true => match regionFits ops.toList (ops.toList.zip (ancs ops.toList)) 0 [], runRegion cx ih nt ops.toList (ancs ops.toList) tt s with
          | true, some (tt', s') => run cx n mode f ds nt tt' k s'
          | _, _ => none
      | .rangeFunc fo params assign body =>
        match eval tt fo with
        | none => none
        | some fv =>
          let s1 := match mode with | .fn => s.new .defd | .round _ => s
          match (match mode with | .fn => some s.next | .round l => (match s.see l with | some (.loop _ _ _ _ _ _ _ _ d) => some d | _ => none)) with
          | none => none
          | some d =>
            let l := s1.next
            let s2 := s1.new (.loop .ready none f nt tt params.toList assign body d)
            match target s2 fv [.yl l] with
            | some (.round ..) => none
            | none => none
            | some t => match ih t s2 with
              | none => none
              | some (_, s3) => match s3.see l with
                | some (.loop st p ..) => match st with
                  | .busy => none
                  | _ => match setLoop s3 l .exhausted none with
                    | some s4 => run cx n mode f (match mode with | .fn => d :: ds | .round _ => ds) nt tt ((p.map Item.code).toList ++ k) s4
                    | none => none
                | _ => none
      | _ => none
    | .inBlock _ :: k | .inScope _ :: k => run cx n mode f ds nt tt k s
    | .inLoop body :: k => run cx n mode f ds nt tt (.code body :: .inLoop body :: k) s
    | .beginRound :: k => match mode with
      | .round l => match loopState s l with
        | some .ready => match setLoop s l .busy none with
          | some s' => run cx n mode f ds nt tt k s'
          | none => none
        | _ => none
      | .fn => none
    | _ => none

def call (cx : Cx) (n : Nat) (f : FuncId) (args : List SV) (s : St) : Option (SV × St) := match cx.P.funcs[f]? with
  | some fn => match fn.body with
    | some c => match Nat.ble args.length fn.ntmps with
      | true => run cx n .fn f [] fn.ntmps (tmps0 args 0 .leaf) [.code c] s
      | false => none
    | none => none
  | none => none

end
end Go.Proofs.YtdkkblkbonjjgabGreatDoor.Ev
