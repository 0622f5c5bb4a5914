/- The reckoner, cut into small functions, which the kernel runs faster; it is the same reckoner. No condition. -/
import Derived.Test.YtdkkblkbonjjgabGreatDoorEv5
set_option linter.unusedSectionVars false
set_option linter.unusedVariables false
namespace Go.Proofs.YtdkkblkbonjjgabGreatDoor.Ev
open Go
noncomputable section
variable [Env]

def i64? : IntKind → Bool
  | .i64 => true
  | _ => false

/-- Numbers that are not negative: what an operation comes to at once. -/
def fastInt (op : BinOp) (k : IntKind) (a b : Nat) : Option Value := match op with
  | .eql => some (.bool (Nat.beq a b))
  | .neq => some (.bool (match Nat.beq a b with | true => false | false => true))
  | .lss => some (.bool (Nat.blt a b))
  | .leq => some (.bool (Nat.ble a b))
  | .gtr => some (.bool (Nat.blt b a))
  | .geq => some (.bool (Nat.ble b a))
  | .add => match i64? k with
    | true => match Nat.ble (Nat.add a b) 9223372036854775807 with
      | true => some (.int .i64 (.ofNat (Nat.add a b)))
      | false => none
    | false => none
  | .sub => match i64? k with
    | true => match Nat.ble b a with
      | true => match Nat.ble a 9223372036854775807 with
        | true => some (.int .i64 (.ofNat (Nat.sub a b)))
        | false => none
      | false => none
    | false => none
  | _ => none

def kindEq : IntKind → IntKind → Bool
  | .i64, .i64 => true
  | .u8, .u8 => true
  | .i32, .i32 => true
  | .u64, .u64 => true
  | _, _ => false

def fastBin (op : BinOp) (u v : Value) : Option Value := match u with
  | .int k x => match v with
    | .int k' y => match kindEq k k' with
      | true => match x with
        | .ofNat a => match y with
          | .ofNat b => fastInt op k a b
          | _ => none
        | _ => none
      | false => none
    | _ => none
  | _ => none

theorem kindEq_ok {k k' : IntKind} (h : kindEq k k' = true) : k = k' := by
  cases k <;> cases k' <;> first | rfl | cases h

theorem nat_beq (a b : Nat) : Nat.beq a b = decide (a = b) := by
  cases h : Nat.beq a b
  · have : ¬ a = b := fun e => by subst e; rw [Nat.beq_refl] at h; cases h
    simp [this]
  · simp [Nat.eq_of_beq_eq_true h]
theorem nat_ble (a b : Nat) : Nat.ble a b = decide (a ≤ b) := by
  cases h : Nat.ble a b
  · have : ¬ a ≤ b := fun e => by rw [Nat.ble_eq_true_of_le e] at h; cases h
    simp [this]
  · simp [Nat.le_of_ble_eq_true h]
theorem nat_blt (a b : Nat) : Nat.blt a b = decide (a < b) := nat_ble (a + 1) b

theorem int_beq (a b : Nat) : ((Int.ofNat a == Int.ofNat b) : Bool) = Nat.beq a b := by
  rw [nat_beq]
  by_cases e : a = b
  · subst e; simp
  · have : ¬ Int.ofNat a = Int.ofNat b := fun h => e (Int.ofNat.inj h)
    rw [decide_eq_false e]
    exact beq_eq_false_iff_ne.2 this

theorem fastInt_ok {P : Program} {op : BinOp} {t : TypeId} {x y : Operand} {k : IntKind} {a b : Nat} {r : Value} (h : fastInt op k a b = some r) :
    pureRun P (do eqGuard op t x y (.int k (.ofNat a)) (.int k (.ofNat b)); Go.binOp op t (.int k (.ofNat a)) (.int k (.ofNat b))) = some r := by
  unfold fastInt at h
  cases op <;> simp only at h
  case add =>
    split at h
    · rename_i hk
      have hk : k = .i64 := by cases k <;> first | rfl | cases hk
      subst hk
      split at h
      · rename_i hb
        cases h
        have hb : a + b ≤ 9223372036854775807 := Nat.le_of_ble_eq_true hb
        have hw : IntKind.i64.wrap (Int.ofNat a + Int.ofNat b) = Int.ofNat (a + b) := IntWalk.i64_in _ (by constructor <;> simp <;> omega)
        show some (Value.int .i64 (IntKind.i64.wrap (Int.ofNat a + Int.ofNat b))) = _
        rw [hw]
        rfl
      · cases h
    · cases h
  case sub =>
    split at h
    · rename_i hk
      have hk : k = .i64 := by cases k <;> first | rfl | cases hk
      subst hk
      split at h
      · rename_i hb
        split at h
        · rename_i hc
          cases h
          have hb : b ≤ a := Nat.le_of_ble_eq_true hb
          have hc : a ≤ 9223372036854775807 := Nat.le_of_ble_eq_true hc
          have hs : (Int.ofNat a - Int.ofNat b) = Int.ofNat (a - b) := by simp; omega
          have hw : IntKind.i64.wrap (Int.ofNat a - Int.ofNat b) = Int.ofNat (a - b) := by
            rw [hs]
            exact IntWalk.i64_in _ (by constructor <;> simp <;> omega)
          show some (Value.int .i64 (IntKind.i64.wrap (Int.ofNat a - Int.ofNat b))) = _
          rw [hw]
          rfl
        · cases h
      · cases h
    · cases h
  case eql =>
    cases h
    have : pureRun P (do eqGuard .eql t x y (.int k (.ofNat a)) (.int k (.ofNat b)); Go.binOp .eql t (.int k (.ofNat a)) (.int k (.ofNat b))) = some (.bool (Int.ofNat a == Int.ofNat b)) := by cases k <;> rfl
    rw [this, int_beq]
  case neq =>
    cases h
    have : pureRun P (do eqGuard .neq t x y (.int k (.ofNat a)) (.int k (.ofNat b)); Go.binOp .neq t (.int k (.ofNat a)) (.int k (.ofNat b))) = some (.bool (!(Int.ofNat a == Int.ofNat b))) := by cases k <;> rfl
    rw [this, int_beq]
    cases Nat.beq a b <;> rfl
  case lss =>
    cases h
    have : pureRun P (do eqGuard .lss t x y (.int k (.ofNat a)) (.int k (.ofNat b)); Go.binOp .lss t (.int k (.ofNat a)) (.int k (.ofNat b))) = some (.bool (decide (Int.ofNat a < Int.ofNat b))) := by cases k <;> rfl
    rw [this, nat_blt]
    simp
  case leq =>
    cases h
    have : pureRun P (do eqGuard .leq t x y (.int k (.ofNat a)) (.int k (.ofNat b)); Go.binOp .leq t (.int k (.ofNat a)) (.int k (.ofNat b))) = some (.bool (decide (Int.ofNat a ≤ Int.ofNat b))) := by cases k <;> rfl
    rw [this, nat_ble]
    simp
  case gtr =>
    cases h
    have : pureRun P (do eqGuard .gtr t x y (.int k (.ofNat a)) (.int k (.ofNat b)); Go.binOp .gtr t (.int k (.ofNat a)) (.int k (.ofNat b))) = some (.bool (decide (Int.ofNat a > Int.ofNat b))) := by cases k <;> rfl
    rw [this, nat_blt]
    simp
  case geq =>
    cases h
    have : pureRun P (do eqGuard .geq t x y (.int k (.ofNat a)) (.int k (.ofNat b)); Go.binOp .geq t (.int k (.ofNat a)) (.int k (.ofNat b))) = some (.bool (decide (Int.ofNat a ≥ Int.ofNat b))) := by cases k <;> rfl
    rw [this, nat_ble]
    simp
  all_goals cases h

theorem fastBin_ok {P : Program} {op : BinOp} {t : TypeId} {x y : Operand} {u v r : Value} (h : fastBin op u v = some r) : pureRun P (do eqGuard op t x y u v; Go.binOp op t u v) = some r := by
  cases u with
  | int k a =>
    cases v with
    | int k' b =>
      simp only [fastBin] at h
      split at h
      · rename_i hk
        have hk := kindEq_ok hk
        subst hk
        cases a with
        | ofNat a =>
          cases b with
          | ofNat b => exact fastInt_ok h
          | negSucc b => cases h
        | negSucc a => cases h
      · cases h
    | _ => simp [fastBin] at h
  | _ => simp [fastBin] at h

def x_move (cx : Cx) (ev : Operand → Option SV) (s : St) (x : Operand) : Option (SV × St) := match ev x with | some v => some (v, s) | none => none

def x_pick (cx : Cx) (ev : Operand → Option SV) (s : St) (c : Operand) (a : Operand) (b : Operand) : Option (SV × St) := match ev c with
    | some (.lit (.bool true)) => (ev a).map fun v => (v, s)
    | some (.lit (.bool false)) => (ev b).map fun v => (v, s)
    | _ => none

def x_alloc (cx : Cx) (ev : Operand → Option SV) (s : St) (e : TypeId) : Option (SV × St) := match zeroCells? cx.P e with
    | some c => some (.ptr s.next 0, s.new (.cells c e))
    | none => none

def x_box (cx : Cx) (ev : Operand → Option SV) (s : St) (e : TypeId) (x : Operand) : Option (SV × St) := match ev x with
    | some v => some (.ptr s.next 0, s.new (.cells v.cells e))
    | none => none

def x_build (cx : Cx) (ev : Operand → Option SV) (s : St) (t : TypeId) (parts : Array (Nat × Operand)) : Option (SV × St) := match zeroCells? cx.P t, (parts.toList.mapM fun p => (ev p.2).map fun v => (p.1, v)) with
    | some z, some ps => match cx.P.underlying t with
      | some (.struct fields) => match fields.toList.mapM (fun f => (size? cx.P f.type).map fun n => (f.offset, n)) with
        | some places => (fill (fun i => places[i]?) z ps).map fun c => (.agg c, s)
        | none => none
      | some (.array _ elem) => match size? cx.P elem with
        | some n => (fill (fun i => some (Nat.mul i n, n)) z ps).map fun c => (.agg c, s)
        | none => none
      | _ => none
    | _, _ => none

def x_buildSlice (cx : Cx) (ev : Operand → Option SV) (s : St) (t : TypeId) (len : Nat) (parts : Array (Nat × Operand)) : Option (SV × St) := match cx.P.underlying t, (parts.toList.mapM fun p => (ev p.2).map fun v => (p.1, v)) with
    | some (.slice elem), some ps => match size? cx.P elem, zeroCells? cx.P elem with
      | some n, some z => match Nat.beq z.length n && Nat.blt 0 n && Nat.ble (Nat.mul len n) 16777216 with
        | true => match fill (fun i => some (Nat.mul i n, n)) (repeatL len z) ps with
          | some c => some (.sl s.next 0 len len, s.new (.cells c elem))
          | none => none
        | false => none
      | _, _ => none
    | _, _ => none

def x_load (cx : Cx) (ev : Operand → Option SV) (s : St) (t : TypeId) (a : Operand) : Option (SV × St) := match ev a with
    | some p => (load cx s t p).map fun v => (v, s)
    | none => none

def x_store (cx : Cx) (ev : Operand → Option SV) (s : St) (t : TypeId) (a : Operand) (v : Operand) : Option (SV × St) := match ev a, ev v with
    | some p, some x => (store cx s t p x).map fun s' => (.lit undef, s')
    | _, _ => none

def x_nilCheck (cx : Cx) (ev : Operand → Option SV) (s : St) (x : Operand) : Option (SV × St) := match ev x with
    | some (.ptr n off) => some (.ptr n off, s)
    | some (.lit (.pointer (some a))) => some (.lit (.pointer (some a)), s)
    | some (.fn (.func f) caps) => some (.fn (.func f) caps, s)
    | some (.yl n) => some (.yl n, s)
    | _ => none

def x_binOp (cx : Cx) (ev : Operand → Option SV) (s : St) (op : BinOp) (t : TypeId) (x : Operand) (y : Operand) : Option (SV × St) := match ev x, ev y with
    | some a, some b => match a.toValue?, b.toValue? with
      | some u, some v => match fastBin op u v with
        | some r => some (.lit r, s)
        | none => (pureRun cx.P (do eqGuard op t x y u v; Go.binOp op t u v)).map fun v => (.lit v, s)
      | _, _ => match symBin cx.facts op a b with
        | some r => some (r, s)
        | none => match op, madeNil cx.P t a b, samePtr cx.P t a b with
          | .eql, true, _ => some (.lit (.bool false), s)
          | .neq, true, _ => some (.lit (.bool true), s)
          | .neq, _, true => some (.lit (.bool false), s)
          | _, _, _ => none
    | _, _ => none

def x_unOp (cx : Cx) (ev : Operand → Option SV) (s : St) (op : UnOp) (x : Operand) : Option (SV × St) := match litOf ev x with
    | some u => (pureRun cx.P (Op.unary op u)).map fun v => (.lit v, s)
    | none => none

def x_convert (cx : Cx) (ev : Operand → Option SV) (s : St) (src : TypeId) (dst : TypeId) (x : Operand) : Option (SV × St) := match ev x with
    | some a => match a.toValue? with
      | some u => match cx.P.underlying src, cx.P.underlying dst, u with
        | some _, some (.slice e), .string b => match cx.P.underlying e with
          | some (.int .u8) => some (.vs s.next 0 b.size 0, s.new (.vec (b.data.toList.map fun c => .lit (.int .u8 c.toNat)) e 1))
          | _ => none
        | _, _, _ => (pureRun cx.P (Go.convert src dst u)).map fun v => (.lit v, s)
      | none => match cx.P.underlying src, cx.P.underlying dst with
        | some (.slice e), some .string => match cx.P.underlying e, sliceCells cx s 1 a with
          | some (.int .u8), some (_, l) => match bytesOf? l with
            | some bs => some (.lit (.string ⟨bs.toArray⟩), s)
            | none => none
          | _, _ => none
        | some (.int _), some (.int k') => match a with
          | .sint _ e => some (pin cx.facts k' (.conv k' e), s)
          | _ => none
        | some .string, some .string => match a with
          | .sstr e => some (.sstr e, s)
          | _ => none
        | some (.pointer t), some .unsafePointer => match a with
          | .ptr n off => match s.cellsAt n, size? cx.P t with
            | some c, some (_ + 1) => match Nat.blt off c.length with
              | true => some (.ptr n off, s)
              | false => none
            | _, _ => none
          | _ => none
        | some .unsafePointer, some (.pointer u) => match a with
          | .ptr n off => match s.see n, cx.P.info? u with
            | some (.cells c e), some _ => match liesAt cx.P cx.P.depth e (c.length / cx.P.cellsOf e) off u 1 with
              | true => some (.ptr n off, s)
              | false => none
            | _, _ => none
          | _ => none
        | _, _ => none
    | none => none

def x_makeFunc (cx : Cx) (ev : Operand → Option SV) (s : St) (f : Fn) (first : Array Operand) (caps : Array Operand) : Option (SV × St) := match first.toList, caps.toList.mapM (ev) with
    | [], some cs => some (.fn f cs, s)
    | _, _ => none

def x_makeMap (cx : Cx) (ev : Operand → Option SV) (s : St) (t : TypeId) (r : Option Operand) : Option (SV × St) := match r with
    | none => match cx.P.underlying t with
      | some (.map key _) => some (.mp s.next, s.new (.map key []))
      | _ => none
    | some x => match litOf ev x, cx.P.underlying t with
      | some (.int _ _), some (.map key _) => some (.mp s.next, s.new (.map key []))
      | _, _ => none

def x_makeSlice (cx : Cx) (ev : Operand → Option SV) (s : St) (t : TypeId) (l : Operand) (c : Operand) : Option (SV × St) := match cx.P.underlying t, (ev l).bind asNat?, (ev c).bind asNat? with
    | some (.slice elem), some len, some cap => match cx.P.info? elem, zeroCells? cx.P elem with
      | some i, some z => match Nat.ble len cap && Nat.ble cap 100000 && Nat.beq z.length i.size && Nat.ble (Nat.mul i.bytes cap) 281474976710656 with
        | true => some (.sl s.next 0 len cap, s.new (.cells (repeatL cap z) elem))
        | false => none
      | _, _ => none
    | _, _, _ => none

def x_slice (cx : Cx) (ev : Operand → Option SV) (s : St) (t : TypeId) (x : Operand) (lo : Option Operand) (hi : Option Operand) (mx : Option Operand) : Option (SV × St) := match ev x with
    | some (.sl n off len cap) => match cx.P.underlying t, mx with
      | some (.slice elem), none => match size? cx.P elem, (match lo with | none => some 0 | some o => (ev o).bind asNat?), (match hi with | none => some len | some o => (ev o).bind asNat?) with
        | some size, some l, some h => match Nat.ble l h && Nat.ble h cap with
          | true => some (.sl n (match Nat.beq cap l with | true => off | false => Nat.add off (Nat.mul l size)) (Nat.sub h l) (Nat.sub cap l), s)
          | false => none
        | _, _, _ => none
      | _, _ => none
    | some (.vs n off len k) => match cx.P.underlying t, mx with
      | some (.slice elem), none => match size? cx.P elem, (match lo with | none => some 0 | some o => (ev o).bind asNat?), (match hi with | none => some len | some o => (ev o).bind asNat?) with
        | some size, some l, some h => match Nat.ble l h && Nat.ble h len && (Nat.blt l len || Nat.beq l 0) && (match s.see n with | some (.vec c _ sz) => Nat.beq c.length (Nat.mul (Nat.add len k) sz) && Nat.blt 0 sz | _ => false) with
          | true => some (.vs n (Nat.add off (Nat.mul l size)) (Nat.sub h l) (Nat.add k l), s)
          | false => match Nat.beq l len && Nat.beq h len && (match s.see n with | some (.vec c _ sz) => Nat.beq c.length (Nat.mul (Nat.add len k) sz) && Nat.blt 0 sz | _ => false) with
            | true => some (.v0 n off l size k, s)
            | false => none
        | _, _, _ => none
      | _, _ => none
    | some (.ptr n off) => match cx.P.underlying t, mx with
      | some (.array len elem), none => match size? cx.P elem, (match lo with | none => some 0 | some o => (ev o).bind asNat?), (match hi with | none => some len | some o => (ev o).bind asNat?) with
        | some size, some l, some h => match Nat.ble l h && Nat.ble h len with
          | true => some (.sl n (match Nat.beq len l with | true => off | false => Nat.add off (Nat.mul l size)) (Nat.sub h l) (Nat.sub len l), s)
          | false => none
        | _, _, _ => none
      | _, _ => none
    | some (.sstr e) => match cx.P.underlying t, mx with
      | some .string, none => (symSlice cx.facts e (match lo with | none => some none | some o => ((ev o).bind symInt).map some) (match hi with | none => some none | some o => ((ev o).bind symInt).map some)).map fun v => (v, s)
      | _, _ => none
    | some a => match a.toValue?, (match lo with | none => some none | some o => (litOf ev o).map some), (match hi with | none => some none | some o => (litOf ev o).map some), (match mx with | none => some none | some o => (litOf ev o).map some) with
      | some u, some l, some h, some m => (pureRun cx.P (Instr.sliceAt t u l h m)).map fun v => (.lit v, s)
      | _, _, _, _ => none
    | none => none

def x_fieldAddr (cx : Cx) (ev : Operand → Option SV) (s : St) (t : TypeId) (x : Operand) (f : Nat) : Option (SV × St) := match ev x with
    | some (.ptr n off) => match cx.P.underlying t with
      | some (.struct fields) => match fields[f]? with
        | some fl => match size? cx.P fl.type with
          | some (_ + 1) => some (.ptr n (Nat.add off fl.offset), s)
          | _ => none
        | none => none
      | _ => none
    | some a => match a.toValue? with
      | some u => (pureRun cx.P (Instr.fieldAt t u f)).map fun v => (.lit v, s)
      | none => none
    | none => none

def x_field (cx : Cx) (ev : Operand → Option SV) (s : St) (t : TypeId) (x : Operand) (f : Nat) : Option (SV × St) := match ev x with
    | some a => match cx.P.underlying t with
      | some (.struct fields) => match fields[f]? with
        | some fl => match aggCells a with
          | some l => (part cx.P fl.type l fl.offset).map fun v => (v, s)
          | none => none
        | none => none
      | _ => none
    | none => none

def x_indexAddr (cx : Cx) (ev : Operand → Option SV) (s : St) (t : TypeId) (x : Operand) (ix : Operand) : Option (SV × St) := match ev x, (ev ix).bind asNat? with
    | some a, some i => match cx.P.underlying t, a with
      | some (.slice elem), .sl n off len _ => match size? cx.P elem, Nat.blt i len with
        | some size, true => some (.ptr n (Nat.add off (Nat.mul i size)), s)
        | _, _ => none
      | some (.slice elem), .vs n off len _ => match size? cx.P elem, Nat.blt i len with
        | some size, true => some (.ptr n (Nat.add off (Nat.mul i size)), s)
        | _, _ => none
      | some (.array len elem), .ptr n off => match size? cx.P elem, Nat.blt i len with
        | some size, true => some (.ptr n (Nat.add off (Nat.mul i size)), s)
        | _, _ => none
      | _, .lit u => match litOf ev ix with
        | some iv => (pureRun cx.P (Instr.indexAt t u iv)).map fun v => (.lit v, s)
        | none => none
      | _, _ => none
    | _, _ => none

def x_index (cx : Cx) (ev : Operand → Option SV) (s : St) (t : TypeId) (x : Operand) (ix : Operand) : Option (SV × St) := match ev x with
    | some (.sstr e) => match cx.P.underlying t, (ev ix).bind asNat? with
      | some .string, some i => match ltD cx.facts (.lit i) (.len e) with
        | some true => some (.sint .u8 (.at_ e i), s)
        | _ => none
      | _, _ => none
    | some (.agg l) => match cx.P.underlying t, (ev ix).bind asNat? with
      | some (.array len elem), some i => match size? cx.P elem, Nat.blt i len with
        | some size, true => (part cx.P elem l (Nat.mul i size)).map fun v => (v, s)
        | _, _ => none
      | _, _ => none
    | some a => match a.toValue?, litOf ev ix with
      | some u, some iv => (pureRun cx.P (Instr.index t u iv)).map fun v => (.lit v, s)
      | _, _ => none
    | none => none

def x_lookup (cx : Cx) (ev : Operand → Option SV) (s : St) (t : TypeId) (x : Operand) (ix : Operand) (ok : Bool) : Option (SV × St) := match cx.P.underlying t, ev x, litOf ev ix with
    | some (.map key elem), some m, some k => match keyFits cx.P key k, (match m with | .mp n => (match s.see n with | some (.map _ es) => some es | _ => none) | .lit (.map none) => some [] | _ => none) with
      | true, some es => match findKey cx.P key k es with
        | some (some v) => some ((match ok with | true => .tup [v, .lit (.bool true)] | false => v), s)
        | some none => match (cx.P.info? elem).bind (·.zero) with
          | some z => some ((match ok with | true => .tup [.lit z, .lit (.bool false)] | false => .lit z), s)
          | none => none
        | none => none
      | _, _ => none
    | _, _, _ => none

def x_mapUpdate (cx : Cx) (ev : Operand → Option SV) (s : St) (t : TypeId) (m : Operand) (k : Operand) (x : Operand) : Option (SV × St) := match cx.P.underlying t, ev m, litOf ev k, ev x with
    | some (.map key _), some (.mp n), some kv, some v => match keyFits cx.P key kv, s.see n with
      | true, some (.map kt es) => match setKey cx.P key kv v es with
        | some es' => some (.lit undef, s.set n (.map kt es'))
        | none => none
      | _, _ => none
    | _, _, _, _ => none

def x_range (cx : Cx) (ev : Operand → Option SV) (s : St) (t : TypeId) (x : Operand) : Option (SV × St) := match cx.P.underlying t, ev x with
    | some .string, some (.lit (.string b)) => some (.ptr s.next 0, s.new (.siter b 0))
    | _, _ => none

def x_next (cx : Cx) (ev : Operand → Option SV) (s : St) (it : Operand) (isString : Bool) : Option (SV × St) := match isString, ev it with
    | true, some (.ptr n 0) => match s.see n with
      | some (.siter b pos) => match decide (pos < b.size) with
        | true => match Utf8.decode b pos with
          | (c, width) => some (.lit (.tuple #[.bool true, goInt pos, .int .i32 c]), s.set n (.siter b (Nat.add pos width)))
        | false => some (.lit (.tuple #[.bool false]), s)
      | _ => none
    | _, _ => none

def x_extract (cx : Cx) (ev : Operand → Option SV) (s : St) (t : Operand) (ix : Nat) : Option (SV × St) := match ev t with
    | some (.tup l) => (l[ix]?).map fun v => (v, s)
    | some (.lit (.tuple vs)) => (vs[ix]?).map fun v => (.lit v, s)
    | _ => none

def x_makeInterface (cx : Cx) (ev : Operand → Option SV) (s : St) (t : TypeId) (x : Operand) : Option (SV × St) := match litOf ev x with
    | some u => (pureRun cx.P (Instr.makeInterface t u)).map fun v => (.lit v, s)
    | none => match ev x, cx.P.underlying t with
      | some a, some d => match ifaceDesc d with
        | false => some (.ifc t a, s)
        | true => none
      | _, _ => none

def x_typeAssert (cx : Cx) (ev : Operand → Option SV) (s : St) (x : Operand) (t : TypeId) (asserted : TypeId) (ok : Bool) : Option (SV × St) := match litOf ev x with
    | some u => (pureRun cx.P (Instr.typeAssert u t asserted ok)).map fun v => (.lit v, s)
    | none => match ev x, cx.P.underlying asserted with
      | some (.ifc d a), some (.interface want) => match cx.P.info? d with
        | some i => match Instr.missingMethod want i.methods with
          | none => some ((match ok with | true => .tup [.ifc d a, .lit (.bool true)] | false => .ifc d a), s)
          | some _ => none
        | none => none
      | some (.ifc d a), some _ => match Nat.beq d asserted with
        | true => some ((match ok with | true => .tup [a, .lit (.bool true)] | false => a), s)
        | false => match ok, (cx.P.info? asserted).bind (·.zero) with
          | true, some z => some (.tup [.lit z, .lit (.bool false)], s)
          | _, _ => none
      | _, _ => none

theorem x_binOp_eq (cx : Cx) (ev : Operand → Option SV) (s : St) (op : BinOp) (t : TypeId) (x y : Operand) (yt : TypeId) : x_binOp cx ev s op t x y = xop cx ev s (.binOp op t x y yt) := by
  unfold x_binOp
  simp only [xop]
  cases hx : ev x with
  | none => rfl
  | some a =>
    cases hy : ev y with
    | none => rfl
    | some b =>
      dsimp only
      cases ha : a.toValue? with
      | none => rfl
      | some u =>
        cases hb : b.toValue? with
        | none => rfl
        | some v =>
          dsimp only
          cases hf : fastBin op u v with
          | none => rfl
          | some r => rw [fastBin_ok hf]; rfl

def evalF (tt : T SV) (o : Operand) : Option SV := Operand.rec (motive := fun _ => Option SV) (fun t => tt.get t) (fun v => some (.lit v)) (fun g => some (.lit (.pointer (some ⟨g, 0, none⟩)))) (fun f => some (.fn (.func f) [])) o
theorem evalF_eq (tt : T SV) : evalF tt = eval tt := by
  funext o
  cases o <;> rfl

def callValueF (cx : Cx) (ih : Runs) (tt : T SV) (s : St) (f : Operand) (args : List SV) : Option (SV × St) := match evalF tt f with
  | some fv => match target s fv args with
    | some t => match bare cx t with
      | some v => some (v, s)
      | none => ih t s
    | none => none
  | none => none

def callInvokeF (cx : Cx) (ih : Runs) (tt : T SV) (s : St) (r : Operand) (name : String) (args : List SV) : Option (SV × St) := match evalF tt r with
  | some x => match ifaceOf x with
    | some (t, v) => match methodOf cx.P t name with
      | some g => ih (.call g (v :: args)) s
      | none => none
    | none => none
  | none => none

def callOpF (cx : Cx) (ih : Runs) (tt : T SV) (s : St) (o : Oper) (c : Call) : Option (SV × St) := match c.args.toList.mapM (evalF tt) with
  | none => none
  | some args => match c.callee with
    | .builtin b => xbuiltin cx s b c.argTypes o.type args
    | .value f => callValueF cx ih tt s f args
    | .invoke r name => callInvokeF cx ih tt s r name args

/-- What an operation does: by the recursor itself, whose branches are closed: nothing is copied. -/
def opT (op : Op) : Cx → Runs → T SV → St → Oper → Option (SV × St) := Op.rec (motive := fun _ => Cx → Runs → T SV → St → Oper → Option (SV × St))
  (fun x cx _ tt s _ => x_move cx (evalF tt) s x)
  (fun x cx _ tt s _ => x_move cx (evalF tt) s x)
  (fun c a b cx _ tt s _ => x_pick cx (evalF tt) s c a b)
  (fun e cx _ tt s _ => x_alloc cx (evalF tt) s e)
  (fun e x cx _ tt s _ => x_box cx (evalF tt) s e x)
  (fun t parts cx _ tt s _ => x_build cx (evalF tt) s t parts)
  (fun t len parts cx _ tt s _ => x_buildSlice cx (evalF tt) s t len parts)
  (fun t m k x cx _ tt s _ => x_mapUpdate cx (evalF tt) s t m k x)
  (fun t a cx _ tt s _ => x_load cx (evalF tt) s t a)
  (fun t a v cx _ tt s _ => x_store cx (evalF tt) s t a v)
  (fun _ _ _ _ _ _ => none)
  (fun _ _ _ _ _ _ => none)
  (fun x cx _ tt s _ => x_nilCheck cx (evalF tt) s x)
  (fun op t x y _ cx _ tt s _ => x_binOp cx (evalF tt) s op t x y)
  (fun op _ x cx _ tt s _ => x_unOp cx (evalF tt) s op x)
  (fun src dst x cx _ tt s _ => x_convert cx (evalF tt) s src dst x)
  (fun _ _ _ _ _ _ _ => none)
  (fun t x cx _ tt s _ => x_makeInterface cx (evalF tt) s t x)
  (fun f first caps cx _ tt s _ => x_makeFunc cx (evalF tt) s f first caps)
  (fun t r cx _ tt s _ => x_makeMap cx (evalF tt) s t r)
  (fun _ _ _ _ _ _ _ => none)
  (fun t l c cx _ tt s _ => x_makeSlice cx (evalF tt) s t l c)
  (fun t x lo hi mx cx _ tt s _ => x_slice cx (evalF tt) s t x lo hi mx)
  (fun t x f cx _ tt s _ => x_fieldAddr cx (evalF tt) s t x f)
  (fun t x f cx _ tt s _ => x_field cx (evalF tt) s t x f)
  (fun t x ix cx _ tt s _ => x_indexAddr cx (evalF tt) s t x ix)
  (fun t x ix cx _ tt s _ => x_index cx (evalF tt) s t x ix)
  (fun t x ix ok cx _ tt s _ => x_lookup cx (evalF tt) s t x ix ok)
  (fun t m k x cx _ tt s _ => x_mapUpdate cx (evalF tt) s t m k x)
  (fun _ _ _ _ _ _ _ _ => none)
  (fun _ _ _ _ _ _ _ _ _ => none)
  (fun t x cx _ tt s _ => x_range cx (evalF tt) s t x)
  (fun it isString cx _ tt s _ => x_next cx (evalF tt) s it isString)
  (fun _ _ _ _ _ _ => none)
  (fun x t asserted ok cx _ tt s _ => x_typeAssert cx (evalF tt) s x t asserted ok)
  (fun t ix cx _ tt s _ => x_extract cx (evalF tt) s t ix)
  (fun c cx ih tt s o => callOpF cx ih tt s o c)
  (fun _ _ _ _ _ _ => none)
  (fun _ _ _ _ _ _ => none)
  (fun _ _ _ _ _ _ => none)
  (fun _ _ _ _ _ _ _ => none)
  (fun _ _ _ _ _ _ _ _ => none)
  (fun _ _ _ _ _ _ _ => none) op

def oneOpF (cx : Cx) (ih : Runs) (tt : T SV) (s : St) (o : Oper) : Option (SV × St) := opT o.op cx ih tt s o

theorem oneOpF_eq (cx : Cx) (ih : Runs) (tt : T SV) (s : St) (o : Oper) : oneOpF cx ih tt s o = oneOp cx ih tt s o := by
  obtain ⟨dst, op, type, pos, after, guard⟩ := o
  cases op
  case call c =>
    show callOpF cx ih tt s _ c = _
    simp only [callOpF, callValueF, callInvokeF, evalF_eq]
    rfl
  case binOp op t x y yt =>
    show x_binOp cx (evalF tt) s op t x y = _
    rw [evalF_eq]
    exact x_binOp_eq cx (eval tt) s op t x y yt
  all_goals first
    | rfl
    | (simp only [oneOp]
       rw [← evalF_eq]
       rfl)

/-- What is handed on is written out: the kernel would unfold what waits again and again. -/
def fixN {β : Type} (n : Nat) (k : Nat → β) : β := Nat.rec (motive := fun _ => β) (k 0) (fun m _ => k (Nat.succ m)) n
theorem fixN_eq {β : Type} (n : Nat) (k : Nat → β) : fixN n k = k n := by cases n <;> rfl
def fixL {α β : Type} (l : List α) (k : List α → β) : β := List.rec (motive := fun _ => β) (k []) (fun a t _ => k (a :: t)) l
theorem fixL_eq {α β : Type} (l : List α) (k : List α → β) : fixL l k = k l := by cases l <;> rfl
def fixH {β : Type} (l : List (Nat × Nat)) : (List (Nat × Nat) → β) → β := List.rec (motive := fun _ => (List (Nat × Nat) → β) → β) (fun k => k []) (fun p _ ih k => Prod.rec (motive := fun _ => β) (fun a b => ih fun t => fixN a fun a => fixN b fun b => k ((a, b) :: t)) p) l
theorem fixH_eq {β : Type} : ∀ (l : List (Nat × Nat)) (k : List (Nat × Nat) → β), fixH l k = k l
  | [], _ => rfl
  | (a, b) :: l, k => by
    show fixH l (fun t => fixN a fun a => fixN b fun b => k ((a, b) :: t)) = _
    rw [fixH_eq l]
    simp only [fixN_eq]
def fixS {β : Type} (s : St) (k : St → β) : β := St.rec (motive := fun _ => β) (fun heap next hid wr => fixL hid fun h => fixN next fun n => k ⟨heap, n, h, wr⟩) s
theorem fixS_eq {β : Type} (s : St) (k : St → β) : fixS s k = k s := by
  cases s
  simp only [fixS, fixL_eq, fixN_eq]
def fixG {β : Type} (s : St) (k : St → β) : β := St.rec (motive := fun _ => β) (fun heap next hid wr => fixH hid fun h => fixN next fun n => k ⟨heap, n, h, wr⟩) s
theorem fixG_eq {β : Type} (s : St) (k : St → β) : fixG s k = k s := by
  cases s
  simp only [fixG, fixH_eq, fixN_eq]

def doneF (nt : Nat) (tt : T SV) (dst : Option Tmp) (k : T SV → St → Option (T SV × St)) (r : Option (SV × St)) : Option (T SV × St) := match r with
  | some (v, s') => match putT nt tt dst v with
    | some tt' => fixS s' (k tt')
    | none => none
  | none => none
def skipF (nt : Nat) (tt : T SV) (dst : Option Tmp) (k : T SV → St → Option (T SV × St)) (s : St) : Option (T SV × St) := match putT nt tt dst (.lit undef) with
  | some tt' => k tt' s
  | none => none
def stepF (cx : Cx) (ih : Runs) (nt : Nat) (ops : List Oper) (o : Oper) (_ : List Oper) (k : T SV → St → Option (T SV × St)) (tt : T SV) (s : St) : Option (T SV × St) := match wanted ops o tt with
  | some true => doneF nt tt o.dst k (oneOpF cx ih tt s o)
  | some false => skipF nt tt o.dst k s
  | none => none
def endOpsF (tt : T SV) (s : St) : Option (T SV × St) := some (tt, s)
def runOpsF (cx : Cx) (ih : Runs) (nt : Nat) (ops : List Oper) (l : List Oper) : T SV → St → Option (T SV × St) := List.rec (motive := fun _ => T SV → St → Option (T SV × St)) endOpsF (stepF cx ih nt ops) l

theorem runOpsF_eq (cx : Cx) (ih : Runs) (nt : Nat) (ops : List Oper) : ∀ (l : List Oper) (tt : T SV) (s : St), runOpsF cx ih nt ops l tt s = runOps cx ih nt ops l tt s
  | [], _, _ => rfl
  | o :: l, tt, s => by
    show stepF cx ih nt ops o l (runOpsF cx ih nt ops l) tt s = _
    have hk : runOpsF cx ih nt ops l = runOps cx ih nt ops l := by funext t u; exact runOpsF_eq cx ih nt ops l t u
    rw [hk]
    simp only [stepF, doneF, skipF, runOps, oneOpF_eq, fixS_eq]
    rfl

/-- Behind an operation of a drawn region that looks at memory. -/
def behindF (s s' : St) : St := { s' with hid := s.hid, wr := eldest s.next s'.wr ++ s.wr }
def givenF (as : List Nat) (cl : List Did) (anc i : Nat) (ran : List Did) (s : St) : St := { s with hid := hides anc ran ++ (claimed as i anc s.next cl ++ s.hid), wr := [] }

def runDrawnF (cx : Cx) (ih : Runs) (nt : Nat) (ops : List Oper) (as : List Nat) (ad : Bool) (cl : List Did) : List (Oper × Nat) → Nat → List Did → T SV → St → Option (T SV × St × List Did)
  | [], _, ran, tt, s => some (tt, s, ran)
  | (o, anc) :: rest, i, ran, tt, s => match wanted ops o tt with
    | some true => match quietOp o.op with
      | true => match oneOpF cx ih tt s o with
        | some (v, _) => match putT nt tt o.dst v with
          | some tt' => runDrawnF cx ih nt ops as ad cl rest (Nat.add i 1) ran tt' s
          | none => none
        | none => none
      | false => match ad && isIns o.op with
        | true => match fixG (givenF as (noIns ops cl) anc i ran s) (fun g => addOne cx (eval tt) g o.op) with
          | some (n, kt, k, v, es) => match putT nt tt o.dst (.lit undef) with
            | some tt' => fixS (s.set n (.map kt (es ++ [(k, v)]))) fun s' => runDrawnF cx ih nt ops as ad cl rest (Nat.add i 1) ((i, s.next, s.next, [n]) :: ran) tt' s'
            | none => none
          | none => none
        | false => match fixG (givenF as cl anc i ran s) (fun g => oneOpF cx ih tt g o) with
          | some (v, s') => match putT nt tt o.dst v with
            | some tt' => fixS (behindF s s') fun s'' => runDrawnF cx ih nt ops as ad cl rest (Nat.add i 1) ((i, s.next, s'.next, eldest s.next s'.wr) :: ran) tt' s''
            | none => none
          | none => none
    | some false => match putT nt tt o.dst (.lit undef) with
      | some tt' => runDrawnF cx ih nt ops as ad cl rest (Nat.add i 1) ran tt' s
      | none => none
    | none => none

theorem runDrawnF_eq (cx : Cx) (ih : Runs) (nt : Nat) (ops : List Oper) (as : List Nat) (ad : Bool) (cl : List Did) : ∀ (l : List (Oper × Nat)) (i : Nat) (ran : List Did) (tt : T SV) (s : St), runDrawnF cx ih nt ops as ad cl l i ran tt s = runDrawn cx ih nt ops as ad cl l i ran tt s
  | [], _, _, _, _ => rfl
  | (o, anc) :: l, i, ran, tt, s => by
    simp only [runDrawnF, runDrawn, oneOpF_eq, fixG_eq, fixS_eq, givenF, behindF, runDrawnF_eq cx ih nt ops as ad cl l]
    rfl

def runRegionF (cx : Cx) (ih : Runs) (nt : Nat) (ops : List Oper) (as : List Nat) (tt : T SV) (s : St) : Option (T SV × St) :=
  match runDrawnF cx ih nt ops as false [] (ops.zip as) 0 [] tt s with
  | some (tt', s', ran) => match calm as [] ran ran with
    | true => some (tt', s')
    | false => match runDrawnF cx ih nt ops as true ran (ops.zip as) 0 [] tt s with
      | some (tt', s', ran') => match calm as ran ran' ran' with
        | true => some (tt', s')
        | false => none
      | none => none
  | none => none

theorem runRegionF_eq (cx : Cx) (ih : Runs) (nt : Nat) (ops : List Oper) (as : List Nat) (tt : T SV) (s : St) : runRegionF cx ih nt ops as tt s = runRegion cx ih nt ops as tt s := by
  simp only [runRegionF, runRegion, runDrawnF_eq]
  rfl

abbrev Rs := Mode → FuncId → List Nat → Nat → T SV → List Item → St → Option (SV × St)

def taskCallF (cx : Cx) (r : Rs) (g : FuncId) (args : List SV) (s : St) : Option (SV × St) := match cx.P.funcs[g]? with
  | some fn => match fn.body with
    | some c => match knownCall cx.calls g args with
      | some v => some (v, s)
      | none => match Nat.ble args.length fn.ntmps with
        | true => r .fn g [] fn.ntmps (tmps0 args 0 .leaf) [.code c] s
        | false => none
    | none => none
  | none => none
def tasksOfF (cx : Cx) (r : Rs) : Runs := fun t s => match t with
  | .call g args => taskCallF cx r g args s
  | .round l g nt tt assign body => r (.round l) g [] nt tt [.code assign, .beginRound, .code body] s
theorem tasksOfF_eq (cx : Cx) (r : Rs) : tasksOfF cx r = tasksOf cx r := by
  funext t s
  cases t <;> rfl

def regionF (cx : Cx) (r : Rs) (mode : Mode) (f : FuncId) (ds : List Nat) (nt : Nat) (tt : T SV) (k : List Item) (s : St) (ops : List Oper) (draw : Bool) : Option (SV × St) := match draw with
  | false => match runOpsF cx (tasksOfF cx r) nt ops ops tt s with
    | some (tt', s') => r mode f ds nt tt' k s'
    | none => none
  | true => match regionFits ops (ops.zip (ancs ops)) 0 [] with
    | true => match runRegionF cx (tasksOfF cx r) nt ops (ancs ops) tt s with
      | some (tt', s') => r mode f ds nt tt' k s'
      | none => none
    | false => none

def rangeEndF (r : Rs) (mode : Mode) (f : FuncId) (ds : List Nat) (nt : Nat) (tt : T SV) (k : List Item) (d l : Nat) (s3 : St) : Option (SV × St) := match s3.see l with
  | some (.loop st p ..) => match st with
    | .busy => none
    | _ => match setLoop s3 l .exhausted none with
      | some s4 => r mode f (match mode with | .fn => d :: ds | .round _ => ds) nt tt ((p.map Item.code).toList ++ k) s4
      | none => none
  | _ => none

def rangeF (cx : Cx) (r : Rs) (mode : Mode) (f : FuncId) (ds : List Nat) (nt : Nat) (tt : T SV) (k : List Item) (s : St) (fo : Operand) (params : Array Tmp) (assign body : Code) : Option (SV × St) := match evalF tt fo with
  | none => none
  | some fv =>
    let s1 := match mode with | .fn => s.new .defd | .round _ => s
    match (match mode with | .fn => some s.next | .round l => (match s.see l with | some (.loop _ _ _ _ _ _ _ _ d) => some d | _ => none)) with
    | none => none
    | some d =>
      let l := s1.next
      let s2 := s1.new (.loop .ready none f nt tt params.toList assign body d)
      match target s2 fv [.yl l] with
      | some (.round ..) => none
      | none => none
      | some t => match tasksOfF cx r t s2 with
        | none => none
        | some (_, s3) => rangeEndF r mode f ds nt tt k d l s3

def condF (r : Rs) (mode : Mode) (f : FuncId) (ds : List Nat) (nt : Nat) (tt : T SV) (k : List Item) (s : St) (c : Operand) (x y : Code) : Option (SV × St) := match evalF tt c with
  | some (.lit (.bool true)) => r mode f ds nt tt (.code x :: k) s
  | some (.lit (.bool false)) => r mode f ds nt tt (.code y :: k) s
  | _ => none

def exitF (cx : Cx) (r : Rs) (mode : Mode) (f : FuncId) (ds : List Nat) (nt : Nat) (tt : T SV) (k : List Item) (s : St) (id : Nat) : Option (SV × St) := match exitTo id k with
  | some k' => r mode f ds nt tt k' s
  | none => leave cx mode f ds tt s (some (.exit id))

abbrev CodeK := Cx → Rs → Mode → FuncId → List Nat → Nat → T SV → List Item → St → Option (SV × St)
def codeT (c : Code) : CodeK := Code.rec (motive := fun _ => CodeK)
  (fun _ r mode f ds nt tt k s => r mode f ds nt tt k s)
  (fun _ ops draw cx r mode f ds nt tt k s => regionF cx r mode f ds nt tt k s ops.toList draw)
  (fun a b _ _ _ r mode f ds nt tt k s => r mode f ds nt tt (.code a :: .code b :: k) s)
  (fun c x y _ _ _ r mode f ds nt tt k s => condF r mode f ds nt tt k s c x y)
  (fun id body _ _ r mode f ds nt tt k s => r mode f ds nt tt (.code body :: .inBlock id :: k) s)
  (fun body _ _ r mode f ds nt tt k s => r mode f ds nt tt (.code body :: .inLoop body :: k) s)
  (fun fo params assign body _ _ cx r mode f ds nt tt k s => rangeF cx r mode f ds nt tt k s fo params assign body)
  (fun id cx r mode f ds nt tt k s => exitF cx r mode f ds nt tt k s id)
  (fun body _ _ r mode f ds nt tt k s => r mode f ds nt tt (.code body :: .inScope body :: k) s)
  (fun _ _ r mode f ds nt tt k s => r mode f ds nt tt k s)
  (fun _ _ _ _ _ _ _ _ _ _ => none)
  (fun cx _ mode f ds _ tt _ s => leave cx mode f ds tt s (some .ret))
  (fun _ _ _ _ _ _ _ _ _ _ => none) c
def codeF (cx : Cx) (r : Rs) (mode : Mode) (f : FuncId) (ds : List Nat) (nt : Nat) (tt : T SV) (k : List Item) (s : St) (c : Code) : Option (SV × St) := codeT c cx r mode f ds nt tt k s

def beginF (r : Rs) (mode : Mode) (f : FuncId) (ds : List Nat) (nt : Nat) (tt : T SV) (k : List Item) (s : St) : Option (SV × St) := match mode with
  | .round l => match loopState s l with
    | some .ready => match setLoop s l .busy none with
      | some s' => r mode f ds nt tt k s'
      | none => none
    | _ => none
  | .fn => none

abbrev ItemK := List Item → Cx → Rs → Mode → FuncId → List Nat → Nat → T SV → St → Option (SV × St)
def itemT (it : Item) : ItemK := Item.rec (motive := fun _ => ItemK)
  (fun c k cx r mode f ds nt tt s => codeF cx r mode f ds nt tt k s c)
  (fun _ k _ r mode f ds nt tt s => r mode f ds nt tt k s)
  (fun body k _ r mode f ds nt tt s => r mode f ds nt tt (.code body :: .inLoop body :: k) s)
  (fun _ k _ r mode f ds nt tt s => r mode f ds nt tt k s)
  (fun _ _ _ _ _ _ _ _ _ _ _ => none)
  (fun _ _ _ _ _ _ _ _ _ _ => none)
  (fun _ _ _ _ _ _ _ _ _ _ => none)
  (fun k _ r mode f ds nt tt s => beginF r mode f ds nt tt k s)
  (fun _ _ _ _ _ _ _ _ _ _ _ _ _ => none)
  (fun _ _ _ _ _ _ _ _ _ _ _ => none) it
def goF (cx : Cx) (r : Rs) (mode : Mode) (f : FuncId) (ds : List Nat) (nt : Nat) (tt : T SV) (todo : List Item) (s : St) : Option (SV × St) :=
  List.rec (motive := fun _ => Cx → Rs → Mode → FuncId → List Nat → Nat → T SV → St → Option (SV × St)) (fun cx _ mode f ds _ tt s => leave cx mode f ds tt s none) (fun it k _ => itemT it k) todo cx r mode f ds nt tt s

def goS (cx : Cx) (_ : Nat) (r : Rs) (mode : Mode) (f : FuncId) (ds : List Nat) (nt : Nat) (tt : T SV) (todo : List Item) (s : St) : Option (SV × St) := fixS s (goF cx r mode f ds nt tt todo)
def goZ (_ : Mode) (_ : FuncId) (_ : List Nat) (_ : Nat) (_ : T SV) (_ : List Item) (_ : St) : Option (SV × St) := none
def runF (cx : Cx) (n : Nat) : Rs := Nat.rec (motive := fun _ => Rs) goZ (goS cx) n

theorem runF_eq (cx : Cx) : ∀ n, runF cx n = run cx n := by
  intro n
  induction n with
  | zero => funext mode f ds nt tt todo s; rfl
  | succ n IH =>
    funext mode f ds nt tt todo s
    show fixS s (goF cx (runF cx n) mode f ds nt tt todo) = run cx (n + 1) mode f ds nt tt todo s
    rw [fixS_eq]
    rw [IH]
    cases todo with
    | nil => rfl
    | cons it k =>
      cases it with
      | code c =>
        show codeF cx (run cx n) mode f ds nt tt k s c = _
        cases c with
        | region id ops draw =>
          simp only [codeF, codeT, run, regionF, tasksOfF_eq, runOpsF_eq, runRegionF_eq]
          cases draw with
          | false => rfl
          | true =>
            dsimp only
            cases regionFits ops.toList (ops.toList.zip (ancs ops.toList)) 0 [] with
            | false => cases runRegion cx (tasksOf cx (run cx n)) nt ops.toList (ancs ops.toList) tt s <;> rfl
            | true =>
              cases runRegion cx (tasksOf cx (run cx n)) nt ops.toList (ancs ops.toList) tt s with
              | none => rfl
              | some p => obtain ⟨p1, p2⟩ := p; rfl
        | cond c x y =>
          simp only [codeF, codeT, run, condF, evalF_eq]
          rfl
        | rangeFunc fo params assign body =>
          simp only [codeF, codeT, run, rangeF, evalF_eq, rangeEndF, tasksOfF_eq]
          rfl
        | _ => rfl
      | _ => rfl

def callF (cx : Cx) (n : Nat) (f : FuncId) (args : List SV) (s : St) : Option (SV × St) := match cx.P.funcs[f]? with
  | some fn => match fn.body with
    | some c => match Nat.ble args.length fn.ntmps with
      | true => runF cx n .fn f [] fn.ntmps (tmps0 args 0 .leaf) [.code c] s
      | false => none
    | none => none
  | none => none

theorem callF_eq (cx : Cx) (n : Nat) (f : FuncId) (args : List SV) (s : St) : callF cx n f args s = call cx n f args s := by
  unfold callF call
  rw [runF_eq]
  rfl

end
end Go.Proofs.YtdkkblkbonjjgabGreatDoor.Ev

namespace Go.Proofs.YtdkkblkbonjjgabGreatDoor.Ev
open Go
/-- The same of the fast one. -/
theorem closed_trueF {P : Program} (hG : Good P) {tabs : List (Nat × List Value)} {n : Nat} {f : FuncId} (h : isTrue (@callF env0 (@Cx.plain env0 P (oldL tabs)) n f [] noSt) = true) {w : World} (ht : ∀ x ∈ tabs, ∀ i v, x.2[i]? = some v → w.cell? ⟨x.1, i, none⟩ = some v) :
    Calls P f #[] w fun e w' => e = .returned (.bool true) ∧ RowKit.Below w.heap.size w w' :=
  closed_true hG (by rw [← @callF_eq env0]; exact h) ht
variable [Env]
theorem named_trueF {cx : Cx} (hG : Good cx.P) {n : Nat} {f : FuncId} {args : List SV} {us : List Value} (hu : concs (fun _ => none) args = some us) (h : isTrue (callF cx n f args noSt) = true) {w : World} (hold : ∀ b i v, cx.old b i = some v → w.cell? ⟨b, i, none⟩ = some v) :
    Calls cx.P f us.toArray w fun e w' => e = .returned (.bool true) ∧ RowKit.Below w.heap.size w w' :=
  named_true hG hu (by rw [← callF_eq]; exact h) hold
end Go.Proofs.YtdkkblkbonjjgabGreatDoor.Ev
