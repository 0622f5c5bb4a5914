/- The law ExprCalculates: what its runs are. Condition: the listed tables. -/
import Derived.PlainAid
import Derived.Below
import Derived.Test.YtcifakhpggoebabGreatDoorSym
namespace Go.Proofs.YtcifakhpggoebabGreatDoor
open Go Go.RowKit Go.PlainAid
abbrev CallT := FuncId × List Ev.SV × Ev.SV
abbrev envE (v : Nat → Int) : Ev.Env := ⟨v, fun _ => ⟨#[]⟩⟩
def OK (v : Nat → Int) (c : CallT) : Prop := @Ev.CallOK (envE v) Tryz.prog (Ev.oldL tabs) c ∧ (@Ev.concs (envE v) (fun _ => none) c.2.1).isSome = true ∧ (@Ev.conc (envE v) (fun _ => none) c.2.2).isSome = true
structure Holds (v : Nat → Int) (fs : List Ev.Fact) : Prop where
  ok : ∀ f ∈ fs, @Ev.Fact.holds (envE v) f
structure Goods (v : Nat → Int) (cs : List CallT) : Prop where
  ok : ∀ c ∈ cs, OK v c
theorem Holds.nil {v : Nat → Int} : Holds v [] := ⟨fun _ h => (List.not_mem_nil h).elim⟩
theorem Holds.cons {v : Nat → Int} {f : Ev.Fact} {fs : List Ev.Fact} (h : @Ev.Fact.holds (envE v) f) (t : Holds v fs) : Holds v (f :: fs) := ⟨List.forall_mem_cons.2 ⟨h, t.ok⟩⟩
theorem Holds.app {v : Nat → Int} {a b : List Ev.Fact} (h : Holds v a) (t : Holds v b) : Holds v (a ++ b) := ⟨fun f hf => (List.mem_append.1 hf).elim (h.ok f) (t.ok f)⟩
theorem Goods.nil {v : Nat → Int} : Goods v [] := ⟨fun _ h => (List.not_mem_nil h).elim⟩
theorem Goods.cons {v : Nat → Int} {c : CallT} {cs : List CallT} (h : OK v c) (t : Goods v cs) : Goods v (c :: cs) := ⟨List.forall_mem_cons.2 ⟨h, t.ok⟩⟩
noncomputable def cxT {v : Nat → Int} {fs : List Ev.Fact} {cs : List CallT} (h : Holds v fs) (t : Goods v cs) : @Ev.Cx (envE v) := @Ev.Cx.mk (envE v) Tryz.prog (Ev.oldL tabs) fs h.ok cs t.ok
abbrev aN : Ev.SV := .agg [.sint .i64 (.v 0), .sint .i64 (.v 1)]
abbrev bN : Ev.SV := .agg [.sint .i64 (.v 2), .sint .i64 (.v 3)]
abbrev cN : Ev.SV := .sint .i64 (.v 4)
noncomputable abbrev Runs {v : Nat → Int} {fs : List Ev.Fact} {cs : List CallT} (h : Holds v fs) (t : Goods v cs) : Bool :=
  Ev.isTrue (@Ev.callF (envE v) (cxT h t) 1000000 3 [aN, bN, cN] Ev.noSt)
theorem walk_of {v : Nat → Int} {fs : List Ev.Fact} {cs : List CallT} {h : Holds v fs} {t : Goods v cs} (r : Runs h t = true) {w : World} (hL : Laid w) :
    Calls Tryz.prog 3 #[.agg #[.int .i64 (v 0), .int .i64 (v 1)], .agg #[.int .i64 (v 2), .int .i64 (v 3)], .int .i64 (v 4)] w fun e w' => e = .returned (.bool true) ∧ Below w.heap.size w w' :=
  @Ev.named_trueF (envE v) (cxT h t) good 1000000 3 [aN, bN, cN] [.agg #[.int .i64 (v 0), .int .i64 (v 1)], .agg #[.int .i64 (v 2), .int .i64 (v 3)], .int .i64 (v 4)]
    (by simp only [Ev.concs, Ev.conc, Ev.IE.den, Option.map_some]; rfl) r w hL.old
theorem ok_of {v : Nat → Int} {f : FuncId} {args : List Ev.SV} {r : Ev.SV} {us : List Value} {rv : Value} (hu : @Ev.concs (envE v) (fun _ => none) args = some us) (hr : @Ev.conc (envE v) (fun _ => none) r = some rv)
    (h : ∀ w, Laid w → Calls Tryz.prog f us.toArray w fun e w' => e = .returned rv ∧ Below w.heap.size w w') : OK v (f, args, r) := by
  refine ⟨fun w us' r' hold hu' hr' => ?_, ?_, ?_⟩
  · have e1 := hu.symm.trans hu'
    have e2 := hr.symm.trans hr'
    cases e1; cases e2
    exact h w (laid_of_old hold)
  · show (@Ev.concs (envE v) (fun _ => none) args).isSome = true
    rw [hu]; rfl
  · show (@Ev.conc (envE v) (fun _ => none) r).isSome = true
    rw [hr]; rfl
abbrev cKnown : CallT := (7, [], .lit (.bool true))
abbrev cAdd0 : CallT := (9, [aN, bN], .tup [.agg [.sint .i64 (.v 5), .sint .i64 (.v 6)], .lit (.int .i64 0)])
abbrev cAdd1 : CallT := (9, [aN, bN], .tup [.agg [.sint .i64 (.v 5), .sint .i64 (.v 6)], .sint .i64 (.v 7)])
abbrev cCmp : CallT := (10, [aN, bN], .tup [.sint .i64 (.v 11), .lit (.int .i64 0)])
abbrev cDiv0 : CallT := (11, [aN, bN, cN], .tup [.agg [.sint .i64 (.v 8), .sint .i64 (.v 9)], .lit (.int .i64 0)])
abbrev cDiv1 : CallT := (11, [aN, bN, cN], .tup [.agg [.sint .i64 (.v 8), .sint .i64 (.v 9)], .sint .i64 (.v 10)])
abbrev cDiv2 : CallT := (11, [aN, bN, cN], .tup [.agg [.sint .i64 (.v 8), .sint .i64 (.v 9)], .lit (.int .i64 2)])
abbrev okA : List Ev.Fact := [.lo (.v 0) (-999999999999999), .hi (.v 0) 999999999999999, .lo (.v 1) 0, .hi (.v 1) 12]
abbrev okB : List Ev.Fact := [.lo (.v 2) (-999999999999999), .hi (.v 2) 999999999999999, .lo (.v 3) 0, .hi (.v 3) 12]
abbrev noA (i : Nat) : List Ev.Fact := match i with | 0 => [.hi (.v 0) (-1000000000000000)] | 1 => [.lo (.v 0) 1000000000000000] | 2 => [.lo (.v 0) (-999999999999999), .hi (.v 0) 999999999999999, .hi (.v 1) (-1)] | _ => [.lo (.v 0) (-999999999999999), .hi (.v 0) 999999999999999, .lo (.v 1) 13]
abbrev noB (i : Nat) : List Ev.Fact := match i with | 0 => [.hi (.v 2) (-1000000000000000)] | 1 => [.lo (.v 2) 1000000000000000] | 2 => [.lo (.v 2) (-999999999999999), .hi (.v 2) 999999999999999, .hi (.v 3) (-1)] | _ => [.lo (.v 2) (-999999999999999), .hi (.v 2) 999999999999999, .lo (.v 3) 13]
abbrev fLow : List Ev.Fact := [.hi (.v 4) (-1)]
abbrev fHigh : List Ev.Fact := [.lo (.v 4) 13]
abbrev fZero : List Ev.Fact := [.eq (.v 4) (.lit 0) true, .lo (.v 4) 0, .hi (.v 4) 0]
abbrev fIn : List Ev.Fact := [.lo (.v 4) 1, .hi (.v 4) 12]
end Go.Proofs.YtcifakhpggoebabGreatDoor
