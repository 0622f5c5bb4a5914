/- Structs of two integers as arguments: opened and shut. No condition. -/
import Derived.OpenShut
import Derived.ChangeShapes
import Derived.WideShapes
import Derived.ChangeSame
import Derived.Lib.SmallJoins
namespace Go.Proofs.YtcifakhpggoebabGreatDoor
open Go Go.ChangeShapes Go.WideShapes Go.RowKit Go.Deep Go.WideElems Go.Maps
section
variable {H : Type} {enc : TypeId × Value → H} {P : Program} {w : World} {base : Nat} {spare : Nat → Bool} {held : Bool}

theorem open_ii {r : Reach} {b0 : Nat} {t : TypeId} {f0 f1 : Field} {v : Value} {d : DataW H} {ps : List MemPlace} (hs : P.underlying t = some (.struct #[f0, f1])) (hone : oneCellFields P #[f0, f1] = true) (hC : P.cellsOf t = 2)
    (h0 : P.underlying f0.type = some (.int .i64)) (h1 : P.underlying f1.type = some (.int .i64)) (hval : Value.okWide P w r b0 t v) (hd : DataW.Trod enc P w base spare held t v d ps) :
    ∃ s x, v = .agg #[.int .i64 s, .int .i64 x] ∧ d = .agg [.lit (.int .i64 s), .lit (.int .i64 x)] ∧ ps = [] ∧ (Lit.int .i64 s).wf = true ∧ (Lit.int .i64 x).wf = true := by
  obtain ⟨v0, v1, y0, y1, n, rfl, rfl, rfl, g0, g1⟩ := Joins.open_agg2 hs hone hC hval hd
  obtain ⟨s, e0, rfl, w0⟩ := DataW.trod_int h0 g0
  obtain ⟨x, e1, rfl, w1⟩ := DataW.trod_int h1 g1
  simp only [List.cons.injEq, and_true] at e0 e1
  subst e0; subst e1
  exact ⟨s, x, rfl, rfl, rfl, w0, w1⟩

theorem shut_ii {t : TypeId} {f0 f1 : Field} {s : Int} {x : Int} (hs : P.underlying t = some (.struct #[f0, f1])) (hC : P.cellsOf t = 2) (h0 : P.underlying f0.type = some (.int .i64)) (h1 : P.underlying f1.type = some (.int .i64))
    (o0 : f0.offset = 0) (o1 : f1.offset = 1) (c0 : P.cellsOf f0.type = 1) (c1 : P.cellsOf f1.type = 1) (hw : (Lit.int .i64 s).wf = true) (hx : (Lit.int .i64 x).wf = true) :
    DataW.Trod enc P w base spare held t (.agg #[.int .i64 s, .int .i64 x]) (.agg [.lit (.int .i64 s), .lit (.int .i64 x)]) [] := by
  refine ⟨2, ?_⟩
  have := trod_struct2_mk (enc := enc) (P := P) (w := w) (base := base) (spare := spare) (held := held) (t := t) (n := 1) (cs := [.int .i64 s, .int .i64 x]) (y0 := (.lit (.int .i64 s), [])) (y1 := (.lit (.int .i64 x), [])) hs (by simp [hC])
    (by rw [o0, c0]; simp [DataW.trod, h0, hw]) (by rw [o1, c1]; simp [DataW.trod, h1, hx])
  simpa [Value.cells] using this
end
end Go.Proofs.YtcifakhpggoebabGreatDoor
