/- ExprCalculates: the law returns true for every input, and leaves the input as it is; the listed package-level variables hold what the program's text lays (the card ties that). No other condition. -/
import Derived.Test.YtcifakhpggoebabGreatDoorRows
import Derived.Test.YtcifakhpggoebabGreatDoorCards
import Derived.Test.YtcifakhpggoebabGreatDoorTie
import Derived.Test.YtcifakhpggoebabGreatDoorExprCalc
import Derived.Test.YtcifakhpggoebabGreatDoorFyExprCalculates
import Derived.ProofKit
import Derived.LaidMore
import Derived.OpenShut
import Derived.ShutString
import Derived.ChangeOld
import Derived.Below
import Derived.Stop.Joined
import Derived.SevenTiedAt
import Derived.Lay
import Derived.Test.YtcifakhpggoebabGreatDoorFlat
import Derived.Test.YtcifakhpggoebabGreatDoorAggII
namespace Go.Proofs.YtcifakhpggoebabGreatDoor.ExprCalculatesDone
open Go Go.ChangeShapes Go.WideShapes Go.ChangeAt Go.WideMaps Go.WideElems Go.RowKit
open Go.ChangeMaps (open_string shut_string)
theorem own : ownKnob Tryz.prog.godebug = none := by kernel_rfl
theorem laidOut : laidOutB Tryz.prog = true := by kernel_rfl
def laid : List (String × DataW Unit) := Rows.exprCalculatesRow.laid
theorem door_met (os : Os) (args : Array Value) : laidMetH Tryz.prog laid ((World.laidAll Tryz.prog os laid).forCall (fun _ _ => 0) ⟨#[], args, []⟩).memory := by
  rw [MakeChecks.laidMetH_plain _ _ _ (by kernel_rfl)]
  exact laidMet_laidAll _ (by kernel_rfl) (by kernel_rfl)
theorem of_laid {W : World} (h : laidMetH Tryz.prog laid W) : Laid W := by
  rw [MakeChecks.laidMetH_plain _ _ _ (by kernel_rfl)] at h
  intro x hx i v hv
  simp only [tabs, List.mem_cons, List.mem_nil_iff, or_false] at hx
  rcases hx with rfl | rfl | rfl | rfl | rfl | rfl | rfl | rfl
  · exact (laid_cell (n := 4) h (j := 0) (name := "manifold/charset.forms") (d := Rows.laid_manifold_charset_forms) (t := 253) (vs := tab0) rfl (by kernel_rfl) (by kernel_rfl) (by kernel_rfl) i).trans hv
  · exact (laid_cell (n := 4) h (j := 1) (name := "math/bits.deBruijn32tab") (d := Rows.laid_math_bits_deBruijn32tab) (t := 375) (vs := tab1) rfl (by kernel_rfl) (by kernel_rfl) (by kernel_rfl) i).trans hv
  · exact (laid_cell (n := 4) h (j := 2) (name := "math/bits.deBruijn64tab") (d := Rows.laid_math_bits_deBruijn64tab) (t := 376) (vs := tab2) rfl (by kernel_rfl) (by kernel_rfl) (by kernel_rfl) i).trans hv
  · exact (laid_cell (n := 4) h (j := 3) (name := "internal/strconv.uint64pow10") (d := Rows.laid_internal_strconv_uint64pow10) (t := 338) (vs := tab3) rfl (by kernel_rfl) (by kernel_rfl) (by kernel_rfl) i).trans hv
  · exact (laid_cell (n := 4) h (j := 4) (name := "unicode/utf8.acceptRanges") (d := Rows.laid_unicode_utf8_acceptRanges) (t := 354) (vs := tab4) rfl (by kernel_rfl) (by kernel_rfl) (by kernel_rfl) i).trans hv
  · exact (laid_cell (n := 4) h (j := 7) (name := "manifold/calendar.lengths") (d := Rows.laid_manifold_calendar_lengths) (t := 343) (vs := tab7) rfl (by kernel_rfl) (by kernel_rfl) (by kernel_rfl) i).trans hv
  · exact (laid_cell (n := 4) h (j := 8) (name := "manifold/decimal.powers") (d := Rows.laid_manifold_decimal_powers) (t := 111) (vs := tab8) rfl (by kernel_rfl) (by kernel_rfl) (by kernel_rfl) i).trans hv
  · exact (laid_cell (n := 4) h (j := 9) (name := "manifold/schema.limits") (d := Rows.laid_manifold_schema_limits) (t := 274) (vs := tab9) rfl (by kernel_rfl) (by kernel_rfl) (by kernel_rfl) i).trans hv
set_option maxRecDepth 100000 in
theorem lifted (os : Os) (started : os.Started) (H : Type) (enc : TypeId × Value → H) :
    ReturnsInHanded {} Tryz.checked os 3 .any (fun w args => (Rows.exprCalculatesSpec.pre enc Tryz.prog Tryz.f3 [] false w args ∧ laidMetH Tryz.prog laid w) ∧ sizedMet enc Tryz.prog Tryz.f3 (OpenSpec.ofChange Rows.exprCalculatesSpec) false w args)
      (Rows.exprCalculatesSpec.post enc Tryz.prog Tryz.f3 false true false false) := by
  refine returnsInHanded_of_change_and (C := Tryz.checked) (X := fun w _ => laidMetH Tryz.prog laid w) (fun _ _ _ hh h => h.of_heap hh) own started (by kernel_rfl) Tryz.func3
    (ChangeSpec.witness_shaped (enc := enc) (C := Tryz.checked) (os := os) (X := fun w _ => laidMetH Tryz.prog laid w) false (World.laidAll Tryz.prog os laid) #[.agg #[.int .i64 0, .int .i64 0], .agg #[.int .i64 0, .int .i64 0], .int .i64 0] 8 (World.laidAll_os _ _ _) (World.shaped_of_ZipB (by kernel_rfl) (by kernel_rfl)) (by kernel_rfl) (by kernel_rfl) (by kernel_rfl) (door_met os _)) ?_
  intro W base args ds gs before hval0 hW _ _ hL _
  have hval : ∀ (j : Nat) t v, Tryz.f3.params[j]? = some t → args[j]? = some v → Value.okWide Tryz.prog W .any base t v := hval0
  have hW' := hW
  obtain ⟨p, q, hA0, hV, rfl, hfz, hnd⟩ := hW
  have hA : DataW.TrodAll enc Tryz.prog W 0 (fun _ => true) true Tryz.f3.params.toList args.toList ds p := hA0
  rw [Tryz.params3] at hA hval
  obtain ⟨v0, vs0, d0, ds0, p0, q0, hargs, rfl, rfl, h0, r0⟩ := trodAll_cons hA
  obtain ⟨v1, vs1, d1, ds1, p1, q1, rfl, rfl, rfl, h1, r1⟩ := trodAll_cons r0
  obtain ⟨v2, vs2, d2, ds2, p2, q2, rfl, rfl, rfl, h2, r2⟩ := trodAll_cons r1
  obtain ⟨rfl, rfl, rfl⟩ := trodAll_nil r2
  obtain rfl : args = #[v0, v1, v2] := by cases args; simp_all
  obtain ⟨rfl, rfl⟩ := trodVars_none hV
  obtain ⟨a0, b0, rfl, rfl, rfl, w0, u0⟩ := open_ii Tryz.underlying23 (by kernel_rfl) (by kernel_rfl) Tryz.underlying3 Tryz.underlying3 (hval 0 23 v0 rfl rfl) h0
  obtain ⟨a1, b1, rfl, rfl, rfl, w1, u1⟩ := open_ii Tryz.underlying23 (by kernel_rfl) (by kernel_rfl) Tryz.underlying3 Tryz.underlying3 (hval 1 23 v1 rfl rfl) h1
  obtain ⟨a2, rfl, rfl, rfl, w2⟩ := open_int Tryz.underlying3 (hval 2 3 v2 rfl rfl) h2
  clear hA0 hval0
  refine (exprCalculates_walk a0 b0 a1 b1 a2 W (of_laid hL) w2).mono fun e W' ⟨he, bel⟩ => ?_
  subst he
  exact ⟨_, rfl, _, _, _, [], _, [], hW', trodAll_mk1 (shut_bool Tryz.underlying4 _), (trodAll_cons_mk (shut_ii Tryz.underlying23 (by kernel_rfl) Tryz.underlying3 Tryz.underlying3 rfl rfl (by kernel_rfl) (by kernel_rfl) w0 u0) (trodAll_cons_mk (shut_ii Tryz.underlying23 (by kernel_rfl) Tryz.underlying3 Tryz.underlying3 rfl rfl (by kernel_rfl) (by kernel_rfl) w1 u1) (trodAll_cons_mk (shut_int Tryz.underlying3 w2) (trodAll_mk0)))), rfl, bel.frame _, fun h => by cases h⟩
theorem row_holds : Rows.ExprCalculatesSaid :=
  OpenClaim.holds_of_wide 3 Tryz.f3 rfl rfl rfl rfl rfl rfl rfl ⟨rfl, rfl, rfl, rfl, rfl⟩ rfl rfl rfl rfl rfl (by kernel_rfl) Tryz.func3 ExprCalculatesFx.closed
    (of_decide_eq_true (by kernel_rfl)) (by unfold Func.isWrapper; rw [if_neg (of_decide_eq_false (by kernel_rfl))]; exact ⟨rfl, rfl⟩)
    (fun os started H enc _ => lifted os started H enc)
end Go.Proofs.YtcifakhpggoebabGreatDoor.ExprCalculatesDone
namespace Go.Proofs.YtcifakhpggoebabGreatDoor
open Go
theorem exprCalculates_card : Rows.ExprCalculatesCardSaid :=
  Claim7.holds_tied_plain_at .later [] [.data, .data, .data, .data, .data, .sentinel, .sentinel, .data, .data, .data, .pinned] true Rows.exprCalculatesCard.stood.harness true
    ExprCalculatesDone.row_holds (fun _ h => by cases h) ExprCalculatesFx.byText (fun _ h => by cases h) exprCalculates_row_tie rfl ⟨rfl, rfl⟩ ExprCalculatesFx.main rfl
    (fun f fn hf hfn => by
      obtain rfl : f = 3 := Option.some.inj ((show Tryz.prog.funcNamed "manifold/manifoldlaw16.ExprCalculates" = some 3 by kernel_rfl).symm.trans hf) |>.symm
      obtain rfl : fn = Tryz.f3 := (Option.some.inj (Tryz.func3.symm.trans hfn)).symm
      exact ⟨ExprCalculatesFx.looks, fun j t ht => by
        rw [Tryz.params3] at ht
        have hm : t ∈ [23, 23, 3]  := by simpa using Array.mem_of_getElem? ht
        have hall : (([23, 23, 3] : List TypeId).all fun u => !Tryz.prog.wantsStandIn u) = true := by kernel_rfl
        exact (show Tryz.prog.wantsStandIn t = false by simpa using List.all_eq_true.1 hall t hm)⟩)
    ExprCalculatesFx.goes
#print axioms exprCalculates_card
end Go.Proofs.YtcifakhpggoebabGreatDoor
