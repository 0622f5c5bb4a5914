/- FitFlat: the law returns true for every input, and leaves the input as it is; the listed package-level variables hold what the program's text lays (the card ties that). No other condition. -/
import Derived.Test.YtdkkblkbonjjgaaDoorRows
import Derived.Test.YtdkkblkbonjjgaaDoorCards
import Derived.Test.YtdkkblkbonjjgaaDoorTie
import Derived.Test.YtdkkblkbonjjgaaDoorFfLaw
import Derived.Test.YtdkkblkbonjjgaaDoorFyFitFlat
import Derived.ProofKit
import Derived.LaidMore
import Derived.OpenShut
import Derived.ShutString
import Derived.ChangeOld
import Derived.Below
import Derived.Stop.Joined
import Derived.SevenTiedAt
import Derived.Lay
import Derived.Test.YtdkkblkbonjjgaaDoorFlat
import Derived.Test.YtdkkblkbonjjgaaDoorFfTree
import Derived.Carry
import Derived.Lib.SmallJoins
namespace Go.Proofs.YtdkkblkbonjjgaaDoor.FitFlatDone
open Go Go.ChangeShapes Go.WideShapes Go.ChangeAt Go.WideMaps Go.WideElems Go.RowKit
open Go.ChangeMaps (open_string shut_string)
open Go.Joins
theorem own : ownKnob Tryd.prog.godebug = none := by kernel_rfl
theorem laidOut : laidOutB Tryd.prog = true := by kernel_rfl
def laid : List (String × DataW Unit) := Rows.fitFlatRow.laid
theorem door_met (os : Os) (args : Array Value) : laidMetH Tryd.prog laid ((World.laidAll Tryd.prog os laid).forCall (fun _ _ => 0) ⟨#[], args, []⟩).memory := by
  rw [MakeChecks.laidMetH_plain _ _ _ (by kernel_rfl)]
  exact laidMet_laidAll _ (by kernel_rfl) (by kernel_rfl)
theorem of_laid {W : World} (h : laidMetH Tryd.prog laid W) : Laid W := by
  rw [MakeChecks.laidMetH_plain _ _ _ (by kernel_rfl)] at h
  intro x hx i v hv
  simp only [tabs, List.mem_cons, List.mem_nil_iff, or_false] at hx
  rcases hx with rfl | rfl | rfl | rfl
  · exact (laid_cell (n := 4) h (j := 0) (name := "manifold/charset.forms") (d := Rows.laid_manifold_charset_forms) (t := 86) (vs := tab0) rfl (by kernel_rfl) (by kernel_rfl) (by kernel_rfl) i).trans hv
  · exact (laid_cell (n := 4) h (j := 1) (name := "math/bits.deBruijn32tab") (d := Rows.laid_math_bits_deBruijn32tab) (t := 106) (vs := tab1) rfl (by kernel_rfl) (by kernel_rfl) (by kernel_rfl) i).trans hv
  · exact (laid_cell (n := 4) h (j := 2) (name := "math/bits.deBruijn64tab") (d := Rows.laid_math_bits_deBruijn64tab) (t := 107) (vs := tab2) rfl (by kernel_rfl) (by kernel_rfl) (by kernel_rfl) i).trans hv
  · exact (laid_cell (n := 4) h (j := 3) (name := "internal/strconv.uint64pow10") (d := Rows.laid_internal_strconv_uint64pow10) (t := 101) (vs := tab3) rfl (by kernel_rfl) (by kernel_rfl) (by kernel_rfl) i).trans hv
set_option maxRecDepth 100000 in
theorem lifted (os : Os) (started : os.Started) (H : Type) (enc : TypeId × Value → H) :
    ReturnsInHanded {} Tryd.checked os 3 .any (fun w args => (Rows.fitFlatSpec.pre enc Tryd.prog Tryd.f3 [] false w args ∧ laidMetH Tryd.prog laid w) ∧ sizedMet enc Tryd.prog Tryd.f3 (OpenSpec.ofChange Rows.fitFlatSpec) false w args)
      (Rows.fitFlatSpec.post enc Tryd.prog Tryd.f3 false true false false) := by
  refine returnsInHanded_of_change_and (C := Tryd.checked) (X := fun w _ => laidMetH Tryd.prog laid w) (fun _ _ _ hh h => h.of_heap hh) own started (by kernel_rfl) Tryd.func3
    (ChangeSpec.witness_shaped (enc := enc) (C := Tryd.checked) (os := os) (X := fun w _ => laidMetH Tryd.prog laid w) false (World.laidAll Tryd.prog os laid) #[.agg #[.int .i64 0, .int .i64 0, .int .i64 0, .int .i64 0, .slice none 0 0, .slice none 0 0, .slice none 0 0]] 8 (World.laidAll_os _ _ _) (World.shaped_of_ZipB (by kernel_rfl) (by kernel_rfl)) (by kernel_rfl) (by kernel_rfl) (by kernel_rfl) (door_met os _)) ?_
  intro W base args ds gs before hval0 hW _ _ hL _
  have hval : ∀ (j : Nat) t v, Tryd.f3.params[j]? = some t → args[j]? = some v → Value.okWide Tryd.prog W .any base t v := hval0
  have hW' := hW
  obtain ⟨p, q, hA0, hV, rfl, hfz, hnd⟩ := hW
  have hA : DataW.TrodAll enc Tryd.prog W 0 (fun _ => true) true Tryd.f3.params.toList args.toList ds p := hA0
  rw [Tryd.params3] at hA hval
  obtain ⟨v0, vs0, d0, ds0, p0, q0, hargs, rfl, rfl, h0, r0⟩ := trodAll_cons hA
  obtain ⟨rfl, rfl, rfl⟩ := trodAll_nil r0
  obtain rfl : args = #[v0] := by cases args; simp_all
  obtain ⟨rfl, rfl⟩ := trodVars_none hV
  obtain ⟨c0, rfl, _⟩ := okWide_struct Tryd.underlying26 (hval 0 26 v0 rfl rfl)
  have k0 := h0
  have lt0 : ∀ x ∈ p0, x.block < W.heap.size := by obtain ⟨m, hm⟩ := k0; exact DataW.trod_lt m _ _ _ hm
  have w0 : Ff.TOk W 3 c0.toList := by
    obtain ⟨fuel, hf⟩ := h0
    exact Ff.tok 3 _ _ _ hf
  clear hA0 hval0
  refine (fitFlat_walk c0 W (of_laid hL) w0).mono fun e W' ⟨he, bel⟩ => ?_
  subst he
  exact ⟨_, rfl, _, _, _, [], _, [], hW', trodAll_mk1 (shut_bool Tryd.underlying4 _), (trodAll_cons_mk (Below.trod laidOut (by kernel_rfl) (of_decide_eq_true (by kernel_rfl)) k0 bel lt0) (trodAll_mk0)), rfl, bel.frame _, fun h => by cases h⟩
theorem row_holds : Rows.FitFlatSaid :=
  OpenClaim.holds_of_wide 3 Tryd.f3 rfl rfl rfl rfl rfl rfl rfl ⟨rfl, rfl, rfl, rfl, rfl⟩ rfl rfl rfl rfl rfl (by kernel_rfl) Tryd.func3 FitFlatFx.closed
    (of_decide_eq_true (by kernel_rfl)) (by unfold Func.isWrapper; rw [if_neg (of_decide_eq_false (by kernel_rfl))]; exact ⟨rfl, rfl⟩)
    (fun os started H enc _ => lifted os started H enc)
end Go.Proofs.YtdkkblkbonjjgaaDoor.FitFlatDone
namespace Go.Proofs.YtdkkblkbonjjgaaDoor
open Go
theorem fitFlat_card : Rows.FitFlatCardSaid :=
  Claim7.holds_tied_plain_at .later [] [.data, .data, .data, .data] true Rows.fitFlatCard.stood.harness false
    FitFlatDone.row_holds (fun _ h => by cases h) FitFlatFx.byText (fun _ h => by cases h) fitFlat_row_tie rfl ⟨rfl, rfl⟩ FitFlatFx.main rfl
    (fun f fn hf hfn => by
      obtain rfl : f = 3 := Option.some.inj ((show Tryd.prog.funcNamed "manifold/manifoldlaw07.FitFlat" = some 3 by kernel_rfl).symm.trans hf) |>.symm
      obtain rfl : fn = Tryd.f3 := (Option.some.inj (Tryd.func3.symm.trans hfn)).symm
      exact ⟨FitFlatFx.looks, fun j t ht => by
        rw [Tryd.params3] at ht
        have hm : t ∈ ([26] : List TypeId) := by simpa using Array.mem_of_getElem? ht
        have hall : (([26] : List TypeId).all fun u => !Tryd.prog.wantsStandIn u) = true := by kernel_rfl
        exact (show Tryd.prog.wantsStandIn t = false by simpa using List.all_eq_true.1 hall t hm)⟩)
    FitFlatFx.goes
#print axioms fitFlat_card
end Go.Proofs.YtdkkblkbonjjgaaDoor
