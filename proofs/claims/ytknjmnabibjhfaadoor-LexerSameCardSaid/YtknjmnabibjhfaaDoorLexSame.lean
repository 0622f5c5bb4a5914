/- The law LexerSame: its walk. Condition: the listed tables. -/
import Derived.Test.YtknjmnabibjhfaaDoorTokRef
import Derived.Test.YtknjmnabibjhfaaDoorKnown
namespace Go.Proofs.YtknjmnabibjhfaaDoor
open Go Go.RowKit Go.PlainAid Tok
theorem pb_step {w a b : World} (h : Below w.heap.size w a) (k : Below a.heap.size a b) : Below w.heap.size w b := h.trans (k.mono h.size)
theorem take30 {l : List E} (k : Nat) (h : k = min l.length 30) : (l.take 30).length = k := by rw [List.length_take]; omega
set_option maxRecDepth 100000 in
set_option maxHeartbeats 4000000 in
theorem lexerSame_walk (A : Option Addr) (la : List E) (ca : Nat) (B : Option Addr) (lb : List E) (cb : Nat) (W : World) (hL : Laid W) (ha : la.length ≤ ca ∧ Row W A la) (hb : lb.length ≤ cb ∧ Row W B lb) :
    Calls Tryd.prog 3 #[.slice A la.length ca, .slice B lb.length cb] W fun e w' => e = .returned (.bool true) ∧ Below W.heap.size W w' := by
  obtain ⟨xa, hxa⟩ : ∃ l, l = la.take 30 := ⟨_, rfl⟩
  obtain ⟨xb, hxb⟩ : ∃ l, l = lb.take 30 := ⟨_, rfl⟩
  have ra : Row W A xa := hxa ▸ ha.2.take 30
  have rb : Row W B xb := hxb ▸ hb.2.take 30
  have na : xa.length ≤ 30 ∧ xa.length ≤ la.length ∧ (xa.length = 30 ∨ xa.length = la.length) := by subst hxa; rw [List.length_take]; omega
  have nb : xb.length ≤ 30 ∧ xb.length ≤ lb.length ∧ (xb.length = 30 ∨ xb.length = lb.length) := by subst hxb; rw [List.length_take]; omega
  have RA := hide ra
  have RB := hide rb
  obtain ⟨a1, a2, a3⟩ := na
  obtain ⟨b1', b2', b3'⟩ := nb
  have c1 := ha.1
  have c2 := hb.1
  clear ra rb hxa hxb ha hb
  go_enter Tryd.func3, Tryd.ntmps3
  have m1 : (if 30 < (la.length : Int) then (30 : Int) else (la.length : Int)) = (xa.length : Int) := by split <;> omega
  have m2 : (if 30 < (lb.length : Int) then (30 : Int) else (lb.length : Int)) = (xb.length : Int) := by split <;> omega
  have e1 : (xa.length : Int) ≤ (ca : Int) := by omega
  have e2 : (xb.length : Int) ≤ (cb : Int) := by omega
  go_wp2_with fail
  go_quiet (fail)
  clear m1 m2
  go_wp2_with fail
  have B0 : Below W.heap.size W _ := (Below.refl W.heap.size W)
  refine (known_ok _ (hL.below (w' := _) ?b0)).mono ?_
  case b0 => exact ⟨rfl, rfl, rfl, Nat.le_refl _, fun _ _ => rfl⟩
  rintro e w1 ⟨rfl, b1⟩
  have B1 : Hid (Below W.heap.size W w1) := hide ⟨b1.os, b1.tape, b1.output, b1.size, b1.block⟩
  clear b1
  go_wp2_with fail
  refine (same_any A B xa xb ca cb _ (RA.out.below B1.out) (RB.out.below B1.out) a1 b1').mono ?_
  rintro e w2 ⟨rfl, b2⟩
  have B2 := hide (pb_step B1.out b2)
  clear b2
  go_wp2_with fail
  refine (ref_any A B xa xb ca cb _ (RA.out.below B2.out) (RB.out.below B2.out) a1 b1').mono ?_
  rintro e w3 ⟨rfl, b3⟩
  have B3 := hide (pb_step B2.out b3)
  clear b3
  go_wp2_with fail
  refine (same_any A A xa xa ca ca _ (RA.out.below B3.out) (RA.out.below B3.out) a1 a1).mono ?_
  rintro e w4 ⟨rfl, b4⟩
  have B4 := hide (pb_step B3.out b4)
  have hs : decide (sameP xa xa) = true := decide_eq_true (sameP_refl _)
  clear b4
  go_wp2_with fail
  go_returns
  refine ⟨?_, B4.out⟩
  simp
end Go.Proofs.YtknjmnabibjhfaaDoor
