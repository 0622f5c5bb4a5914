/- The law PathCovers: its walk. Condition: the listed tables. -/
import Derived.Test.YtllfeoinmjbeaaaDoorPcCov
import Derived.Test.YtllfeoinmjbeaaaDoorPcRef
import Derived.Test.YtllfeoinmjbeaaaDoorKnown
namespace Go.Proofs.YtllfeoinmjbeaaaDoor
open Go Go.RowKit Go.PlainAid Pc

theorem pb_step {w a b : World} (h : Below w.heap.size w a) (k : Below a.heap.size a b) : Below w.heap.size w b := h.trans (k.mono h.size)
set_option maxRecDepth 100000 in
set_option maxHeartbeats 4000000 in
theorem pathCovers_walk (A : Option Addr) (la : List Pt) (ca : Nat) (B : Option Addr) (lb : List Pt) (cb : Nat) (C : Option Addr) (lc : List Pt) (cc : Nat) (W : World) (hL : Laid W) (ha : PtRow W A la) (hb : PtRow W B lb) (hc : PtRow W C lc) :
    Calls Tryd.prog 3 #[.slice A la.length ca, .slice B lb.length cb, .slice C lc.length cc] W fun e w' => e = .returned (.bool true) ∧ Below W.heap.size W w' := by
  by_cases h1 : la.length ≤ 20
  · by_cases h2 : lb.length ≤ 20
    · by_cases h3 : lc.length ≤ 20
      · have HA := hide ha
        have HB := hide hb
        have HC := hide hc
        obtain ⟨x, hx⟩ : ∃ x, decide (cov la lb) = x := ⟨_, rfl⟩
        obtain ⟨y, hy⟩ : ∃ x, decide (cov lb lc) = x := ⟨_, rfl⟩
        obtain ⟨z, hz⟩ : ∃ x, decide (cov la lc) = x := ⟨_, rfl⟩
        have HT : Hid ((!x || !y || z) = true) := hide (by
          subst hx; subst hy; subst hz
          by_cases k1 : cov la lb
          · by_cases k2 : cov lb lc
            · simp [k1, k2, cov_trans k1 k2]
            · simp [k2]
          · simp [k1])
        have XX : Hid (∀ (A B : Option Addr) (ca cb : Nat) (w : World), PtRow w A la → PtRow w B lb → Calls Tryd.prog 5 #[.slice A la.length ca, .slice B lb.length cb] w fun e w' => e = .returned (.bool x) ∧ Below w.heap.size w w') := hide fun A B ca cb w ra rb => by rw [← hx]; exact covers_any A B la lb ca cb w ra rb h1 h2
        have YY : Hid (∀ (A B : Option Addr) (ca cb : Nat) (w : World), PtRow w A lb → PtRow w B lc → Calls Tryd.prog 5 #[.slice A lb.length ca, .slice B lc.length cb] w fun e w' => e = .returned (.bool y) ∧ Below w.heap.size w w') := hide fun A B ca cb w ra rb => by rw [← hy]; exact covers_any A B lb lc ca cb w ra rb h2 h3
        have ZZ : Hid (∀ (A B : Option Addr) (ca cb : Nat) (w : World), PtRow w A la → PtRow w B lc → Calls Tryd.prog 5 #[.slice A la.length ca, .slice B lc.length cb] w fun e w' => e = .returned (.bool z) ∧ Below w.heap.size w w') := hide fun A B ca cb w ra rb => by rw [← hz]; exact covers_any A B la lc ca cb w ra rb h1 h3
        have RX : Hid (∀ (A B : Option Addr) (ca cb : Nat) (w : World), PtRow w A la → PtRow w B lb → Calls Tryd.prog 7 #[.slice A la.length ca, .slice B lb.length cb] w fun e w' => e = .returned (.bool x) ∧ Below w.heap.size w w') := hide fun A B ca cb w ra rb => by rw [← hx]; exact refCovers_any A B la lb ca cb w ra rb h1 h2
        have RY : Hid (∀ (A B : Option Addr) (ca cb : Nat) (w : World), PtRow w A lb → PtRow w B lc → Calls Tryd.prog 7 #[.slice A lb.length ca, .slice B lc.length cb] w fun e w' => e = .returned (.bool y) ∧ Below w.heap.size w w') := hide fun A B ca cb w ra rb => by rw [← hy]; exact refCovers_any A B lb lc ca cb w ra rb h2 h3
        have SS : Hid (∀ (A B : Option Addr) (ca cb : Nat) (w : World), PtRow w A la → PtRow w B la → Calls Tryd.prog 5 #[.slice A la.length ca, .slice B la.length cb] w fun e w' => e = .returned (.bool true) ∧ Below w.heap.size w w') := hide fun A B ca cb w ra rb => by rw [← decide_eq_true (cov_refl la)]; exact covers_any A B la la ca cb w ra rb h1 h1
        clear hx hy hz ha hb hc
        go_enter Tryd.func3, Tryd.ntmps3
        go_wp2_with fail
        refine (known_ok _ hL).mono ?_
        rintro e w1 ⟨rfl, b1⟩
        have B1 := hide b1
        clear b1
        go_wp2_with fail
        refine (own_any A la ca _ (HA.out.below B1.out) h1).mono ?_
        rintro e w2 ⟨v, rfl, o2, b2⟩
        obtain ⟨A2, c2, rfl, r2⟩ := row_of_own o2
        have R2 := hide r2
        have B2 := hide (pb_step B1.out b2)
        clear o2 r2 b2
        go_wp2_with fail
        refine (own_any B lb cb _ (HB.out.below B2.out) h2).mono ?_
        rintro e w3 ⟨v, rfl, o3, b3⟩
        obtain ⟨A3, c3, rfl, r3⟩ := row_of_own o3
        have R3 := hide r3
        have Q2 := hide (R2.out.below b3)
        have B3 := hide (pb_step B2.out b3)
        clear o3 r3 b3
        go_wp2_with fail
        refine (XX.out _ _ _ _ _ Q2.out R3.out).mono ?_
        rintro e w4 ⟨rfl, b4⟩
        have B4 := hide (pb_step B3.out b4)
        clear b4 R2 R3 Q2
        go_wp2_with fail
        refine (own_any B lb cb _ (HB.out.below B4.out) h2).mono ?_
        rintro e w5 ⟨v, rfl, o2, b2⟩
        obtain ⟨A5, c5, rfl, r2⟩ := row_of_own o2
        have R2 := hide r2
        have B5 := hide (pb_step B4.out b2)
        clear o2 r2 b2
        go_wp2_with fail
        refine (own_any C lc cc _ (HC.out.below B5.out) h3).mono ?_
        rintro e w6 ⟨v, rfl, o3, b3⟩
        obtain ⟨A6, c6, rfl, r3⟩ := row_of_own o3
        have R3 := hide r3
        have Q2 := hide (R2.out.below b3)
        have B6 := hide (pb_step B5.out b3)
        clear o3 r3 b3
        go_wp2_with fail
        refine (YY.out _ _ _ _ _ Q2.out R3.out).mono ?_
        rintro e w7 ⟨rfl, b4⟩
        have B7 := hide (pb_step B6.out b4)
        clear b4 R2 R3 Q2
        go_wp2_with fail
        refine (own_any A la ca _ (HA.out.below B7.out) h1).mono ?_
        rintro e w8 ⟨v, rfl, o2, b2⟩
        obtain ⟨A8, c8, rfl, r2⟩ := row_of_own o2
        have R2 := hide r2
        have B8 := hide (pb_step B7.out b2)
        clear o2 r2 b2
        go_wp2_with fail
        refine (own_any C lc cc _ (HC.out.below B8.out) h3).mono ?_
        rintro e w9 ⟨v, rfl, o3, b3⟩
        obtain ⟨A9, c9, rfl, r3⟩ := row_of_own o3
        have R3 := hide r3
        have Q2 := hide (R2.out.below b3)
        have B9 := hide (pb_step B8.out b3)
        clear o3 r3 b3
        go_wp2_with fail
        refine (ZZ.out _ _ _ _ _ Q2.out R3.out).mono ?_
        rintro e w10 ⟨rfl, b4⟩
        have B10 := hide (pb_step B9.out b4)
        clear b4 R2 R3 Q2
        go_wp2_with fail
        refine (RX.out _ _ _ _ _ (HA.out.below B10.out) (HB.out.below B10.out)).mono ?_
        rintro e w11 ⟨rfl, b4⟩
        have B11 := hide (pb_step B10.out b4)
        clear b4
        go_wp2_with fail
        refine (RY.out _ _ _ _ _ (HB.out.below B11.out) (HC.out.below B11.out)).mono ?_
        rintro e w12 ⟨rfl, b4⟩
        have B12 := hide (pb_step B11.out b4)
        clear b4
        go_wp2_with fail
        refine (own_any A la ca _ (HA.out.below B12.out) h1).mono ?_
        rintro e w13 ⟨v, rfl, o2, b2⟩
        obtain ⟨A13, c13, rfl, r2⟩ := row_of_own o2
        have R2 := hide r2
        have B13 := hide (pb_step B12.out b2)
        clear o2 r2 b2
        go_wp2_with fail
        refine (own_any A la ca _ (HA.out.below B13.out) h1).mono ?_
        rintro e w14 ⟨v, rfl, o3, b3⟩
        obtain ⟨A14, c14, rfl, r3⟩ := row_of_own o3
        have R3 := hide r3
        have Q2 := hide (R2.out.below b3)
        have B14 := hide (pb_step B13.out b3)
        clear o3 r3 b3
        go_wp2_with fail
        refine (SS.out _ _ _ _ _ Q2.out R3.out).mono ?_
        rintro e w15 ⟨rfl, b4⟩
        have B15 := hide (pb_step B14.out b4)
        clear b4 R2 R3 Q2
        cases x <;> cases y <;> cases z
        all_goals first
          | (exact absurd HT.out (by decide))
          | (go_wp2_with fail
             go_returns
             exact ⟨rfl, B15.out⟩)
      · go_enter Tryd.func3, Tryd.ntmps3
        go_wp2_with fail
        refine (known_ok _ hL).mono ?_
        rintro e w1 ⟨rfl, b1⟩
        go_wp2_with fail
        refine (known_ok _ (hL.below b1)).mono ?_
        rintro e w2 ⟨rfl, b2⟩
        go_wp2_with fail
        go_returns
        exact ⟨rfl, pb_step b1 b2⟩
    · go_enter Tryd.func3, Tryd.ntmps3
      go_wp2_with fail
      refine (known_ok _ hL).mono ?_
      rintro e w1 ⟨rfl, b1⟩
      go_wp2_with fail
      refine (known_ok _ (hL.below b1)).mono ?_
      rintro e w2 ⟨rfl, b2⟩
      go_wp2_with fail
      go_returns
      exact ⟨rfl, pb_step b1 b2⟩
  · go_enter Tryd.func3, Tryd.ntmps3
    go_wp2_with fail
    refine (known_ok _ hL).mono ?_
    rintro e w1 ⟨rfl, b1⟩
    go_wp2_with fail
    refine (known_ok _ (hL.below b1)).mono ?_
    rintro e w2 ⟨rfl, b2⟩
    go_wp2_with fail
    go_returns
    exact ⟨rfl, pb_step b1 b2⟩
end Go.Proofs.YtllfeoinmjbeaaaDoor
