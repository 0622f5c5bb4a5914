/- What Cells returns, errors too; the law's cuts. No condition. -/
import Derived.Test.YtcifakhpggoebaaGreatDoorFwD
namespace Go.Proofs.YtcifakhpggoebaaGreatDoor.Fw
open Go Go.RowKit Go.PlainAid
set_option maxRecDepth 100000 in
set_option maxHeartbeats 4000000 in
theorem Cells_any (s : ByteArray) (A : Option Addr) (l : List Int) (c : Nat) (w : World) (hr : Row w A l) (hl : l.length ≤ 1000) (hsz : s.size ≤ 1000000) :
    Calls Tryz.prog 6 #[.string s, .slice A l.length c] w (Post s l w) := by
  by_cases h64 : l.length ≤ 64
  · by_cases ho : allOk l
    · by_cases he : s.size = S l l.length
      · exact Cells_ok s A l c w hr h64 ho he hsz
      · have HR := hide hr
        have hd : decide (allOk l) = true := decide_eq_true ho
        have CL := fun w hr => checkLength_any s A l c w hr h64 ho
        have CO := fun w hr => contains_any A l c w hr hl
        rw [hd] at CO
        obtain ⟨x, hx, hx0, hxc⟩ : ∃ x : Int, lenCode s.size (S l l.length) = x ∧ x ≠ 0 ∧ code s l = x := by
          rcases Nat.lt_or_gt_of_ne he with h | h
          · exact ⟨4, by unfold lenCode; rw [if_pos h], by decide, code_short h64 ho h⟩
          · exact ⟨5, by unfold lenCode; rw [if_neg (by omega), if_pos h], by decide, code_long h64 ho h⟩
        rw [hx] at CL
        have HCL := hide CL
        have HCO := hide CO
        have HC := hide hxc
        have h64' : ¬ (64 : Int) < (l.length : Int) := by omega
        have hx1 : (x == 0) = false := by simpa using hx0
        clear hr ho he hd CL CO hx hxc
        go_enter Tryz.func6, Tryz.ntmps6
        go_wp2_with fail
        refine (HCO.out _ HR.out).mono ?_
        rintro e w1 ⟨rfl, b1⟩
        have B1 := hide b1
        clear b1
        go_wp2_with fail
        refine (HCL.out _ (HR.out.below B1.out)).mono ?_
        rintro e w2 ⟨⟨y, rfl⟩, b2⟩
        have B2 : Hid (Below w.heap.size w w2) := hide (B1.out.trans (b2.mono B1.out.size))
        clear b2 HCL HCO
        go_wp2_with fail
        go_returns
        exact Post.bad HC.out hx0 B2.out
    · have HR := hide hr
      have hd : decide (allOk l) = false := decide_eq_false ho
      have CO := fun w hr => contains_any A l c w hr hl
      rw [hd] at CO
      have HCO := hide CO
      have HC := hide (code_wide (s := s) (.inr ho))
      have h64' : ¬ (64 : Int) < (l.length : Int) := by omega
      clear hr ho hd CO
      go_enter Tryz.func6, Tryz.ntmps6
      go_wp2_with fail
      refine (HCO.out _ HR.out).mono ?_
      rintro e w1 ⟨rfl, b1⟩
      have B1 := hide b1
      clear b1
      go_wp2_with fail
      go_returns
      exact Post.bad HC.out (by decide) B1.out
  · have h64' : (64 : Int) < (l.length : Int) := by omega
    have HC := hide (code_wide (s := s) (.inl (by omega : 64 < l.length)))
    go_enter Tryz.func6, Tryz.ntmps6
    go_wp2_with fail
    go_returns
    exact Post.bad HC.out (by decide) (Below.refl _ _)
/-- a row of texts -/
def SRow (w : World) (A : Option Addr) (xs : List Value) : Prop := 0 < xs.length → ∃ g, A = some ⟨g, 0, none⟩ ∧ g < w.heap.size ∧ ∀ i v, xs[i]? = some v → w.cell? ⟨g, i, none⟩ = some v
theorem SRow.of_own {w : World} {B T : Nat} {v : Value} {n : Nat} {xs : List Value} (h : w.ownsRow B T 1 v n xs) : ∃ A cap, v = .slice A n cap ∧ SRow w A xs := by
  have h' := h
  rcases h.2 with ⟨rfl, h0⟩ | ⟨g, cap, cur, rfl, _, hg, _⟩
  · refine ⟨none, 0, by rw [h0], fun hl => ?_⟩
    have := h.1
    omega
  · refine ⟨_, cap, rfl, fun _ => ⟨g, rfl, ?_, fun i v hi => ?_⟩⟩
    · rcases Nat.lt_or_ge g w.heap.size with hlt | hge
      · exact hlt
      · rw [Array.getElem?_eq_none hge] at hg; cases hg
    · have := (List.getElem?_eq_some_iff.1 hi).1
      exact (h'.cellAt _ (by have := h'.1; omega)).trans hi
theorem SRow.below {w w' : World} {A : Option Addr} {xs : List Value} (h : SRow w A xs) (hb : Below w.heap.size w w') : SRow w' A xs := fun hl => by
  obtain ⟨g, e, hg, hc⟩ := h hl
  exact ⟨g, e, Nat.lt_of_lt_of_le hg hb.size, fun i v hi => (hb.cell (p := ⟨g, i, none⟩) hg).trans (hc i v hi)⟩
theorem joined (s : ByteArray) (l : List Int) (k : Nat) : s.extract 0 (S l k) ++ textI s l k = s.extract 0 (S l (k + 1)) := by
  unfold textI
  have hm : S l k ≤ S l (k + 1) := by
    unfold S
    rcases Nat.lt_or_ge k l.length with h | h
    · rw [List.take_succ_eq_append_getElem h, List.map_append, List.sum_append]; omega
    · rw [List.take_of_length_le h, List.take_of_length_le (by omega)]; exact Nat.le_refl _
  rw [ByteArray.extract_append_extract, Nat.zero_min, Nat.max_eq_right hm]
end Go.Proofs.YtcifakhpggoebaaGreatDoor.Fw
