/- The law FixedwidthCells: its walk. Condition: the listed tables. -/
import Derived.Test.YtcifakhpggoebaaGreatDoorFwE
import Derived.Test.YtcifakhpggoebaaGreatDoorKnown
namespace Go.Proofs.YtcifakhpggoebaaGreatDoor
open Go Go.RowKit Go.PlainAid Fw
theorem pb_step {w a b : World} (h : Below w.heap.size w a) (k : Below a.heap.size a b) : Below w.heap.size w b := h.trans (k.mono h.size)
theorem short_any (s : ByteArray) (w : World) (_hs : s.size ≤ maxLen) : Calls Tryz.prog 4 #[.string s] w fun e w' => e = .returned (.string (s.extract 0 (min s.size 10000))) ∧ Below w.heap.size w w' := by
  have m1 : (if 10000 < (s.size : Int) then (10000 : Int) else (s.size : Int)) = ((min s.size 10000 : Nat) : Int) := by split <;> omega
  obtain ⟨k, hk⟩ : ∃ k, min s.size 10000 = k := ⟨_, rfl⟩
  rw [hk] at m1 ⊢
  have hk' : (k : Int) ≤ (s.size : Int) := by omega
  clear hk
  go_enter Tryz.func4, Tryz.ntmps4
  go_wp2_with fail
  go_returns
  refine ⟨?_, Below.refl _ _⟩
  simp
theorem cut_any (A : Option Addr) (l : List Int) (ca : Nat) (w : World) (hc : l.length ≤ ca) : Calls Tryz.prog 5 #[.slice A l.length ca] w fun e w' => e = .returned (.slice A (l.take 70).length ca) ∧ Below w.heap.size w w' := by
  have m1 : (if 70 < (l.length : Int) then (70 : Int) else (l.length : Int)) = (((l.take 70).length : Nat) : Int) := by rw [List.length_take]; split <;> omega
  have hk0 : (l.take 70).length ≤ l.length := by rw [List.length_take]; omega
  obtain ⟨k, hk⟩ : ∃ k, (l.take 70).length = k := ⟨_, rfl⟩
  rw [hk] at m1 hk0 ⊢
  have hk' : (k : Int) ≤ (ca : Int) := by omega
  clear hk
  go_enter Tryz.func5, Tryz.ntmps5
  go_wp2_with fail
  go_returns
  refine ⟨?_, Below.refl _ _⟩
  simp
set_option maxRecDepth 100000 in
set_option maxHeartbeats 8000000 in
theorem fixedwidthCells_walk (s0 : ByteArray) (A : Option Addr) (l0 : List Int) (ca : Nat) (W : World) (hL : Laid W) (hs0 : s0.size ≤ maxLen) (hr : l0.length ≤ ca ∧ Row W A l0) :
    Calls Tryz.prog 3 #[.string s0, .slice A l0.length ca] W fun e w' => e = .returned (.bool true) ∧ Below W.heap.size W w' := by
  have SH := hide (short_any s0)
  obtain ⟨s, hs⟩ : ∃ s, s0.extract 0 (min s0.size 10000) = s := ⟨_, rfl⟩
  have hsz : s.size ≤ 1000000 := by rw [← hs, ByteArray.size_extract]; omega
  have SH' : Hid (∀ w, Calls Tryz.prog 4 #[.string s0] w fun e w' => e = .returned (.string s) ∧ Below w.heap.size w w') := hide fun w => hs ▸ SH.out w hs0
  obtain ⟨l, hl⟩ : ∃ l, l0.take 70 = l := ⟨_, rfl⟩
  have hr' : Row W A l := hl ▸ hr.2.take 70
  have hlen : l.length ≤ 1000 := by rw [← hl, List.length_take]; omega
  have CU : Hid (∀ w, Calls Tryz.prog 5 #[.slice A l0.length ca] w fun e w' => e = .returned (.slice A l.length ca) ∧ Below w.heap.size w w') := hide fun w => hl ▸ cut_any A l0 ca w hr.1
  have HR := hide hr'
  clear SH hs hl hr hr'
  go_enter Tryz.func3, Tryz.ntmps3
  go_wp2_with fail
  refine (SH'.out _).mono ?_
  rintro e w1 ⟨rfl, b1⟩
  have B1 := hide b1
  clear b1
  go_wp2_with fail
  refine (CU.out _).mono ?_
  rintro e w2 ⟨rfl, b2⟩
  have B2 := hide (pb_step B1.out b2)
  clear b2 B1
  go_wp2_with fail
  refine (Cells_any s A l ca _ (HR.out.below B2.out) hlen hsz).mono ?_
  rintro e w3 ⟨v1, c1, rfl, hc1, hn1, ho1, b3⟩
  have B3 := hide (pb_step B2.out b3)
  clear b3
  have H1 := hide hc1
  have N1 := hide hn1
  have O1 := hide ho1
  clear hc1 hn1 ho1
  go_wp2_with fail
  refine (refCells_any s A l ca _ (HR.out.below B3.out) hlen hsz).mono ?_
  rintro e w4 ⟨v2, c2, rfl, hc2, hn2, ho2, b4⟩
  obtain rfl : c2 = c1 := hc2.trans H1.out.symm
  have B4 := hide (pb_step B3.out b4)
  by_cases h0 : c2 = 0
  · subst h0
    obtain ⟨A1, q1, rfl, r1⟩ := SRow.of_own (O1.out rfl)
    obtain ⟨A2, q2, rfl, r2⟩ := SRow.of_own (ho2 rfl)
    have R1 := hide (r1.below b4)
    have R2 := hide r2
    have he : Hid (s.size = S l l.length ∧ l.length ≤ 64) := hide (by
      have := H1.out
      unfold code at this
      split at this
      · cases this
      · rename_i h
        split at this
        · cases this
        · split at this
          · cases this
          · exact ⟨by omega, by have := not_or.1 h; omega⟩)
    clear hc2 hn2 ho2 r1 r2 b4 N1 O1
    go_wp2_with fail
    refine (known_ok _ (hL.below B4.out)).mono ?_
    rintro e w5 ⟨rfl, b5⟩
    have B5 := hide (pb_step B4.out b5)
    have R1' := hide (R1.out.below b5)
    have R2' := hide (R2.out.below b5)
    clear b5 R1 R2
    go_wp2_with fail
    go_loopw [9, 10] (fun t x wr => ∃ k : Nat, k ≤ l.length ∧ x = .int .i64 k ∧ t = .string (s.extract 0 (S l k)) ∧ Below w5.heap.size w5 wr) (fun _ x _ => l.length - (intOf x).toNat)
    case atStart => exact ⟨0, Nat.zero_le _, rfl, by rw [S_zero]; simp; rfl, Below.refl _ _⟩
    case round =>
      obtain ⟨k, hk, rfl, rfl, hb⟩ := hrel
      by_cases hlt : k < l.length
      · have hlx : 0 < (texts s l l.length).length := by rw [texts_length]; omega
        obtain ⟨g, rfl, hg, hcell⟩ := R1'.out hlx
        obtain ⟨g', rfl, hg', hcell'⟩ := R2'.out hlx
        have d0 := (hb.cell (p := ⟨g, k, none⟩) hg).trans (hcell k _ (texts_at s l l.length k hlt))
        have e0 := (hb.cell (p := ⟨g', k, none⟩) hg').trans (hcell' k _ (texts_at s l l.length k hlt))
        have hi0 : (0 : Int) ≤ (k : Int) := Int.natCast_nonneg _
        have hi1 : (k : Int) < (l.length : Int) := by omega
        have J := hide (joined s l k)
        obtain ⟨x, hx⟩ : ∃ x, textI s l k = x := ⟨_, rfl⟩
        obtain ⟨y, hy⟩ : ∃ y, s.extract 0 (S l k) = y := ⟨_, rfl⟩
        rw [hx] at d0 e0
        rw [hy]
        have J' : Hid (y ++ x = s.extract 0 (S l (k + 1))) := hide (by rw [← hx, ← hy]; exact J.out)
        have hxs : x.size ≤ 1000000 := by rw [← hx]; unfold textI; rw [ByteArray.size_extract]; omega
        have hys : y.size ≤ 1000000 := by rw [← hy, ByteArray.size_extract]; omega
        clear J hx hy hcell hcell'
        go_wp2_with fail
        go_quiet (fail)
        go_wp2_with fail
        go_roundw
        case rel => exact ⟨k + 1, by omega, by go_num, by rw [J'.out], ⟨hb.os, hb.tape, hb.output, hb.size, hb.block⟩⟩
        case measure => simp [intOf]; omega
      · obtain rfl : k = l.length := by omega
        have hx : s.extract 0 (S l l.length) = s := by rw [← he.out.1]; simp
        rw [hx]
        clear hx
        go_wp2_with fail
        go_returns
        exact ⟨rfl, pb_step B5.out hb⟩
  · have e1 := N1.out h0
    have e2 := hn2 h0
    subst e1; subst e2
    have h0' : (c2 == 0) = false := by simpa using h0
    clear hc2 hn2 ho2 b4 N1 O1
    go_wp2_with fail
    refine (known_ok _ (hL.below B4.out)).mono ?_
    rintro e w5 ⟨rfl, b5⟩
    have B5 := hide (pb_step B4.out b5)
    clear b5
    go_wp2_with fail
    go_loopw [10] (fun x wr => x = .int .i64 0 ∧ wr = w5) (fun _ _ => 0)
    case atStart => exact ⟨rfl, rfl⟩
    case round =>
      obtain ⟨rfl, rfl⟩ := hrel
      go_wp2_with fail
      go_returns
      exact ⟨rfl, B5.out⟩
end Go.Proofs.YtcifakhpggoebaaGreatDoor
