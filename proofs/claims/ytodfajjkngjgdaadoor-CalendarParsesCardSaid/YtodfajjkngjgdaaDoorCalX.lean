/- CalendarParses, walked. Conditions: the tables hold what the program's text lays. -/
import Derived.Test.YtodfajjkngjgdaaDoorCalW
namespace Go.Proofs.YtodfajjkngjgdaaDoor
open Go Go.RowKit Go.PlainAid

theorem refTime_any (s : ByteArray) (w : World) : Calls Tryd.prog 34 #[.string s] w (TimePost s w) := by
  by_cases h : TimeIs s
  · exact refTime_yes s w h
  · exact refTime_no s w h

set_option maxHeartbeats 4000000 in
theorem calendarParses_walk (s : ByteArray) (w : World) (hl : Laid w) (hs : s.size ≤ maxLen) :
    Calls Tryd.prog 9 #[.string s] w fun e w' => e = .returned (.bool true) ∧ Below w.heap.size w w' := by
  unfold maxLen at hs
  obtain ⟨k, hk⟩ : ∃ k : Nat, k = min s.size 40 := ⟨_, rfl⟩
  have hk1 : k ≤ s.size := by omega
  have hk2 : k ≤ 40 := by omega
  have i1 : (k : Int) ≤ (s.size : Int) := by omega
  have i0 : (0 : Int) ≤ (k : Int) := by omega
  have em : min (s.size : Int) 40 = (k : Int) := by omega
  obtain ⟨a, ha⟩ : ∃ a, a = (dayOf (s.extract 0 k)).1 := ⟨_, rfl⟩
  obtain ⟨b, hb⟩ : ∃ b, b = (dayOf (s.extract 0 k)).2 := ⟨_, rfl⟩
  obtain ⟨c, hc⟩ : ∃ c, c = (timeOf (s.extract 0 k)).1 := ⟨_, rfl⟩
  obtain ⟨d, hd⟩ : ∃ d, d = (timeOf (s.extract 0 k)).2 := ⟨_, rfl⟩
  have P1 := hide (fun W hW => parse_any (s.extract 0 k) W hW)
  have P2 := hide (fun W => refParse_any (s.extract 0 k) W)
  have P3 := hide (fun W hW => parseTime_any (s.extract 0 k) W hW)
  have P4 : Hid (∀ W, Calls Tryd.prog 34 #[.string (s.extract 0 k)] W fun e w' => e = .returned (.tuple #[.int .i64 (timeOf (s.extract 0 k)).1, .int .i64 (timeOf (s.extract 0 k)).2]) ∧ Below W.heap.size W w') := hide (fun W => refTime_any (s.extract 0 k) W)
  rw [← ha, ← hb] at P1 P2
  rw [← hc, ← hd] at P3 P4
  clear hk ha hb hc hd
  go_enter Tryd.func9, Tryd.ntmps9
  go_wp2_with fail
  refine (known_any _ hl).mono ?_
  rintro e w1 ⟨rfl, hb1⟩
  have hl1 := hl.below hb1
  go_wp2_with fail
  refine (P1.out _ hl1.lens).mono ?_
  rintro e w' ⟨rfl, rfl⟩
  go_wp2_with fail
  refine (P2.out _).mono ?_
  rintro e w2 ⟨rfl, hb2⟩
  have hl2 := hl1.below hb2
  have hb2 := below_step hb1 hb2
  clear hb1 hl1
  go_wp2_with fail
  refine (P3.out _ hl2.lens).mono ?_
  rintro e w' ⟨rfl, rfl⟩
  go_wp2_with fail
  refine (P4.out _).mono ?_
  rintro e w3 ⟨rfl, hb3⟩
  have hb3 := below_step hb2 hb3
  clear hb2 hl2
  go_wp2_with fail
  go_ret
  exact ⟨ret_bool (by simp), hb3⟩
end Go.Proofs.YtodfajjkngjgdaaDoor
