/- The law TaggedTakes: its walk. Condition: the laid tables. -/
import Derived.Test.YtjkgmhkjcbeiiaaDoorTagA
import Derived.Test.YtjkgmhkjcbeiiaaDoorTagC
import Derived.Test.YtjkgmhkjcbeiiaaDoorTagKnown
namespace Go.Proofs.YtjkgmhkjcbeiiaaDoor
open Go Go.RowKit Go.PlainAid

theorem at_cases (t : ByteArray) (a : Int) : (a < 0 ∨ (t.size : Int) < a) ∨ ∃ f : Nat, a = (f : Int) ∧ f ≤ t.size := by
  by_cases h : a < 0 ∨ (t.size : Int) < a
  · exact .inl h
  · exact .inr ⟨a.toNat, by omega, by omega⟩
set_option maxHeartbeats 4000000 in
theorem taggedTakes_walk (s : ByteArray) (a : Int) (w : World) (hL : Laid w) (hs : s.size ≤ maxLen) :
    Calls Tryd.prog 3 #[.string s, .int .i64 a] w fun e w' => e = .returned (.bool true) ∧ Below w.heap.size w w' := by
  unfold maxLen at hs
  by_cases hz : s.size ≤ 40
  · have hcase := at_cases s a
    rcases hcase with hbad | ⟨f, rfl, hf⟩
    · have hbad' : a < 0 ∨ (s.size : Int) < a := by exact hbad
      rcases hbad' with hneg | hbig
      · go_enter Tryd.func3, Tryd.ntmps3
        go_wp2_with fail
        refine (TagB.take_bad s a _ hbad).mono ?_
        rintro e w1 ⟨rfl, rfl⟩
        go_wp2_with fail
        refine (known_ok _ hL).mono ?_
        rintro e w2 ⟨rfl, hb2⟩
        go_wp2_with fail
        go_returns
        exact ⟨rfl, hb2⟩
      · have hn : ¬ a < 0 := by omega
        go_enter Tryd.func3, Tryd.ntmps3
        go_wp2_with fail
        refine (TagB.take_bad s a _ hbad).mono ?_
        rintro e w1 ⟨rfl, rfl⟩
        go_wp2_with fail
        refine (known_ok _ hL).mono ?_
        rintro e w2 ⟨rfl, hb2⟩
        go_wp2_with fail
        go_returns
        exact ⟨rfl, hb2⟩
    · obtain ⟨K, hK⟩ := stop_ex s f hf
      have HK := hide hK
      have HF : (f : Int) ≤ s.size := by omega
      clear hK hf
      go_enter Tryd.func3, Tryd.ntmps3
      go_wp2_with fail
      refine (TagB.take_any s f K _ hz HK.out).mono ?_
      rintro e w1 ⟨rfl, hb1⟩
      have hL1 := hL.below hb1
      have R1 : ∀ W, Calls Tryd.prog 6 #[.string (s), .int .i64 f] W fun e w' => (∃ at_ : Int, e = .returned (.tuple #[.int .i64 (takeN (s) f K).1, .int .i64 (takeN (s) f K).2.1, .int .i64 at_, .int .i64 (takeN (s) f K).2.2])) ∧ w' = W := fun W => refTake_any (s) f K W hz HK.out
      have R1 := hide R1
      generalize hT : takeN (s) f K = T at *
      clear hT
      go_wp2_with fail
      refine (R1.out _).mono ?_
      rintro e w2 ⟨⟨at_, rfl⟩, rfl⟩
      go_wp2_with fail
      refine (known_ok _ hL1).mono ?_
      rintro e w3 ⟨rfl, hb3⟩
      go_wp2_with fail
      go_returns
      exact ⟨rfl, hb1.trans (hb3.mono hb1.size)⟩
  · have h40 : (s.extract 0 40).size = 40 := by rw [ByteArray.size_extract]; omega
    have hcase := at_cases (s.extract 0 40) a
    rcases hcase with hbad | ⟨f, rfl, hf⟩
    · have hbad' : a < 0 ∨ (40 : Int) < a := by rw [h40] at hbad; exact hbad
      rcases hbad' with hneg | hbig
      · go_enter Tryd.func3, Tryd.ntmps3
        go_wp2_with fail
        refine (TagB.take_bad (s.extract 0 40) a _ hbad).mono ?_
        rintro e w1 ⟨rfl, rfl⟩
        go_wp2_with fail
        refine (known_ok _ hL).mono ?_
        rintro e w2 ⟨rfl, hb2⟩
        go_wp2_with fail
        go_returns
        exact ⟨rfl, hb2⟩
      · have hn : ¬ a < 0 := by omega
        go_enter Tryd.func3, Tryd.ntmps3
        go_wp2_with fail
        refine (TagB.take_bad (s.extract 0 40) a _ hbad).mono ?_
        rintro e w1 ⟨rfl, rfl⟩
        go_wp2_with fail
        refine (known_ok _ hL).mono ?_
        rintro e w2 ⟨rfl, hb2⟩
        go_wp2_with fail
        go_returns
        exact ⟨rfl, hb2⟩
    · obtain ⟨K, hK⟩ := stop_ex (s.extract 0 40) f hf
      have HK := hide hK
      have HF : (f : Int) ≤ 40 := by omega
      clear hK hf
      go_enter Tryd.func3, Tryd.ntmps3
      go_wp2_with fail
      refine (TagB.take_any (s.extract 0 40) f K _ (by omega) HK.out).mono ?_
      rintro e w1 ⟨rfl, hb1⟩
      have hL1 := hL.below hb1
      have R1 : ∀ W, Calls Tryd.prog 6 #[.string ((s.extract 0 40)), .int .i64 f] W fun e w' => (∃ at_ : Int, e = .returned (.tuple #[.int .i64 (takeN ((s.extract 0 40)) f K).1, .int .i64 (takeN ((s.extract 0 40)) f K).2.1, .int .i64 at_, .int .i64 (takeN ((s.extract 0 40)) f K).2.2])) ∧ w' = W := fun W => refTake_any ((s.extract 0 40)) f K W (by omega) HK.out
      have R1 := hide R1
      generalize hT : takeN ((s.extract 0 40)) f K = T at *
      clear hT
      go_wp2_with fail
      refine (R1.out _).mono ?_
      rintro e w2 ⟨⟨at_, rfl⟩, rfl⟩
      go_wp2_with fail
      refine (known_ok _ hL1).mono ?_
      rintro e w3 ⟨rfl, hb3⟩
      go_wp2_with fail
      go_returns
      exact ⟨rfl, hb1.trans (hb3.mono hb1.size)⟩
end Go.Proofs.YtjkgmhkjcbeiiaaDoor
