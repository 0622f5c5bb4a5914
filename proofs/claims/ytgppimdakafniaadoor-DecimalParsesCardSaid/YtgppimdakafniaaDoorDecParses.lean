/- DecimalParses, walked. Condition: the tables hold what the program's text lays; the variable MaxLen of internal/bytealg holds a number. -/
import Derived.Test.YtgppimdakafniaaDoorDecRefPar
import Derived.Test.YtgppimdakafniaaDoorDecM
namespace Go.Proofs.YtgppimdakafniaaDoor
open Go Go.RowKit Go.PlainAid

set_option maxHeartbeats 8000000 in
theorem decimalParses_walk (s : ByteArray) (w : World) (hL : Laid w) (hM : MaxLen w) (hs : s.size ≤ maxLen) :
    Calls Tryd.prog 13 #[.string s] w fun e w' => e = .returned (.bool true) ∧ Below w.heap.size w w' := by
  have PH := hide hL.pows
  have TT := hide hL.tab
  have MH := hide hM
  clear hL hM
  unfold maxLen at hs
  obtain ⟨m, hm⟩ : ∃ m : Nat, m = min s.size 40 := ⟨_, rfl⟩
  have hmi : min (s.size : Int) 40 = (m : Int) := by omega
  have hm1 : m ≤ s.size := by omega
  clear hm
  go_enter Tryd.func13, Tryd.ntmps13
  go_wp2_with fail
  generalize ht : s.extract 0 m = t at *
  clear ht
  refine (parse_any t _ TT.out MH.out).mono ?_
  rintro e w1 hp
  obtain ⟨n, k, x, rfl, h, hb1⟩ := hp.out
  have HP := hide h
  have hB : Below w.heap.size w w1 := hb1
  clear hp h hb1
  go_wp2_with fail
  refine (refParse_any t _).mono ?_
  rintro e w2 hp
  obtain ⟨n', k', x', rfl, h, hb2⟩ := hp.out
  obtain ⟨rfl, rfl, rfl⟩ : n = n' ∧ k = k' ∧ x = x' := by
    rcases HP.out with ⟨a1, a2, a3⟩ | ⟨a1, a2, a3, a4⟩ <;> rcases h with ⟨b1, b2, b3⟩ | ⟨b1, b2, b3, b4⟩
    · obtain ⟨c, d⟩ := text_inj (a2.symm.trans b2)
      exact ⟨c, d, a3.trans b3.symm⟩
    · exact absurd a2 (b1 _ _ a1)
    · exact absurd b2 (a1 _ _ b1)
    · exact ⟨a2.trans b2.symm, a3.trans b3.symm, a4.trans b4.symm⟩
  have p1 := new0 hb2
  have p2 := new1 hb2
  replace hB := below_new hB hb2
  have l1 : w1.heap.size < w2.heap.size := World.block_lt_of_cell? _ _ p1
  clear hp h hb2 HP
  go_wp2_with fail
  refine (known_any _ (PH.out.below (below_alloc hB _))).mono ?_
  rintro e w3 ⟨rfl, hb3⟩
  have q1 := new0 hb3
  have q2 := new1 hb3
  replace p1 := lift1 hb3 p1
  replace p2 := lift1 hb3 p2
  replace hB := below_new hB hb3
  clear hb3 l1
  go_wp2_with fail
  go_ret
  exact ⟨rfl, hB⟩
end Go.Proofs.YtgppimdakafniaaDoor
