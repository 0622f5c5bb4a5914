/- DecimalTexts, walked. Condition: the tables hold what the program's text lays; the variable MaxLen of internal/bytealg holds a number. -/
import Derived.Test.YtgppimdakafniaaDoorDecPar
import Derived.Test.YtgppimdakafniaaDoorDecM
namespace Go.Proofs.YtgppimdakafniaaDoor
open Go Go.RowKit Go.PlainAid

set_option maxHeartbeats 8000000 in
theorem decimalTexts_walk (n s : Int) (w : World) (hL : Laid w) (hM : MaxLen w) :
    Calls Tryd.prog 12 #[(.agg #[.int .i64 (n), .int .i64 (s)])] w fun e w' => e = .returned (.bool true) ∧ Below w.heap.size w w' := by
  have PH := hide hL.pows
  have TT := hide hL.tab
  have MH := hide hM
  clear hL hM
  by_cases h : okN n s
  · obtain ⟨k, rfl⟩ : ∃ k : Nat, s = k := ⟨s.toNat, by have := h.2.2.1; omega⟩
    have HO := hide h
    clear h
    go_enter Tryd.func12, Tryd.ntmps12
    go_wp2_with fail
    refine (text_ok n k _ HO.out (tab_below TT.out (below1 _ _))).mono ?_
    rintro e w1 ⟨t, rfl, ht, hb1⟩
    have HT := hide ht
    have k1 := new0 hb1
    have k2 := new1 hb1
    have hB : Below w.heap.size w w1 := below_new (Below.refl _ _) hb1
    clear ht hb1
    go_wp2_with fail
    refine (known_any _ (PH.out.below hB)).mono ?_
    rintro e w2 ⟨rfl, hb2⟩
    replace k1 := lift0 hb2 k1
    replace k2 := lift0 hb2 k2
    replace hB := below_step hB hb2
    clear hb2
    go_wp2_with fail
    refine (is_yes _ _ _ HO.out).mono ?_
    rintro e w3 ⟨rfl, hb3⟩
    replace k1 := lift0 hb3 k1
    replace k2 := lift0 hb3 k2
    replace hB := below_step hB hb3
    clear hb3
    go_wp2_with fail
    refine (parse_any t _ (tab_below TT.out hB) (MH.out.below hB)).mono ?_
    rintro e w4 hp
    obtain ⟨n', k', x, rfl, h, hb4⟩ := hp.out
    obtain ⟨rfl, rfl, rfl⟩ : n = n' ∧ k = k' ∧ x = 0 := by
      rcases h with ⟨_, a, b⟩ | ⟨a, _⟩
      · obtain ⟨c, d⟩ := text_inj (HT.out.symm.trans a)
        exact ⟨c, d, b⟩
      · exact absurd HT.out (a n k HO.out)
    replace k1 := lift0 hb4 k1
    replace k2 := lift0 hb4 k2
    replace hB := below_step hB hb4
    have l1 : w.heap.size < w4.heap.size := World.block_lt_of_cell? _ _ k1
    clear hp h hb4
    go_wp2_with fail
    refine (refText_any n k _ HO.out).mono ?_
    rintro e w5 ⟨t', rfl, ht', hb5⟩
    obtain rfl : t = t' := bytes_eq (HT.out.trans ht'.symm)
    have m1 := new0 hb5
    have m2 := new1 hb5
    replace k1 := lift1 hb5 k1
    replace k2 := lift1 hb5 k2
    replace hB := below_new hB hb5
    clear ht' hb5 l1
    go_wp2_with fail
    go_ret
    exact ⟨rfl, hB⟩
  · have HO := hide h
    clear h
    go_enter Tryd.func12, Tryd.ntmps12
    go_wp2_with fail
    refine (text_bad n s _ HO.out).mono ?_
    rintro e w1 ⟨rfl, hb1⟩
    have k1 := new0 hb1
    have k2 := new1 hb1
    have hB : Below w.heap.size w w1 := below_new (Below.refl _ _) hb1
    clear hb1
    go_wp2_with fail
    refine (known_any _ (PH.out.below hB)).mono ?_
    rintro e w2 ⟨rfl, hb2⟩
    replace k1 := lift0 hb2 k1
    replace k2 := lift0 hb2 k2
    replace hB := below_step hB hb2
    clear hb2
    go_wp2_with fail
    refine (is_no _ _ _ HO.out).mono ?_
    rintro e w3 ⟨rfl, hb3⟩
    replace hB := below_step hB hb3
    clear hb3 k1 k2
    go_wp2_with fail
    go_ret
    exact ⟨rfl, hB⟩
end Go.Proofs.YtgppimdakafniaaDoor
