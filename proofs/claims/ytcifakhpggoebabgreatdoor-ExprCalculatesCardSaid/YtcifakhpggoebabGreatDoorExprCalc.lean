/- The law ExprCalculates: its walk. Condition: the listed tables. -/
import Derived.Test.YtcifakhpggoebabGreatDoorDecQuo
import Derived.Test.YtcifakhpggoebabGreatDoorDecG
import Derived.Test.YtcifakhpggoebabGreatDoorExprRA
import Derived.Test.YtcifakhpggoebabGreatDoorExprRB
import Derived.Test.YtcifakhpggoebabGreatDoorExprRC
import Derived.Test.YtcifakhpggoebabGreatDoorExprRD
namespace Go.Proofs.YtcifakhpggoebabGreatDoor
open Go Go.RowKit Go.PlainAid
theorem pows_of {w : World} (h : Laid w) : Pows w := fun i u e => h (0, powV) (by simp [tabs, powV, tab8]) i u e

theorem AddOut.one' {q a sa b sb n t e n' t' e' : Int} (h : AddOut q a sa b sb n t e) (g : AddOut q a sa b sb n' t' e') : n = n' ∧ t = t' ∧ e = e' := by
  rcases h with ⟨hb, h⟩ | ⟨hb, rfl, rfl, rfl⟩ <;> rcases g with ⟨gb, g⟩ | ⟨gb, rfl, rfl, rfl⟩
  · exact h.one g
  · exact absurd hb gb
  · exact absurd gb hb
  · exact ⟨rfl, rfl, rfl⟩
theorem NumOut.ex (z s : Int) : ∃ n t e, NumOut z s n t e := by
  by_cases h : Small z
  · exact ⟨z, s, 0, .inl ⟨h, rfl, rfl, rfl⟩⟩
  · exact ⟨0, 0, 14, .inr ⟨h, rfl, rfl, rfl⟩⟩
theorem AddOut.ex (a sa b sb : Int) : ∃ n t e, AddOut 1 a sa b sb n t e := by
  by_cases h : Both a sa b sb
  · obtain ⟨n, t, e, k⟩ := NumOut.ex (sca a sa (max sa sb) + 1 * sca b sb (max sa sb)) (max sa sb)
    exact ⟨n, t, e, .inl ⟨h, k⟩⟩
  · exact ⟨0, 0, 2, .inr ⟨h, rfl, rfl, rfl⟩⟩
theorem DivOut.ex (a sa b sb c : Int) : ∃ n t e, DivOut a sa b sb c n t e := by
  by_cases h : Both a sa b sb ∧ 0 ≤ c ∧ c ≤ 12
  · by_cases hz : b = 0
    · exact ⟨0, 0, 15, .inr (.inl ⟨h.1, h.2.1, h.2.2, hz, rfl, rfl, rfl⟩)⟩
    · obtain ⟨n, t, e, k⟩ := NumOut.ex (sg a b * (quoN a.natAbs b.natAbs (sb + c - sa) : Int)) c
      exact ⟨n, t, e, .inl ⟨h.1, h.2.1, h.2.2, hz, k⟩⟩
  · exact ⟨0, 0, 2, .inr (.inr ⟨h, rfl, rfl, rfl⟩)⟩
section
variable {v : Nat → Int}
theorem ok_known : OK v cKnown := ok_of (us := []) (rv := .bool true) rfl rfl fun w hL => known_ok w hL
abbrev usAB (v : Nat → Int) : List Value := [.agg #[.int .i64 (v 0), .int .i64 (v 1)], .agg #[.int .i64 (v 2), .int .i64 (v 3)]]
abbrev usABC (v : Nat → Int) : List Value := [.agg #[.int .i64 (v 0), .int .i64 (v 1)], .agg #[.int .i64 (v 2), .int .i64 (v 3)], .int .i64 (v 4)]
theorem add_calls (h : AddOut 1 (v 0) (v 1) (v 2) (v 3) (v 5) (v 6) (v 7)) (w : World) (hL : Laid w) :
    Calls Tryz.prog 9 (usAB v).toArray w fun e w' => e = .returned (.tuple #[.agg #[.int .i64 (v 5), .int .i64 (v 6)], .int .i64 (v 7)]) ∧ Below w.heap.size w w' := by
  refine (add_any _ _ _ _ w (pows_of hL)).mono ?_
  rintro e w' ⟨n, t, x, rfl, g, hb⟩
  obtain ⟨rfl, rfl, rfl⟩ := g.one' h
  exact ⟨rfl, hb⟩
theorem div_calls (h : DivOut (v 0) (v 1) (v 2) (v 3) (v 4) (v 8) (v 9) (v 10)) (w : World) (hL : Laid w) :
    Calls Tryz.prog 11 (usABC v).toArray w fun e w' => e = .returned (.tuple #[.agg #[.int .i64 (v 8), .int .i64 (v 9)], .int .i64 (v 10)]) ∧ Below w.heap.size w w' := by
  refine (div_any _ _ _ _ _ w (pows_of hL)).mono ?_
  rintro e w' ⟨n, t, x, rfl, g, hb⟩
  obtain ⟨rfl, rfl, rfl⟩ := g.one h
  exact ⟨rfl, hb⟩
theorem ok_add0 (h : AddOut 1 (v 0) (v 1) (v 2) (v 3) (v 5) (v 6) (v 7)) (h7 : v 7 = 0) : OK v cAdd0 := ok_of (us := usAB v) (rv := .tuple #[.agg #[.int .i64 (v 5), .int .i64 (v 6)], .int .i64 0]) rfl rfl fun w hL => h7 ▸ add_calls h w hL
theorem ok_add1 (h : AddOut 1 (v 0) (v 1) (v 2) (v 3) (v 5) (v 6) (v 7)) : OK v cAdd1 := ok_of (us := usAB v) (rv := .tuple #[.agg #[.int .i64 (v 5), .int .i64 (v 6)], .int .i64 (v 7)]) rfl rfl fun w hL => add_calls h w hL
theorem ok_cmp (hb : Both (v 0) (v 1) (v 2) (v 3)) (h : v 11 = cmpI (v 0) (v 1) (v 2) (v 3)) : OK v cCmp := ok_of (us := usAB v) (rv := .tuple #[.int .i64 (v 11), .int .i64 0]) rfl rfl fun w hL => by
  refine (cmp_any _ _ _ _ w (pows_of hL)).mono ?_
  rintro e w' ⟨k, x, rfl, g, hb'⟩
  rcases g with ⟨_, rfl, rfl⟩ | ⟨g, _⟩
  · rw [h]; exact ⟨rfl, hb'⟩
  · exact absurd hb g
theorem ok_div1 (h : DivOut (v 0) (v 1) (v 2) (v 3) (v 4) (v 8) (v 9) (v 10)) : OK v cDiv1 := ok_of (us := usABC v) (rv := .tuple #[.agg #[.int .i64 (v 8), .int .i64 (v 9)], .int .i64 (v 10)]) rfl rfl fun w hL => div_calls h w hL
theorem ok_div0 (h : DivOut (v 0) (v 1) (v 2) (v 3) (v 4) (v 8) (v 9) (v 10)) (h0 : v 10 = 0) : OK v cDiv0 := ok_of (us := usABC v) (rv := .tuple #[.agg #[.int .i64 (v 8), .int .i64 (v 9)], .int .i64 0]) rfl rfl fun w hL => h0 ▸ div_calls h w hL
theorem ok_div2 (h : DivOut (v 0) (v 1) (v 2) (v 3) (v 4) (v 8) (v 9) (v 10)) (h0 : v 10 = 2) : OK v cDiv2 := ok_of (us := usABC v) (rv := .tuple #[.agg #[.int .i64 (v 8), .int .i64 (v 9)], .int .i64 2]) rfl rfl fun w hL => h0 ▸ div_calls h w hL
end
theorem div_out_bad {a sa b sb c n t e : Int} (h : DivOut a sa b sb c n t e) (hc : c < 0 ∨ 12 < c) : e = 2 := by
  rcases h with ⟨_, h1, h2, _⟩ | ⟨_, h1, h2, _⟩ | ⟨_, _, _, h⟩
  · omega
  · omega
  · exact h
theorem holdsA {v : Nat → Int} (h : okN (v 0) (v 1)) : Holds v okA := .cons h.1 (.cons h.2.1 (.cons h.2.2.1 (.cons h.2.2.2 .nil)))
theorem badA {v : Nat → Int} (h : ¬ okN (v 0) (v 1)) : Holds v (noA 0) ∨ Holds v (noA 1) ∨ Holds v (noA 2) ∨ Holds v (noA 3) := by
  have hc : v 0 ≤ -1000000000000000 ∨ 1000000000000000 ≤ v 0 ∨ ((-999999999999999 ≤ v 0 ∧ v 0 ≤ 999999999999999) ∧ v 1 ≤ -1) ∨ ((-999999999999999 ≤ v 0 ∧ v 0 ≤ 999999999999999) ∧ 13 ≤ v 1) := by
    unfold okN at h
    omega
  rcases hc with hc | hc | ⟨⟨h1, h2⟩, hc⟩ | ⟨⟨h1, h2⟩, hc⟩
  · exact .inl (.cons hc .nil)
  · exact .inr (.inl (.cons hc .nil))
  · exact .inr (.inr (.inl (.cons h1 (.cons h2 (.cons hc .nil)))))
  · exact .inr (.inr (.inr (.cons h1 (.cons h2 (.cons hc .nil)))))
theorem holdsB {v : Nat → Int} (h : okN (v 2) (v 3)) : Holds v okB := .cons h.1 (.cons h.2.1 (.cons h.2.2.1 (.cons h.2.2.2 .nil)))
theorem badB {v : Nat → Int} (h : ¬ okN (v 2) (v 3)) : Holds v (noB 0) ∨ Holds v (noB 1) ∨ Holds v (noB 2) ∨ Holds v (noB 3) := by
  have hc : v 2 ≤ -1000000000000000 ∨ 1000000000000000 ≤ v 2 ∨ ((-999999999999999 ≤ v 2 ∧ v 2 ≤ 999999999999999) ∧ v 3 ≤ -1) ∨ ((-999999999999999 ≤ v 2 ∧ v 2 ≤ 999999999999999) ∧ 13 ≤ v 3) := by
    unfold okN at h
    omega
  rcases hc with hc | hc | ⟨⟨h1, h2⟩, hc⟩ | ⟨⟨h1, h2⟩, hc⟩
  · exact .inl (.cons hc .nil)
  · exact .inr (.inl (.cons hc .nil))
  · exact .inr (.inr (.inl (.cons h1 (.cons h2 (.cons hc .nil)))))
  · exact .inr (.inr (.inr (.cons h1 (.cons h2 (.cons hc .nil)))))
theorem exprCalculates_walk (a sa b sb c : Int) (w : World) (hL : Laid w) {P : Prop} (_wc : P) :
    Calls Tryz.prog 3 #[.agg #[.int .i64 a, .int .i64 sa], .agg #[.int .i64 b, .int .i64 sb], .int .i64 c] w fun e w' => e = .returned (.bool true) ∧ Below w.heap.size w w' := by
  obtain ⟨n, t, e, hadd⟩ := AddOut.ex a sa b sb
  obtain ⟨q, u, y, hdiv⟩ := DivOut.ex a sa b sb c
  obtain ⟨v, h0, h1, h2, h3, h4, h5, h6, h7, h8, h9, h10, h11⟩ : ∃ v : Nat → Int, v 0 = a ∧ v 1 = sa ∧ v 2 = b ∧ v 3 = sb ∧ v 4 = c ∧ v 5 = n ∧ v 6 = t ∧ v 7 = e ∧ v 8 = q ∧ v 9 = u ∧ v 10 = y ∧ v 11 = cmpI a sa b sb :=
    ⟨fun i => match i with | 0 => a | 1 => sa | 2 => b | 3 => sb | 4 => c | 5 => n | 6 => t | 7 => e | 8 => q | 9 => u | 10 => y | _ => cmpI a sa b sb, rfl, rfl, rfl, rfl, rfl, rfl, rfl, rfl, rfl, rfl, rfl, rfl⟩
  subst h0 h1 h2 h3 h4 h5 h6 h7 h8 h9 h10
  have hc : Holds v fLow ∨ Holds v fHigh ∨ Holds v fZero ∨ Holds v fIn := by
    have hc : v 4 ≤ -1 ∨ 13 ≤ v 4 ∨ v 4 = 0 ∨ (1 ≤ v 4 ∧ v 4 ≤ 12) := by omega
    rcases hc with hc | hc | hc | ⟨hc, hc'⟩
    · exact .inl (.cons hc .nil)
    · exact .inr (.inl (.cons hc .nil))
    · exact .inr (.inr (.inl (.cons (decide_eq_true hc) (.cons (by show (0 : Int) ≤ v 4; omega) (.cons (by show v 4 ≤ (0 : Int); omega) .nil)))))
    · exact .inr (.inr (.inr (.cons hc (.cons hc' .nil))))
  by_cases ha : okN (v 0) (v 1)
  · by_cases hb : okN (v 2) (v 3)
    · have gk : ∀ {cs}, Goods v cs → Goods v (cKnown :: cs) := fun g => .cons ok_known g
      have gA := holdsA ha
      have gB := holdsB hb
      have gc := ok_cmp ⟨ha, hb⟩ h11
      by_cases hl : v 11 < 0
      · have hlt : @Ev.Fact.holds (envE v) (.lt (.v 11) (.lit 0) true) := decide_eq_true hl
        by_cases he : v 7 = 0
        · skip
          rcases hc with hc | hc | hc | hc
          · exact walk_of (run_c0trueLow (gA.app (gB.app (.cons hlt hc))) (gk (.cons (ok_add0 hadd he) (.cons gc (.cons (ok_div2 hdiv (div_out_bad hdiv (.inl (by have := hc.ok _ (List.mem_cons_self ..); exact Int.lt_of_le_of_lt this (by decide))))) .nil))))) hL
          · exact walk_of (run_c0trueHigh (gA.app (gB.app (.cons hlt hc))) (gk (.cons (ok_add0 hadd he) (.cons gc (.cons (ok_div2 hdiv (div_out_bad hdiv (.inr (by have := hc.ok _ (List.mem_cons_self ..); exact Int.lt_of_lt_of_le (by decide) this)))) .nil))))) hL
          · by_cases hy0 : v 10 = 0
            · exact walk_of (run_c0trueZero0 (gA.app (gB.app (.cons hlt hc))) (gk (.cons (ok_add0 hadd he) (.cons gc (.cons (ok_div0 hdiv hy0) .nil))))) hL
            · have hy : @Ev.Fact.holds (envE v) (.eq (.v 10) (.lit 0) false) := decide_eq_false hy0
              exact walk_of (run_c0trueZero1 (gA.app (gB.app (.cons hlt (.cons hy hc)))) (gk (.cons (ok_add0 hadd he) (.cons gc (.cons (ok_div1 hdiv) .nil))))) hL
          · by_cases hy0 : v 10 = 0
            · exact walk_of (run_c0trueIn0 (gA.app (gB.app (.cons hlt hc))) (gk (.cons (ok_add0 hadd he) (.cons gc (.cons (ok_div0 hdiv hy0) .nil))))) hL
            · have hy : @Ev.Fact.holds (envE v) (.eq (.v 10) (.lit 0) false) := decide_eq_false hy0
              exact walk_of (run_c0trueIn1 (gA.app (gB.app (.cons hlt (.cons hy hc)))) (gk (.cons (ok_add0 hadd he) (.cons gc (.cons (ok_div1 hdiv) .nil))))) hL
        · have he : @Ev.Fact.holds (envE v) (.eq (.v 7) (.lit 0) false) := decide_eq_false he
          rcases hc with hc | hc | hc | hc
          · exact walk_of (run_c1trueLow (gA.app (gB.app (.cons hlt (.cons he hc)))) (gk (.cons (ok_add1 hadd) (.cons gc (.cons (ok_div2 hdiv (div_out_bad hdiv (.inl (by have := hc.ok _ (List.mem_cons_self ..); exact Int.lt_of_le_of_lt this (by decide))))) .nil))))) hL
          · exact walk_of (run_c1trueHigh (gA.app (gB.app (.cons hlt (.cons he hc)))) (gk (.cons (ok_add1 hadd) (.cons gc (.cons (ok_div2 hdiv (div_out_bad hdiv (.inr (by have := hc.ok _ (List.mem_cons_self ..); exact Int.lt_of_lt_of_le (by decide) this)))) .nil))))) hL
          · by_cases hy0 : v 10 = 0
            · exact walk_of (run_c1trueZero0 (gA.app (gB.app (.cons hlt (.cons he hc)))) (gk (.cons (ok_add1 hadd) (.cons gc (.cons (ok_div0 hdiv hy0) .nil))))) hL
            · have hy : @Ev.Fact.holds (envE v) (.eq (.v 10) (.lit 0) false) := decide_eq_false hy0
              exact walk_of (run_c1trueZero1 (gA.app (gB.app (.cons hlt (.cons he (.cons hy hc))))) (gk (.cons (ok_add1 hadd) (.cons gc (.cons (ok_div1 hdiv) .nil))))) hL
          · by_cases hy0 : v 10 = 0
            · exact walk_of (run_c1trueIn0 (gA.app (gB.app (.cons hlt (.cons he hc)))) (gk (.cons (ok_add1 hadd) (.cons gc (.cons (ok_div0 hdiv hy0) .nil))))) hL
            · have hy : @Ev.Fact.holds (envE v) (.eq (.v 10) (.lit 0) false) := decide_eq_false hy0
              exact walk_of (run_c1trueIn1 (gA.app (gB.app (.cons hlt (.cons he (.cons hy hc))))) (gk (.cons (ok_add1 hadd) (.cons gc (.cons (ok_div1 hdiv) .nil))))) hL
      · have hlt : @Ev.Fact.holds (envE v) (.lt (.v 11) (.lit 0) false) := decide_eq_false hl
        by_cases he : v 7 = 0
        · skip
          rcases hc with hc | hc | hc | hc
          · exact walk_of (run_c0falseLow (gA.app (gB.app (.cons hlt hc))) (gk (.cons (ok_add0 hadd he) (.cons gc (.cons (ok_div2 hdiv (div_out_bad hdiv (.inl (by have := hc.ok _ (List.mem_cons_self ..); exact Int.lt_of_le_of_lt this (by decide))))) .nil))))) hL
          · exact walk_of (run_c0falseHigh (gA.app (gB.app (.cons hlt hc))) (gk (.cons (ok_add0 hadd he) (.cons gc (.cons (ok_div2 hdiv (div_out_bad hdiv (.inr (by have := hc.ok _ (List.mem_cons_self ..); exact Int.lt_of_lt_of_le (by decide) this)))) .nil))))) hL
          · by_cases hy0 : v 10 = 0
            · exact walk_of (run_c0falseZero0 (gA.app (gB.app (.cons hlt hc))) (gk (.cons (ok_add0 hadd he) (.cons gc (.cons (ok_div0 hdiv hy0) .nil))))) hL
            · have hy : @Ev.Fact.holds (envE v) (.eq (.v 10) (.lit 0) false) := decide_eq_false hy0
              exact walk_of (run_c0falseZero1 (gA.app (gB.app (.cons hlt (.cons hy hc)))) (gk (.cons (ok_add0 hadd he) (.cons gc (.cons (ok_div1 hdiv) .nil))))) hL
          · by_cases hy0 : v 10 = 0
            · exact walk_of (run_c0falseIn0 (gA.app (gB.app (.cons hlt hc))) (gk (.cons (ok_add0 hadd he) (.cons gc (.cons (ok_div0 hdiv hy0) .nil))))) hL
            · have hy : @Ev.Fact.holds (envE v) (.eq (.v 10) (.lit 0) false) := decide_eq_false hy0
              exact walk_of (run_c0falseIn1 (gA.app (gB.app (.cons hlt (.cons hy hc)))) (gk (.cons (ok_add0 hadd he) (.cons gc (.cons (ok_div1 hdiv) .nil))))) hL
        · have he : @Ev.Fact.holds (envE v) (.eq (.v 7) (.lit 0) false) := decide_eq_false he
          rcases hc with hc | hc | hc | hc
          · exact walk_of (run_c1falseLow (gA.app (gB.app (.cons hlt (.cons he hc)))) (gk (.cons (ok_add1 hadd) (.cons gc (.cons (ok_div2 hdiv (div_out_bad hdiv (.inl (by have := hc.ok _ (List.mem_cons_self ..); exact Int.lt_of_le_of_lt this (by decide))))) .nil))))) hL
          · exact walk_of (run_c1falseHigh (gA.app (gB.app (.cons hlt (.cons he hc)))) (gk (.cons (ok_add1 hadd) (.cons gc (.cons (ok_div2 hdiv (div_out_bad hdiv (.inr (by have := hc.ok _ (List.mem_cons_self ..); exact Int.lt_of_lt_of_le (by decide) this)))) .nil))))) hL
          · by_cases hy0 : v 10 = 0
            · exact walk_of (run_c1falseZero0 (gA.app (gB.app (.cons hlt (.cons he hc)))) (gk (.cons (ok_add1 hadd) (.cons gc (.cons (ok_div0 hdiv hy0) .nil))))) hL
            · have hy : @Ev.Fact.holds (envE v) (.eq (.v 10) (.lit 0) false) := decide_eq_false hy0
              exact walk_of (run_c1falseZero1 (gA.app (gB.app (.cons hlt (.cons he (.cons hy hc))))) (gk (.cons (ok_add1 hadd) (.cons gc (.cons (ok_div1 hdiv) .nil))))) hL
          · by_cases hy0 : v 10 = 0
            · exact walk_of (run_c1falseIn0 (gA.app (gB.app (.cons hlt (.cons he hc)))) (gk (.cons (ok_add1 hadd) (.cons gc (.cons (ok_div0 hdiv hy0) .nil))))) hL
            · have hy : @Ev.Fact.holds (envE v) (.eq (.v 10) (.lit 0) false) := decide_eq_false hy0
              exact walk_of (run_c1falseIn1 (gA.app (gB.app (.cons hlt (.cons he (.cons hy hc))))) (gk (.cons (ok_add1 hadd) (.cons gc (.cons (ok_div1 hdiv) .nil))))) hL
    · have gk : Goods v [cKnown] := .cons ok_known .nil
      have gA := holdsA ha
      rcases badB hb with g | g | g | g
      · rcases hc with hc | hc | hc | hc
        · exact walk_of (run_b0Low (gA.app (g.app hc)) gk) hL
        · exact walk_of (run_b0High (gA.app (g.app hc)) gk) hL
        · exact walk_of (run_b0Zero (gA.app (g.app hc)) gk) hL
        · exact walk_of (run_b0In (gA.app (g.app hc)) gk) hL
      · rcases hc with hc | hc | hc | hc
        · exact walk_of (run_b1Low (gA.app (g.app hc)) gk) hL
        · exact walk_of (run_b1High (gA.app (g.app hc)) gk) hL
        · exact walk_of (run_b1Zero (gA.app (g.app hc)) gk) hL
        · exact walk_of (run_b1In (gA.app (g.app hc)) gk) hL
      · rcases hc with hc | hc | hc | hc
        · exact walk_of (run_b2Low (gA.app (g.app hc)) gk) hL
        · exact walk_of (run_b2High (gA.app (g.app hc)) gk) hL
        · exact walk_of (run_b2Zero (gA.app (g.app hc)) gk) hL
        · exact walk_of (run_b2In (gA.app (g.app hc)) gk) hL
      · rcases hc with hc | hc | hc | hc
        · exact walk_of (run_b3Low (gA.app (g.app hc)) gk) hL
        · exact walk_of (run_b3High (gA.app (g.app hc)) gk) hL
        · exact walk_of (run_b3Zero (gA.app (g.app hc)) gk) hL
        · exact walk_of (run_b3In (gA.app (g.app hc)) gk) hL
  · have gk : Goods v [cKnown] := .cons ok_known .nil
    rcases badA ha with g | g | g | g
    · rcases hc with hc | hc | hc | hc
      · exact walk_of (run_a0Low (g.app hc) gk) hL
      · exact walk_of (run_a0High (g.app hc) gk) hL
      · exact walk_of (run_a0Zero (g.app hc) gk) hL
      · exact walk_of (run_a0In (g.app hc) gk) hL
    · rcases hc with hc | hc | hc | hc
      · exact walk_of (run_a1Low (g.app hc) gk) hL
      · exact walk_of (run_a1High (g.app hc) gk) hL
      · exact walk_of (run_a1Zero (g.app hc) gk) hL
      · exact walk_of (run_a1In (g.app hc) gk) hL
    · rcases hc with hc | hc | hc | hc
      · exact walk_of (run_a2Low (g.app hc) gk) hL
      · exact walk_of (run_a2High (g.app hc) gk) hL
      · exact walk_of (run_a2Zero (g.app hc) gk) hL
      · exact walk_of (run_a2In (g.app hc) gk) hL
    · rcases hc with hc | hc | hc | hc
      · exact walk_of (run_a3Low (g.app hc) gk) hL
      · exact walk_of (run_a3High (g.app hc) gk) hL
      · exact walk_of (run_a3Zero (g.app hc) gk) hL
      · exact walk_of (run_a3In (g.app hc) gk) hL
end Go.Proofs.YtcifakhpggoebabGreatDoor
