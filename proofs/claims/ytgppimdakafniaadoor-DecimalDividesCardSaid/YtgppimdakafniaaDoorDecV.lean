/- DecimalCompares, walked. Condition: the tables hold what the program's text lays. -/
import Derived.Test.YtgppimdakafniaaDoorDecN
import Derived.Test.YtgppimdakafniaaDoorDecU
namespace Go.Proofs.YtgppimdakafniaaDoor
open Go Go.RowKit Go.PlainAid

theorem cmp_sub {a sa b sb d ds : Int} (h : AddOut (-1) a sa b sb d ds 0) : okN d ds ∧ cmpI d ds 0 0 = cmpI a sa b sb := by
  obtain ⟨⟨ha, hb⟩, hs, hd, ht⟩ := h.ok rfl
  have h0 := ha.2.2.1
  refine ⟨⟨hs.1, hs.2, by omega, by have := ha.2.2.2; have := hb.2.2.2; omega⟩, ?_⟩
  unfold cmpI
  rw [show max ds 0 = ds by omega, sca_self, show sca 0 0 ds = 0 by unfold sca; exact Int.zero_mul _, Int.sub_zero, hd, Int.neg_mul, Int.one_mul]
  rfl
theorem lift_two {w X : World} {a b c d : Value} {T U : TypeId} (hb : Below ((w.alloc (.cells #[a, b] T)).alloc (.cells #[c, d] U)).heap.size ((w.alloc (.cells #[a, b] T)).alloc (.cells #[c, d] U)) X) :
    X.cell? ⟨w.heap.size, 0, none⟩ = some a ∧ X.cell? ⟨w.heap.size, 1, none⟩ = some b ∧ X.cell? ⟨w.heap.size + 1, 0, none⟩ = some c ∧ X.cell? ⟨w.heap.size + 1, 1, none⟩ = some d :=
  ⟨(hb.cell (p := ⟨w.heap.size, 0, none⟩) (lt2a _ _ _)).trans (two0 _ _ _ _ _), (hb.cell (p := ⟨w.heap.size, 1, none⟩) (lt2a _ _ _)).trans (two1 _ _ _ _ _), (hb.cell (p := ⟨w.heap.size + 1, 0, none⟩) (lt2b _ _ _)).trans (top0 _ _ _ _ _), (hb.cell (p := ⟨w.heap.size + 1, 1, none⟩) (lt2b _ _ _)).trans (top1 _ _ _ _ _)⟩

set_option maxRecDepth 100000 in
set_option maxHeartbeats 8000000 in
theorem decimalCompares_walk (a sa b sb : Int) (w : World) (hL : Laid w) :
    Calls Tryd.prog 4 #[(.agg #[.int .i64 (a), .int .i64 (sa)]), (.agg #[.int .i64 (b), .int .i64 (sb)])] w fun e w' => e = .returned (.bool true) ∧ Below w.heap.size w w' := by
  have PH := hide hL.pows
  clear hL
  go_enter Tryd.func4, Tryd.ntmps4
  go_wp2_with fail
  refine (cmp_any a sa b sb _ ?_).mono ?_
  · exact PH.out.below (by repeat (first | (refine below_set ?_ ?hsz _; case hsz => (first | omega | (simp; done) | (simp; omega) | (have hs0 := hb.size; simp at hs0 ⊢; omega) | (have hs1 := hb1.size; simp at hs1 ⊢; omega) | (have hs1 := hb1.size; have hs2 := hb2.size; simp at hs1 hs2 ⊢; omega))) | exact Below.refl _ _ | refine below_alloc ?_ _ | refine below_drew ?_ | refine below_drewn ?_ _ | refine below_step ?_ hb | refine below_step ?_ hb0 | refine below_step ?_ hb1 | refine below_step ?_ hb2 | refine below_step ?_ hb3 | refine below_step ?_ hb4 | refine below_step ?_ hb5 | refine below_step ?_ hb6 | refine below_step ?_ hb7))
  rintro e w1 ⟨k, e1, rfl, hO1, hb1⟩
  obtain ⟨k1, k2, k3, k4⟩ := lift_two hb1
  have hB : Below w.heap.size w w1 := by repeat (first | (refine below_set ?_ ?hsz _; case hsz => (first | omega | (simp; done) | (simp; omega) | (have hs0 := hb.size; simp at hs0 ⊢; omega) | (have hs1 := hb1.size; simp at hs1 ⊢; omega) | (have hs1 := hb1.size; have hs2 := hb2.size; simp at hs1 hs2 ⊢; omega))) | exact Below.refl _ _ | refine below_alloc ?_ _ | refine below_drew ?_ | refine below_drewn ?_ _ | refine below_step ?_ hb | refine below_step ?_ hb0 | refine below_step ?_ hb1 | refine below_step ?_ hb2 | refine below_step ?_ hb3 | refine below_step ?_ hb4 | refine below_step ?_ hb5 | refine below_step ?_ hb6 | refine below_step ?_ hb7)
  have O1 := hide hO1
  clear hb1 hO1
  go_wp2_with fail
  refine (sub_any a sa b sb _ (PH.out.below hB)).mono ?_
  rintro e w2 ⟨d, ds, e2, rfl, hO2, hb2⟩
  have O2 := hide hO2
  clear hO2
  replace k1 := lift0 hb2 k1
  replace k2 := lift0 hb2 k2
  replace k3 := lift0 hb2 k3
  replace k4 := lift0 hb2 k4
  replace hB := below_step hB hb2
  clear hb2
  go_wp2_with fail
  refine (known_any _ (PH.out.below (below_alloc hB _))).mono ?_
  rintro e w3 ⟨rfl, hb3⟩
  have p1 := new0 hb3
  have p2 := new1 hb3
  replace k1 := lift1 hb3 k1
  replace k2 := lift1 hb3 k2
  replace k3 := lift1 hb3 k3
  replace k4 := lift1 hb3 k4
  replace hB := below_new hB hb3
  clear hb3
  by_cases hv : Both a sa b sb
  · obtain ⟨q1, q2⟩ : k = cmpI a sa b sb ∧ e1 = 0 := by
      rcases O1.out with ⟨_, h1, h2⟩ | ⟨h, _⟩
      · exact ⟨h1, h2⟩
      · exact absurd hv h
    have q3 : e2 = 0 ∨ e2 = 14 := by
      rcases O2.out with ⟨_, ⟨_, _, _, h⟩ | ⟨_, _, _, h⟩⟩ | ⟨h, _⟩
      · exact .inl h
      · exact .inr h
      · exact absurd hv h
    rw [q1, q2]
    have V := hide hv
    clear q1 q2 O1 hv k e1
    go_wp2_with fail
    refine (is_yes _ _ _ V.out.1).mono ?_
    rintro e w4 ⟨rfl, hb4⟩
    replace k1 := lift0 hb4 k1
    replace k2 := lift0 hb4 k2
    replace k3 := lift0 hb4 k3
    replace k4 := lift0 hb4 k4
    replace p1 := lift0 hb4 p1
    replace p2 := lift0 hb4 p2
    replace hB := below_step hB hb4
    clear hb4
    go_wp2_with fail
    refine (is_yes _ _ _ V.out.2).mono ?_
    rintro e w5 ⟨rfl, hb5⟩
    replace k1 := lift0 hb5 k1
    replace k2 := lift0 hb5 k2
    replace k3 := lift0 hb5 k3
    replace k4 := lift0 hb5 k4
    replace p1 := lift0 hb5 p1
    replace p2 := lift0 hb5 p2
    replace hB := below_step hB hb5
    clear hb5
    go_wp2_with fail
    refine (refCmp_any _ _ _ _ _ V.out).mono ?_
    rintro e w6 ⟨rfl, hb6⟩
    replace p1 := lift0 hb6 p1
    replace p2 := lift0 hb6 p2
    replace hB := below_step hB hb6
    clear hb6 k1 k2 k3 k4
    rcases q3 with rfl | rfl
    · have HC : Hid (∀ W, Calls Tryd.prog 20 #[(.agg #[.int .i64 (d), .int .i64 (ds)]), (.agg #[.int .i64 (0), .int .i64 (0)])] W fun e w' => e = .returned (.int .i64 (cmpI a sa b sb)) ∧ Below W.heap.size W w') := hide fun W => by
        obtain ⟨h1, h2⟩ := cmp_sub O2.out
        have := refCmp_any d ds 0 0 W ⟨h1, by unfold okN; decide⟩
        rwa [h2] at this
      clear O2 V
      generalize cmpI a sa b sb = k at *
      go_wp2_with fail
      refine (HC.out _).mono ?_
      rintro e w7 ⟨rfl, hb7⟩
      go_wp2_with fail
      go_ret
      exact ⟨rfl, below_step hB hb7⟩
    · clear O2 V
      generalize cmpI a sa b sb = k at *
      go_wp2_with fail
      go_ret
      exact ⟨rfl, hB⟩
  · obtain ⟨rfl, rfl⟩ : k = 0 ∧ e1 = 2 := by
      rcases O1.out with ⟨h, _⟩ | ⟨_, h1, h2⟩
      · exact absurd h hv
      · exact ⟨h1, h2⟩
    obtain rfl : e2 = 2 := by
      rcases O2.out with ⟨h, _⟩ | ⟨_, _, _, h⟩
      · exact absurd h hv
      · exact h
    clear O1 O2
    by_cases ha : okN a sa
    · have hb : ¬ okN b sb := fun h => hv ⟨ha, h⟩
      have HA := hide ha
      have HB := hide hb
      clear hv ha hb
      go_wp2_with fail
      refine (is_yes _ _ _ HA.out).mono ?_
      rintro e w4 ⟨rfl, hb4⟩
      replace k3 := lift0 hb4 k3
      replace k4 := lift0 hb4 k4
      replace hB := below_step hB hb4
      clear hb4
      go_wp2_with fail
      refine (is_no _ _ _ HB.out).mono ?_
      rintro e w5 ⟨rfl, hb5⟩
      go_wp2_with fail
      go_ret
      exact ⟨rfl, below_step hB hb5⟩
    · have HA := hide ha
      clear hv ha
      go_wp2_with fail
      refine (is_no _ _ _ HA.out).mono ?_
      rintro e w4 ⟨rfl, hb4⟩
      go_wp2_with fail
      go_ret
      exact ⟨rfl, below_step hB hb4⟩
end Go.Proofs.YtgppimdakafniaaDoor
