/- What Compare returns. Condition: the table of the powers of ten holds what the program's text lays. -/
import Derived.Test.YtcifakhpggoebabGreatDoorDecD
namespace Go.Proofs.YtcifakhpggoebabGreatDoor
open Go Go.RowKit Go.PlainAid

/-- what Compare comes to -/
def CmpPost (a sa b sb : Int) (w : World) (e : Ending) (w' : World) : Prop := ∃ k x : Int, e = .returned (.tuple #[.int .i64 k, .int .i64 x]) ∧ CmpOut a sa b sb k x ∧ Below w.heap.size w w'
/-- four cells of a world, kept -/
theorem keep4 {W X : World} {a0 a1 b0 b1 : Addr} {v0 v1 u0 u1 : Value} (h : Below W.heap.size W X) (l0 : a0.block < W.heap.size) (c0 : W.cell? a0 = some v0) (l1 : a1.block < W.heap.size) (c1 : W.cell? a1 = some v1) (m0 : b0.block < W.heap.size) (d0 : W.cell? b0 = some u0) (m1 : b1.block < W.heap.size) (d1 : W.cell? b1 = some u1) :
    X.cell? a0 = some v0 ∧ X.cell? a1 = some v1 ∧ X.cell? b0 = some u0 ∧ X.cell? b1 = some u1 ∧ Below W.heap.size W X :=
  ⟨(h.cell l0).trans c0, (h.cell l1).trans c1, (h.cell m0).trans d0, (h.cell m1).trans d1, h⟩

set_option maxHeartbeats 8000000 in
theorem cmp_ok (a sa b sb : Int) (w : World) (hP : Pows w) (h : Both a sa b sb) :
    Calls Tryz.prog 10 #[(.agg #[.int .i64 (a), .int .i64 (sa)]), (.agg #[.int .i64 (b), .int .i64 (sb)])] w (CmpPost a sa b sb w) := by
  have hlt := hP.lt
  have m1 : sa ≤ max sa sb := by omega
  have m2 : sb ≤ max sa sb := by omega
  have m3 : max sa sb ≤ 12 := by have := h.1.2.2.2; have := h.2.2.2.2; omega
  obtain ⟨z, hz⟩ : ∃ z, z = sca a sa (max sa sb) + -sca b sb (max sa sb) := ⟨_, rfl⟩
  have hfit : Fits z := by
    have k1 := Fits.scaled ⟨h.1.1, h.1.2.1⟩ m1 (by have := h.1.2.2.1; omega)
    have k2 := Fits.scaled ⟨h.2.1, h.2.2.1⟩ m2 (by have := h.2.2.2.1; omega)
    unfold Fits; omega
  have HZ := hide hz
  have hfit' : Fits (sca a sa (max sa sb) + -sca b sb (max sa sb)) := hz ▸ hfit
  clear hz
  have PH := hide hP
  have H := hide h
  have HA := hide h.1
  have HB := hide h.2
  clear hP h
  go_enter Tryz.func10, Tryz.ntmps10
  go_wp2_with fail
  refine (both_ok _ _ _ _ _ H.out).mono ?_
  rintro e w1 ⟨rfl, hb1⟩
  obtain ⟨hc1, hf1⟩ := bcell hb1
  have y0 : w.heap.size < w1.heap.size := by have := hb1.size; simp at this; omega
  have y1 : w.heap.size + 1 < w1.heap.size := by have := hb1.size; simp at this; omega
  have a0w : w1.cell? ⟨w.heap.size, 0, none⟩ = some (.int .i64 a) := by rw [hc1 _ _ (by simp; omega)]; simp [go_sem]
  have a1w : w1.cell? ⟨w.heap.size, 1, none⟩ = some (.int .i64 sa) := by rw [hc1 _ _ (by simp; omega)]; simp [go_sem]
  have b0w : w1.cell? ⟨w.heap.size + 1, 0, none⟩ = some (.int .i64 b) := by rw [hc1 _ _ (by simp)]; simp [go_sem]
  have b1w : w1.cell? ⟨w.heap.size + 1, 1, none⟩ = some (.int .i64 sb) := by rw [hc1 _ _ (by simp)]; simp [go_sem]
  have hW1 : Below w.heap.size w w1 := by repeat (first | (refine below_set ?_ ?hsz _; case hsz => (first | omega | (simp; done) | (simp; omega) | (have hs0 := hb.size; simp at hs0 ⊢; omega) | (have hs1 := hb1.size; simp at hs1 ⊢; omega) | (have hs1 := hb1.size; have hs2 := hb2.size; simp at hs1 hs2 ⊢; omega))) | exact Below.refl _ _ | refine below_alloc ?_ _ | refine below_drew ?_ | refine below_drewn ?_ _ | refine below_step ?_ hb | refine below_step ?_ hb0 | refine below_step ?_ hb1 | refine below_step ?_ hb2 | refine below_step ?_ hb3 | refine below_step ?_ hb4 | refine below_step ?_ hb5 | refine below_step ?_ hb6 | refine below_step ?_ hb7)
  clear hc1 hf1 hb1
  go_upto_region 4 with fail
  go_cut [7] (fun s7 wx => NewPair w1 wx s7 (.int .u64 (hiN (sca a sa (max sa sb) + -sca b sb (max sa sb)) : Int)) (.int .u64 (loN (sca a sa (max sa sb) + -sca b sb (max sa sb)) : Int)))
  case first =>
    go_region_held3 (fun w' => w'.cell? ⟨w.heap.size, 0, none⟩ = some (.int .i64 a) ∧ w'.cell? ⟨w.heap.size, 1, none⟩ = some (.int .i64 sa) ∧ w'.cell? ⟨w.heap.size + 1, 0, none⟩ = some (.int .i64 b) ∧ w'.cell? ⟨w.heap.size + 1, 1, none⟩ = some (.int .i64 sb) ∧ Below w1.heap.size w1 w')
      ((refine keep4 ?_ y0 a0w y0 a1w y1 b0w y1 b1w; repeat (first | (refine below_set ?_ ?hsz _; case hsz => (first | omega | (simp; done) | (simp; omega) | (have hs0 := hb.size; simp at hs0 ⊢; omega) | (have hs1 := hb1.size; simp at hs1 ⊢; omega) | (have hs1 := hb1.size; have hs2 := hb2.size; simp at hs1 hs2 ⊢; omega))) | exact Below.refl _ _ | refine below_alloc ?_ _ | refine below_drew ?_ | refine below_drewn ?_ _ | refine below_step ?_ hb | refine below_step ?_ hb0 | refine below_step ?_ hb1 | refine below_step ?_ hb2 | refine below_step ?_ hb3 | refine below_step ?_ hb4 | refine below_step ?_ hb5 | refine below_step ?_ hb6 | refine below_step ?_ hb7)))
      (first
        | (go_at_call 24; (with_reducible refine (scaled_at a sa (max sa sb) _ ?_ HA.out m1 m3).mono ?_); (exact PH.out.below (hW1.trans (Below.mono (by repeat (first | (refine below_set ?_ ?hsz _; case hsz => (first | omega | (simp; done) | (simp; omega) | (have hs0 := hb.size; simp at hs0 ⊢; omega) | (have hs1 := hb1.size; simp at hs1 ⊢; omega) | (have hs1 := hb1.size; have hs2 := hb2.size; simp at hs1 hs2 ⊢; omega))) | exact Below.refl _ _ | refine below_alloc ?_ _ | refine below_drew ?_ | refine below_drewn ?_ _ | refine below_step ?_ hb | refine below_step ?_ hb0 | refine below_step ?_ hb1 | refine below_step ?_ hb2 | refine below_step ?_ hb3 | refine below_step ?_ hb4 | refine below_step ?_ hb5 | refine below_step ?_ hb6 | refine below_step ?_ hb7)) (Nat.le_of_lt y0)))); rintro e w2 ⟨rfl, hb2⟩; obtain ⟨hc2, hf2⟩ := bcell hb2; have p2 : w1.heap.size ≤ w2.heap.size := (by have := hb2.size; (try simp at this); omega); (try (have q12 : w1.heap.size < w2.heap.size := (by have := hb2.size; (try simp at this); omega))))
        | (go_at_call 24; (with_reducible refine (scaled_at b sb (max sa sb) _ ?_ HB.out m2 m3).mono ?_); (exact PH.out.below (hW1.trans (Below.mono (by repeat (first | (refine below_set ?_ ?hsz _; case hsz => (first | omega | (simp; done) | (simp; omega) | (have hs0 := hb.size; simp at hs0 ⊢; omega) | (have hs1 := hb1.size; simp at hs1 ⊢; omega) | (have hs1 := hb1.size; have hs2 := hb2.size; simp at hs1 hs2 ⊢; omega))) | exact Below.refl _ _ | refine below_alloc ?_ _ | refine below_drew ?_ | refine below_drewn ?_ _ | refine below_step ?_ hb | refine below_step ?_ hb0 | refine below_step ?_ hb1 | refine below_step ?_ hb2 | refine below_step ?_ hb3 | refine below_step ?_ hb4 | refine below_step ?_ hb5 | refine below_step ?_ hb6 | refine below_step ?_ hb7)) (Nat.le_of_lt y0)))); rintro e w3 ⟨rfl, hb3⟩; obtain ⟨hc3, hf3⟩ := bcell hb3; have p3 : w1.heap.size ≤ w3.heap.size := (by have := hb3.size; (try simp at this); omega); (try (have q13 : w1.heap.size < w3.heap.size := (by have := hb3.size; (try simp at this); omega))); (try (have q23 : w2.heap.size < w3.heap.size := (by have := hb3.size; (try simp at this); omega))))
        | (go_at_call 27; (with_reducible refine (opposite_any _ _).mono ?_); rintro e w4 ⟨rfl, hb4⟩; obtain ⟨hc4, hf4⟩ := bcell hb4; have p4 : w1.heap.size ≤ w4.heap.size := (by have := hb4.size; (try simp at this); omega); (try (have q14 : w1.heap.size < w4.heap.size := (by have := hb4.size; (try simp at this); omega))); (try (have q24 : w2.heap.size < w4.heap.size := (by have := hb4.size; (try simp at this); omega))); (try (have q34 : w3.heap.size < w4.heap.size := (by have := hb4.size; (try simp at this); omega))))
        | (go_at_call 25; (with_reducible refine (plus_any _ _ _).mono ?_); rintro e w5 ⟨rfl, hb5⟩; obtain ⟨hc5, hf5⟩ := bcell hb5; have p5 : w1.heap.size ≤ w5.heap.size := (by have := hb5.size; (try simp at this); omega)))
    all_goals (go_wp2_with fail; go_meet)
    all_goals (first
      | (refine NewPair.alloc ?_ _ _ _; repeat (first | (refine below_set ?_ ?hsz _; case hsz => (first | omega | (simp; done) | (simp; omega) | (have hs0 := hb.size; simp at hs0 ⊢; omega) | (have hs1 := hb1.size; simp at hs1 ⊢; omega) | (have hs1 := hb1.size; have hs2 := hb2.size; simp at hs1 hs2 ⊢; omega))) | exact Below.refl _ _ | refine below_alloc ?_ _ | refine below_drew ?_ | refine below_drewn ?_ _ | refine below_step ?_ hb | refine below_step ?_ hb0 | refine below_step ?_ hb1 | refine below_step ?_ hb2 | refine below_step ?_ hb3 | refine below_step ?_ hb4 | refine below_step ?_ hb5 | refine below_step ?_ hb6 | refine below_step ?_ hb7))
      | (refine NewPair.set (u := .int .u64 0) (v := .int .u64 0) ?qa ?qb ?qc ?qd ?qe ?qf _ _
         case qa => repeat (first | (refine below_set ?_ ?hsz _; case hsz => (first | omega | (simp; done) | (simp; omega) | (have hs0 := hb.size; simp at hs0 ⊢; omega) | (have hs1 := hb1.size; simp at hs1 ⊢; omega) | (have hs1 := hb1.size; have hs2 := hb2.size; simp at hs1 hs2 ⊢; omega))) | exact Below.refl _ _ | refine below_alloc ?_ _ | refine below_drew ?_ | refine below_drewn ?_ _ | refine below_step ?_ hb | refine below_step ?_ hb0 | refine below_step ?_ hb1 | refine below_step ?_ hb2 | refine below_step ?_ hb3 | refine below_step ?_ hb4 | refine below_step ?_ hb5 | refine below_step ?_ hb6 | refine below_step ?_ hb7)
         case qb => first | exact Nat.le_refl _ | omega
         case qc => first | (simp [*]; done) | (simp [*, go_sem]; done)
         case qd => first | (simp [*]; done) | (simp [*, go_sem]; done)
         case qe => first | (simp [*]; done) | (simp [*, go_sem]; done)
         case qf => first | (simp [*]; done) | (simp [*, go_sem]; done)))
  case rest =>
    obtain ⟨g, rfl, c0, c1, f0, f1, hg, hg', hb⟩ := hcut
    have hW : Below w.heap.size w wc := hW1.trans (hb.mono (Nat.le_of_lt y0))
    clear hb f0 f1
    rw [← HZ.out] at c0 c1
    rcases Int.lt_trichotomy z 0 with hn | hn | hn
    · go_wp2_with fail
      refine (negative_yes _ _ hfit hn).mono ?_
      rintro e w6 ⟨rfl, hb6⟩
      go_wp2_with fail
      go_ret2
      exact ⟨_, _, rfl, .inl ⟨H.out, by unfold cmpI; rw [Int.sub_eq_add_neg, ← HZ.out]; exact (sgn_of_neg hn).symm, rfl⟩, below_step hW hb6⟩
    · have hh : hiN z = 0 := by rw [hn]; rfl
      have hl : loN z = 0 := by rw [hn]; rfl
      rw [hh] at c0
      rw [hl] at c1
      have hn' : 0 ≤ z := by omega
      have HE : Hid (z = 0) := hn
      have NN := hide (fun W => negative_no z W hfit hn')
      rw [hh, hl] at NN
      clear hh hl hn
      go_wp2_with fail
      refine (NN.out _).mono ?_
      rintro e w6 ⟨rfl, hb6⟩
      obtain ⟨hc6, hf6⟩ := bcell hb6
      have d0 := (hc6 _ _ hg).trans c0
      have d1 := (hc6 _ _ hg).trans c1
      go_wp2_with fail
      go_ret2
      exact ⟨_, _, rfl, .inl ⟨H.out, by unfold cmpI; rw [Int.sub_eq_add_neg, ← HZ.out, HE.out]; rfl, rfl⟩, below_step hW hb6⟩
    · have hne : ¬ (hiN z = 0 ∧ loN z = 0) := fun h => by have := (words_zero (by unfold Fits at hfit; omega) (by unfold Fits at hfit; omega)).1 h; omega
      go_wp2_with fail
      refine (negative_no _ _ hfit (Int.le_of_lt hn)).mono ?_
      rintro e w6 ⟨rfl, hb6⟩
      obtain ⟨hc6, hf6⟩ := bcell hb6
      have d0 := (hc6 _ _ hg).trans c0
      have d1 := (hc6 _ _ hg).trans c1
      have q : (((hiN z : Int) == 0) && ((loN z : Int) == 0)) = false := by
        rw [Bool.eq_false_iff]
        intro h
        simp at h
        exact hne (by omega)
      go_wp2_with fail
      all_goals (go_ret2; exact ⟨_, _, rfl, .inl ⟨H.out, by unfold cmpI; rw [Int.sub_eq_add_neg, ← HZ.out]; exact (sgn_pos hn).symm, rfl⟩, below_step hW hb6⟩)
set_option maxHeartbeats 1000000 in
theorem cmp_no (a sa b sb : Int) (w : World) (h : ¬ Both a sa b sb) :
    Calls Tryz.prog 10 #[(.agg #[.int .i64 (a), .int .i64 (sa)]), (.agg #[.int .i64 (b), .int .i64 (sb)])] w (CmpPost a sa b sb w) := by
  have H := hide h
  clear h
  go_enter Tryz.func10, Tryz.ntmps10
  go_wp2_with fail
  refine (both_no _ _ _ _ _ H.out).mono ?_
  rintro e w1 ⟨rfl, hb1⟩
  go_wp2_with fail
  go_ret2
  exact ⟨0, 2, rfl, .inr ⟨H.out, rfl, rfl⟩, by repeat (first | (refine below_set ?_ ?hsz _; case hsz => (first | omega | (simp; done) | (simp; omega) | (have hs0 := hb.size; simp at hs0 ⊢; omega) | (have hs1 := hb1.size; simp at hs1 ⊢; omega) | (have hs1 := hb1.size; have hs2 := hb2.size; simp at hs1 hs2 ⊢; omega))) | exact Below.refl _ _ | refine below_alloc ?_ _ | refine below_drew ?_ | refine below_drewn ?_ _ | refine below_step ?_ hb | refine below_step ?_ hb0 | refine below_step ?_ hb1 | refine below_step ?_ hb2 | refine below_step ?_ hb3 | refine below_step ?_ hb4 | refine below_step ?_ hb5 | refine below_step ?_ hb6 | refine below_step ?_ hb7)⟩
theorem cmp_any (a sa b sb : Int) (w : World) (hP : Pows w) : Calls Tryz.prog 10 #[(.agg #[.int .i64 (a), .int .i64 (sa)]), (.agg #[.int .i64 (b), .int .i64 (sb)])] w (CmpPost a sa b sb w) := by
  by_cases h : Both a sa b sb
  · exact cmp_ok a sa b sb w hP h
  · exact cmp_no a sa b sb w h
end Go.Proofs.YtcifakhpggoebabGreatDoor
