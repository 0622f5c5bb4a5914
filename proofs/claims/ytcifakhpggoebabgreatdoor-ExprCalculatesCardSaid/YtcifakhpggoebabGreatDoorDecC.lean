/- An integer of 128 bits as a number with a scale, and a number as such an integer: what the calls return. Condition: the table of the powers of ten holds what the program's text lays. -/
import Derived.Test.YtcifakhpggoebabGreatDoorDecB
import Derived.Deep.RegionHeld3
import Derived.Deep.RegionWith
import Derived.Deep.DeepCutAuto
namespace Go.Proofs.YtcifakhpggoebabGreatDoor
open Go Go.RowKit Go.PlainAid

theorem signed_word_no (z : Int) (w : World) (h : 0 ≤ z) (g : z < 18446744073709551616) :
    Calls Tryz.prog 31 #[(.agg #[.int .u64 ((hiN z : Int)), .int .u64 ((loN z : Int))]), .bool false] w fun e w' => e = .returned (.agg #[.int .u64 (0), .int .u64 (z)]) ∧ Below w.heap.size w w' := by
  have := signed_no z w
  rw [hi_small h g, lo_small h g] at this
  rw [hi_small h g, lo_small h g]
  exact this
theorem signed_word_yes (z : Int) (w : World) (h : 0 ≤ -z) (g : -z < 18446744073709551616) :
    Calls Tryz.prog 31 #[(.agg #[.int .u64 ((hiN z : Int)), .int .u64 ((loN z : Int))]), .bool true] w fun e w' => e = .returned (.agg #[.int .u64 (0), .int .u64 (-z)]) ∧ Below w.heap.size w w' := by
  have := signed_yes z w
  rw [hi_small h g, lo_small h g] at this
  exact this
/-- below the first error of a word -/
def Word (z : Int) : Prop := 0 ≤ z ∧ z < 18446744073709551616

set_option maxHeartbeats 2000000 in
theorem number_fits (z s L : Int) (w : World) (neg : Bool) (hL : 0 ≤ L) (hM : L ≤ 999999999999999)
    (hneg : ∀ W, Calls Tryz.prog 28 #[(.agg #[.int .u64 ((hiN z : Int)), .int .u64 ((loN z : Int))])] W fun e w' => e = .returned (.bool neg) ∧ Below W.heap.size W w')
    (hsig : ∀ W, Calls Tryz.prog 31 #[(.agg #[.int .u64 ((hiN z : Int)), .int .u64 ((loN z : Int))]), .bool neg] W fun e w' => e = .returned (.agg #[.int .u64 (0), .int .u64 (L)]) ∧ Below W.heap.size W w') :
    Calls Tryz.prog 26 #[(.agg #[.int .u64 ((hiN z : Int)), .int .u64 ((loN z : Int))]), .int .i64 s] w fun e w' => e = .returned (.tuple #[(.agg #[.int .i64 (if neg then -L else L), .int .i64 (s)]), .int .i64 0]) ∧ Below w.heap.size w w' := by
  go_enter Tryz.func26, Tryz.ntmps26
  go_upto_region 1 with fail
  go_cut [6] (fun s6 wx => NewPair ((w.alloc (.cells #[.int .u64 (hiN z : Int), .int .u64 (loN z : Int)] 73)).alloc (.cells #[.int .i64 0, .int .i64 0] 23)) wx s6 (.int .u64 0) (.int .u64 L))
  case first =>
    go_region_held3 (fun w' => w'.cell? ⟨w.heap.size, 0, none⟩ = some (.int .u64 (hiN z : Int)) ∧ w'.cell? ⟨w.heap.size, 1, none⟩ = some (.int .u64 (loN z : Int)) ∧ Below ((w.alloc (.cells #[.int .u64 (hiN z : Int), .int .u64 (loN z : Int)] 73)).alloc (.cells #[.int .i64 0, .int .i64 0] 23)).heap.size ((w.alloc (.cells #[.int .u64 (hiN z : Int), .int .u64 (loN z : Int)] 73)).alloc (.cells #[.int .i64 0, .int .i64 0] 23)) w')
      ((refine keep2 ?_ (lt2a _ _ _) (two0 _ _ _ _ _) (lt2a _ _ _) (two1 _ _ _ _ _); repeat (first | (refine below_set ?_ ?hsz _; case hsz => (first | omega | (simp; done) | (simp; omega) | (have hs0 := hb.size; simp at hs0 ⊢; omega) | (have hs1 := hb1.size; simp at hs1 ⊢; omega) | (have hs1 := hb1.size; have hs2 := hb2.size; simp at hs1 hs2 ⊢; omega))) | exact Below.refl _ _ | refine below_alloc ?_ _ | refine below_drew ?_ | refine below_drewn ?_ _ | refine below_step ?_ hb | refine below_step ?_ hb0 | refine below_step ?_ hb1 | refine below_step ?_ hb2 | refine below_step ?_ hb3 | refine below_step ?_ hb4 | refine below_step ?_ hb5 | refine below_step ?_ hb6 | refine below_step ?_ hb7)))
      (first
        | (go_at_call 28; refine (hneg _).mono ?_; rintro e w1 ⟨rfl, hb1⟩; obtain ⟨hc1, hf1⟩ := bcell hb1; (try (have z1 : w.heap.size + 2 < w1.heap.size := by (have := hb1.size; simp at this; omega))); (try (have z1' : w.heap.size + 1 + 1 < w1.heap.size := by (have := hb1.size; simp at this; omega))))
        | (go_at_call 31; refine (hsig _).mono ?_; rintro e w2 ⟨rfl, hb2⟩; obtain ⟨hc2, hf2⟩ := bcell hb2))
    all_goals (go_wp2_with fail; go_meet)
    all_goals (first
      | (refine NewPair.alloc ?_ _ _ _; repeat (first | (refine below_set ?_ ?hsz _; case hsz => (first | omega | (simp; done) | (simp; omega) | (have hs0 := hb.size; simp at hs0 ⊢; omega) | (have hs1 := hb1.size; simp at hs1 ⊢; omega) | (have hs1 := hb1.size; have hs2 := hb2.size; simp at hs1 hs2 ⊢; omega))) | exact Below.refl _ _ | refine below_alloc ?_ _ | refine below_drew ?_ | refine below_drewn ?_ _ | refine below_step ?_ hb | refine below_step ?_ hb0 | refine below_step ?_ hb1 | refine below_step ?_ hb2 | refine below_step ?_ hb3 | refine below_step ?_ hb4 | refine below_step ?_ hb5 | refine below_step ?_ hb6 | refine below_step ?_ hb7))
      | (refine NewPair.set (u := .int .u64 0) (v := .int .u64 0) ?qa ?qb ?qc ?qd ?qe ?qf _ _
         case qa => repeat (first | (refine below_set ?_ ?hsz _; case hsz => (first | omega | (simp; done) | (simp; omega) | (have hs0 := hb.size; simp at hs0 ⊢; omega) | (have hs1 := hb1.size; simp at hs1 ⊢; omega) | (have hs1 := hb1.size; have hs2 := hb2.size; simp at hs1 hs2 ⊢; omega))) | exact Below.refl _ _ | refine below_alloc ?_ _ | refine below_drew ?_ | refine below_drewn ?_ _ | refine below_step ?_ hb | refine below_step ?_ hb0 | refine below_step ?_ hb1 | refine below_step ?_ hb2 | refine below_step ?_ hb3 | refine below_step ?_ hb4 | refine below_step ?_ hb5 | refine below_step ?_ hb6 | refine below_step ?_ hb7)
         case qb => first | (simp; done) | (have hs1 := hb1.size; simp at hs1 ⊢; omega)
         case qc => first | (simp [*]; done) | (simp [*, go_sem]; done)
         case qd => first | (simp [*]; done) | (simp [*, go_sem]; done)
         case qe => first | (simp [*]; done) | (simp [*, go_sem]; done)
         case qf => first | (simp [*]; done) | (simp [*, go_sem]; done)))
  case rest =>
    obtain ⟨g, rfl, c0, c1, f0, f1, hg, hg', hb⟩ := hcut
    obtain ⟨hc, hf⟩ := bcell hb
    simp at hg'
    have z0 : w.heap.size < wc.heap.size := by omega
    have z1 : w.heap.size + 1 < wc.heap.size := by omega
    go_wp2_with fail
    refine (hneg _).mono ?_
    rintro e w3 ⟨rfl, hb3⟩
    obtain ⟨hc3, hf3⟩ := bcell hb3
    have r0 : w3.cell? ⟨w.heap.size + 1, 0, none⟩ = some (.int .i64 0) := by rw [hc3 _ _ (by simp; omega), World.cell?_alloc_lt _ _ _ (by simpa using z1), hc _ _ (by simp)]; simp [go_sem]
    have r1 : w3.cell? ⟨w.heap.size + 1, 1, none⟩ = some (.int .i64 0) := by rw [hc3 _ _ (by simp; omega), World.cell?_alloc_lt _ _ _ (by simpa using z1), hc _ _ (by simp)]; simp [go_sem]
    cases neg
    · go_wp2_with fail
      exact bodyPost_ret (v := .tuple #[(.agg #[.int .i64 (L), .int .i64 (s)]), .int .i64 0]) (by simp [results, Tryz.results26, go_sem, r0, r1]) rfl ⟨rfl, by repeat (first | (refine below_set ?_ ?hsz _; case hsz => (first | omega | (simp; done) | (simp; omega) | (have hs0 := hb.size; simp at hs0 ⊢; omega) | (have hs1 := hb1.size; simp at hs1 ⊢; omega) | (have hs1 := hb1.size; have hs2 := hb2.size; simp at hs1 hs2 ⊢; omega))) | exact Below.refl _ _ | refine below_alloc ?_ _ | refine below_drew ?_ | refine below_drewn ?_ _ | refine below_step ?_ hb | refine below_step ?_ hb0 | refine below_step ?_ hb1 | refine below_step ?_ hb2 | refine below_step ?_ hb3 | refine below_step ?_ hb4 | refine below_step ?_ hb5 | refine below_step ?_ hb6 | refine below_step ?_ hb7)⟩
    · go_wp2_with fail
      exact bodyPost_ret (v := .tuple #[(.agg #[.int .i64 (-L), .int .i64 (s)]), .int .i64 0]) (by simp [results, Tryz.results26, go_sem, r0, r1]) rfl ⟨rfl, by repeat (first | (refine below_set ?_ ?hsz _; case hsz => (first | omega | (simp; done) | (simp; omega) | (have hs0 := hb.size; simp at hs0 ⊢; omega) | (have hs1 := hb1.size; simp at hs1 ⊢; omega) | (have hs1 := hb1.size; have hs2 := hb2.size; simp at hs1 hs2 ⊢; omega))) | exact Below.refl _ _ | refine below_alloc ?_ _ | refine below_drew ?_ | refine below_drewn ?_ _ | refine below_step ?_ hb | refine below_step ?_ hb0 | refine below_step ?_ hb1 | refine below_step ?_ hb2 | refine below_step ?_ hb3 | refine below_step ?_ hb4 | refine below_step ?_ hb5 | refine below_step ?_ hb6 | refine below_step ?_ hb7)⟩
set_option maxHeartbeats 2000000 in
theorem number_over (z s L : Int) (w : World) (neg : Bool) (hM : 999999999999999 < L)
    (hneg : ∀ W, Calls Tryz.prog 28 #[(.agg #[.int .u64 ((hiN z : Int)), .int .u64 ((loN z : Int))])] W fun e w' => e = .returned (.bool neg) ∧ Below W.heap.size W w')
    (hsig : ∀ W, Calls Tryz.prog 31 #[(.agg #[.int .u64 ((hiN z : Int)), .int .u64 ((loN z : Int))]), .bool neg] W fun e w' => e = .returned (.agg #[.int .u64 (0), .int .u64 (L)]) ∧ Below W.heap.size W w') :
    Calls Tryz.prog 26 #[(.agg #[.int .u64 ((hiN z : Int)), .int .u64 ((loN z : Int))]), .int .i64 s] w fun e w' => e = .returned (.tuple #[(.agg #[.int .i64 (0), .int .i64 (0)]), .int .i64 14]) ∧ Below w.heap.size w w' := by
  go_enter Tryz.func26, Tryz.ntmps26
  go_upto_region 1 with fail
  go_cut [6] (fun s6 wx => NewPair ((w.alloc (.cells #[.int .u64 (hiN z : Int), .int .u64 (loN z : Int)] 73)).alloc (.cells #[.int .i64 0, .int .i64 0] 23)) wx s6 (.int .u64 0) (.int .u64 L))
  case first =>
    go_region_held3 (fun w' => w'.cell? ⟨w.heap.size, 0, none⟩ = some (.int .u64 (hiN z : Int)) ∧ w'.cell? ⟨w.heap.size, 1, none⟩ = some (.int .u64 (loN z : Int)) ∧ Below ((w.alloc (.cells #[.int .u64 (hiN z : Int), .int .u64 (loN z : Int)] 73)).alloc (.cells #[.int .i64 0, .int .i64 0] 23)).heap.size ((w.alloc (.cells #[.int .u64 (hiN z : Int), .int .u64 (loN z : Int)] 73)).alloc (.cells #[.int .i64 0, .int .i64 0] 23)) w')
      ((refine keep2 ?_ (lt2a _ _ _) (two0 _ _ _ _ _) (lt2a _ _ _) (two1 _ _ _ _ _); repeat (first | (refine below_set ?_ ?hsz _; case hsz => (first | omega | (simp; done) | (simp; omega) | (have hs0 := hb.size; simp at hs0 ⊢; omega) | (have hs1 := hb1.size; simp at hs1 ⊢; omega) | (have hs1 := hb1.size; have hs2 := hb2.size; simp at hs1 hs2 ⊢; omega))) | exact Below.refl _ _ | refine below_alloc ?_ _ | refine below_drew ?_ | refine below_drewn ?_ _ | refine below_step ?_ hb | refine below_step ?_ hb0 | refine below_step ?_ hb1 | refine below_step ?_ hb2 | refine below_step ?_ hb3 | refine below_step ?_ hb4 | refine below_step ?_ hb5 | refine below_step ?_ hb6 | refine below_step ?_ hb7)))
      (first
        | (go_at_call 28; refine (hneg _).mono ?_; rintro e w1 ⟨rfl, hb1⟩; obtain ⟨hc1, hf1⟩ := bcell hb1; (try (have z1 : w.heap.size + 2 < w1.heap.size := by (have := hb1.size; simp at this; omega))); (try (have z1' : w.heap.size + 1 + 1 < w1.heap.size := by (have := hb1.size; simp at this; omega))))
        | (go_at_call 31; refine (hsig _).mono ?_; rintro e w2 ⟨rfl, hb2⟩; obtain ⟨hc2, hf2⟩ := bcell hb2))
    all_goals (go_wp2_with fail; go_meet)
    all_goals (first
      | (refine NewPair.alloc ?_ _ _ _; repeat (first | (refine below_set ?_ ?hsz _; case hsz => (first | omega | (simp; done) | (simp; omega) | (have hs0 := hb.size; simp at hs0 ⊢; omega) | (have hs1 := hb1.size; simp at hs1 ⊢; omega) | (have hs1 := hb1.size; have hs2 := hb2.size; simp at hs1 hs2 ⊢; omega))) | exact Below.refl _ _ | refine below_alloc ?_ _ | refine below_drew ?_ | refine below_drewn ?_ _ | refine below_step ?_ hb | refine below_step ?_ hb0 | refine below_step ?_ hb1 | refine below_step ?_ hb2 | refine below_step ?_ hb3 | refine below_step ?_ hb4 | refine below_step ?_ hb5 | refine below_step ?_ hb6 | refine below_step ?_ hb7))
      | (refine NewPair.set (u := .int .u64 0) (v := .int .u64 0) ?qa ?qb ?qc ?qd ?qe ?qf _ _
         case qa => repeat (first | (refine below_set ?_ ?hsz _; case hsz => (first | omega | (simp; done) | (simp; omega) | (have hs0 := hb.size; simp at hs0 ⊢; omega) | (have hs1 := hb1.size; simp at hs1 ⊢; omega) | (have hs1 := hb1.size; have hs2 := hb2.size; simp at hs1 hs2 ⊢; omega))) | exact Below.refl _ _ | refine below_alloc ?_ _ | refine below_drew ?_ | refine below_drewn ?_ _ | refine below_step ?_ hb | refine below_step ?_ hb0 | refine below_step ?_ hb1 | refine below_step ?_ hb2 | refine below_step ?_ hb3 | refine below_step ?_ hb4 | refine below_step ?_ hb5 | refine below_step ?_ hb6 | refine below_step ?_ hb7)
         case qb => first | (simp; done) | (have hs1 := hb1.size; simp at hs1 ⊢; omega)
         case qc => first | (simp [*]; done) | (simp [*, go_sem]; done)
         case qd => first | (simp [*]; done) | (simp [*, go_sem]; done)
         case qe => first | (simp [*]; done) | (simp [*, go_sem]; done)
         case qf => first | (simp [*]; done) | (simp [*, go_sem]; done)))
  case rest =>
    obtain ⟨g, rfl, c0, c1, f0, f1, hg, hg', hb⟩ := hcut
    obtain ⟨hc, hf⟩ := bcell hb
    simp at hg'
    have z0 : w.heap.size < wc.heap.size := by omega
    have z1 : w.heap.size + 1 < wc.heap.size := by omega
    have r0 : wc.cell? ⟨w.heap.size + 1, 0, none⟩ = some (.int .i64 0) := by rw [hc _ _ (by simp)]; simp [go_sem]
    have r1 : wc.cell? ⟨w.heap.size + 1, 1, none⟩ = some (.int .i64 0) := by rw [hc _ _ (by simp)]; simp [go_sem]
    go_wp2_with fail
    exact bodyPost_ret (v := .tuple #[(.agg #[.int .i64 (0), .int .i64 (0)]), .int .i64 14]) (by simp [results, Tryz.results26, go_sem, r0, r1]) rfl ⟨rfl, by repeat (first | (refine below_set ?_ ?hsz _; case hsz => (first | omega | (simp; done) | (simp; omega) | (have hs0 := hb.size; simp at hs0 ⊢; omega) | (have hs1 := hb1.size; simp at hs1 ⊢; omega) | (have hs1 := hb1.size; have hs2 := hb2.size; simp at hs1 hs2 ⊢; omega))) | exact Below.refl _ _ | refine below_alloc ?_ _ | refine below_drew ?_ | refine below_drewn ?_ _ | refine below_step ?_ hb | refine below_step ?_ hb0 | refine below_step ?_ hb1 | refine below_step ?_ hb2 | refine below_step ?_ hb3 | refine below_step ?_ hb4 | refine below_step ?_ hb5 | refine below_step ?_ hb6 | refine below_step ?_ hb7)⟩
set_option maxHeartbeats 2000000 in
theorem number_high (z s H L : Int) (w : World) (neg : Bool) (_hH : (H == 0) = false) (hH' : (H != 0) = true)
    (hneg : ∀ W, Calls Tryz.prog 28 #[(.agg #[.int .u64 ((hiN z : Int)), .int .u64 ((loN z : Int))])] W fun e w' => e = .returned (.bool neg) ∧ Below W.heap.size W w')
    (hsig : ∀ W, Calls Tryz.prog 31 #[(.agg #[.int .u64 ((hiN z : Int)), .int .u64 ((loN z : Int))]), .bool neg] W fun e w' => e = .returned (.agg #[.int .u64 (H), .int .u64 (L)]) ∧ Below W.heap.size W w') :
    Calls Tryz.prog 26 #[(.agg #[.int .u64 ((hiN z : Int)), .int .u64 ((loN z : Int))]), .int .i64 s] w fun e w' => e = .returned (.tuple #[(.agg #[.int .i64 (0), .int .i64 (0)]), .int .i64 14]) ∧ Below w.heap.size w w' := by
  go_enter Tryz.func26, Tryz.ntmps26
  go_upto_region 1 with fail
  go_cut [6] (fun s6 wx => NewPair ((w.alloc (.cells #[.int .u64 (hiN z : Int), .int .u64 (loN z : Int)] 73)).alloc (.cells #[.int .i64 0, .int .i64 0] 23)) wx s6 (.int .u64 H) (.int .u64 L))
  case first =>
    go_region_held3 (fun w' => w'.cell? ⟨w.heap.size, 0, none⟩ = some (.int .u64 (hiN z : Int)) ∧ w'.cell? ⟨w.heap.size, 1, none⟩ = some (.int .u64 (loN z : Int)) ∧ Below ((w.alloc (.cells #[.int .u64 (hiN z : Int), .int .u64 (loN z : Int)] 73)).alloc (.cells #[.int .i64 0, .int .i64 0] 23)).heap.size ((w.alloc (.cells #[.int .u64 (hiN z : Int), .int .u64 (loN z : Int)] 73)).alloc (.cells #[.int .i64 0, .int .i64 0] 23)) w')
      ((refine keep2 ?_ (lt2a _ _ _) (two0 _ _ _ _ _) (lt2a _ _ _) (two1 _ _ _ _ _); repeat (first | (refine below_set ?_ ?hsz _; case hsz => (first | omega | (simp; done) | (simp; omega) | (have hs0 := hb.size; simp at hs0 ⊢; omega) | (have hs1 := hb1.size; simp at hs1 ⊢; omega) | (have hs1 := hb1.size; have hs2 := hb2.size; simp at hs1 hs2 ⊢; omega))) | exact Below.refl _ _ | refine below_alloc ?_ _ | refine below_drew ?_ | refine below_drewn ?_ _ | refine below_step ?_ hb | refine below_step ?_ hb0 | refine below_step ?_ hb1 | refine below_step ?_ hb2 | refine below_step ?_ hb3 | refine below_step ?_ hb4 | refine below_step ?_ hb5 | refine below_step ?_ hb6 | refine below_step ?_ hb7)))
      (first
        | (go_at_call 28; refine (hneg _).mono ?_; rintro e w1 ⟨rfl, hb1⟩; obtain ⟨hc1, hf1⟩ := bcell hb1; (try (have z1 : w.heap.size + 2 < w1.heap.size := by (have := hb1.size; simp at this; omega))); (try (have z1' : w.heap.size + 1 + 1 < w1.heap.size := by (have := hb1.size; simp at this; omega))))
        | (go_at_call 31; refine (hsig _).mono ?_; rintro e w2 ⟨rfl, hb2⟩; obtain ⟨hc2, hf2⟩ := bcell hb2))
    all_goals (go_wp2_with fail; go_meet)
    all_goals (first
      | (refine NewPair.alloc ?_ _ _ _; repeat (first | (refine below_set ?_ ?hsz _; case hsz => (first | omega | (simp; done) | (simp; omega) | (have hs0 := hb.size; simp at hs0 ⊢; omega) | (have hs1 := hb1.size; simp at hs1 ⊢; omega) | (have hs1 := hb1.size; have hs2 := hb2.size; simp at hs1 hs2 ⊢; omega))) | exact Below.refl _ _ | refine below_alloc ?_ _ | refine below_drew ?_ | refine below_drewn ?_ _ | refine below_step ?_ hb | refine below_step ?_ hb0 | refine below_step ?_ hb1 | refine below_step ?_ hb2 | refine below_step ?_ hb3 | refine below_step ?_ hb4 | refine below_step ?_ hb5 | refine below_step ?_ hb6 | refine below_step ?_ hb7))
      | (refine NewPair.set (u := .int .u64 0) (v := .int .u64 0) ?qa ?qb ?qc ?qd ?qe ?qf _ _
         case qa => repeat (first | (refine below_set ?_ ?hsz _; case hsz => (first | omega | (simp; done) | (simp; omega) | (have hs0 := hb.size; simp at hs0 ⊢; omega) | (have hs1 := hb1.size; simp at hs1 ⊢; omega) | (have hs1 := hb1.size; have hs2 := hb2.size; simp at hs1 hs2 ⊢; omega))) | exact Below.refl _ _ | refine below_alloc ?_ _ | refine below_drew ?_ | refine below_drewn ?_ _ | refine below_step ?_ hb | refine below_step ?_ hb0 | refine below_step ?_ hb1 | refine below_step ?_ hb2 | refine below_step ?_ hb3 | refine below_step ?_ hb4 | refine below_step ?_ hb5 | refine below_step ?_ hb6 | refine below_step ?_ hb7)
         case qb => first | (simp; done) | (have hs1 := hb1.size; simp at hs1 ⊢; omega)
         case qc => first | (simp [*]; done) | (simp [*, go_sem]; done)
         case qd => first | (simp [*]; done) | (simp [*, go_sem]; done)
         case qe => first | (simp [*]; done) | (simp [*, go_sem]; done)
         case qf => first | (simp [*]; done) | (simp [*, go_sem]; done)))
  case rest =>
    obtain ⟨g, rfl, c0, c1, f0, f1, hg, hg', hb⟩ := hcut
    obtain ⟨hc, hf⟩ := bcell hb
    simp at hg'
    have z0 : w.heap.size < wc.heap.size := by omega
    have z1 : w.heap.size + 1 < wc.heap.size := by omega
    have r0 : wc.cell? ⟨w.heap.size + 1, 0, none⟩ = some (.int .i64 0) := by rw [hc _ _ (by simp)]; simp [go_sem]
    have r1 : wc.cell? ⟨w.heap.size + 1, 1, none⟩ = some (.int .i64 0) := by rw [hc _ _ (by simp)]; simp [go_sem]
    go_wp2_with fail
    exact bodyPost_ret (v := .tuple #[(.agg #[.int .i64 (0), .int .i64 (0)]), .int .i64 14]) (by simp [results, Tryz.results26, go_sem, r0, r1]) rfl ⟨rfl, by repeat (first | (refine below_set ?_ ?hsz _; case hsz => (first | omega | (simp; done) | (simp; omega) | (have hs0 := hb.size; simp at hs0 ⊢; omega) | (have hs1 := hb1.size; simp at hs1 ⊢; omega) | (have hs1 := hb1.size; have hs2 := hb2.size; simp at hs1 hs2 ⊢; omega))) | exact Below.refl _ _ | refine below_alloc ?_ _ | refine below_drew ?_ | refine below_drewn ?_ _ | refine below_step ?_ hb | refine below_step ?_ hb0 | refine below_step ?_ hb1 | refine below_step ?_ hb2 | refine below_step ?_ hb3 | refine below_step ?_ hb4 | refine below_step ?_ hb5 | refine below_step ?_ hb6 | refine below_step ?_ hb7)⟩

/-- what (wide).number comes to -/
def NumPost (z s : Int) (w : World) (e : Ending) (w' : World) : Prop := ∃ n t x : Int, e = .returned (.tuple #[(.agg #[.int .i64 (n), .int .i64 (t)]), .int .i64 x]) ∧ NumOut z s n t x ∧ Below w.heap.size w w'
theorem number_any (z s : Int) (w : World) (h : Fits z) : Calls Tryz.prog 26 #[(.agg #[.int .u64 ((hiN z : Int)), .int .u64 ((loN z : Int))]), .int .i64 s] w (NumPost z s w) := by
  have hbig : ∀ y : Int, 18446744073709551616 ≤ y → Fits y → ((hiN y : Int) == 0) = false ∧ ((hiN y : Int) != 0) = true := by
    intro y h1 h2
    have := hi_big h1 (by unfold Fits at h2; omega)
    constructor
    · simp; omega
    · simp; omega
  rcases Int.lt_or_le z 0 with hz | hz
  · have hneg := fun W => negative_yes z W h hz
    have hsig := fun W => signed_yes z W
    by_cases h1 : -z ≤ 999999999999999
    · refine (number_fits z s (-z) w true (by omega) h1 hneg fun W => signed_word_yes z W (by omega) (by omega)).mono ?_
      rintro e w' ⟨rfl, hb⟩
      exact ⟨_, _, _, rfl, .inl ⟨⟨by omega, by omega⟩, by simp, rfl, rfl⟩, hb⟩
    · by_cases h2 : -z < 18446744073709551616
      · refine (number_over z s (-z) w true (by omega) hneg fun W => signed_word_yes z W (by omega) (by omega)).mono ?_
        rintro e w' ⟨rfl, hb⟩
        exact ⟨_, _, _, rfl, .inr ⟨fun g => by have := g.1; omega, rfl, rfl, rfl⟩, hb⟩
      · obtain ⟨q1, q2⟩ := hbig (-z) (by omega) h.neg
        refine (number_high z s _ _ w true q1 q2 hneg hsig).mono ?_
        rintro e w' ⟨rfl, hb⟩
        exact ⟨_, _, _, rfl, .inr ⟨fun g => by have := g.1; omega, rfl, rfl, rfl⟩, hb⟩
  · have hneg := fun W => negative_no z W h hz
    have hsig := fun W => signed_no z W
    by_cases h1 : z ≤ 999999999999999
    · refine (number_fits z s z w false hz h1 hneg fun W => signed_word_no z W hz (by omega)).mono ?_
      rintro e w' ⟨rfl, hb⟩
      exact ⟨_, _, _, rfl, .inl ⟨⟨by omega, by omega⟩, by simp, rfl, rfl⟩, hb⟩
    · by_cases h2 : z < 18446744073709551616
      · refine (number_over z s z w false (by omega) hneg fun W => signed_word_no z W hz h2).mono ?_
        rintro e w' ⟨rfl, hb⟩
        exact ⟨_, _, _, rfl, .inr ⟨fun g => by have := g.2; omega, rfl, rfl, rfl⟩, hb⟩
      · obtain ⟨q1, q2⟩ := hbig z (by omega) h
        refine (number_high z s _ _ w false q1 q2 hneg hsig).mono ?_
        rintro e w' ⟨rfl, hb⟩
        exact ⟨_, _, _, rfl, .inr ⟨fun g => by have := g.2; omega, rfl, rfl, rfl⟩, hb⟩
end Go.Proofs.YtcifakhpggoebabGreatDoor
