/- What Normal, Negate and Floor return. Condition: the table of the powers of ten holds what the program's text lays. -/
import Derived.Test.YtgppimdakafniaaDoorDecV
import Derived.Deep.LoopGhost
namespace Go.Proofs.YtgppimdakafniaaDoor
open Go Go.RowKit Go.PlainAid

set_option maxHeartbeats 2000000 in
theorem negate_ok (n s : Int) (w : World) (h : okN n s) : Calls Tryd.prog 15 #[(.agg #[.int .i64 (n), .int .i64 (s)])] w fun e w' => e = .returned (.tuple #[(.agg #[.int .i64 (-n), .int .i64 (s)]), .int .i64 0]) ∧ Below w.heap.size w w' := by
  have H := hide h
  have h1 := h.1
  have h2 := h.2.1
  clear h
  go_enter Tryd.func15, Tryd.ntmps15
  go_wp2_with fail
  refine (check_ok _ _ _ H.out).mono ?_
  rintro e w1 ⟨rfl, hb1⟩
  obtain ⟨hc1, hf1⟩ := bcell hb1
  have r0 : w1.cell? ⟨w.heap.size + 1, 0, none⟩ = some (.int .i64 0) := by rw [hc1 _ _ (by simp)]; simp [go_sem]
  have r1 : w1.cell? ⟨w.heap.size + 1, 1, none⟩ = some (.int .i64 0) := by rw [hc1 _ _ (by simp)]; simp [go_sem]
  go_wp2_with fail
  exact bodyPost_ret (v := .tuple #[(.agg #[.int .i64 (-n), .int .i64 (s)]), .int .i64 0]) (by simp [results, Tryd.results15, go_sem, r0, r1]) rfl ⟨rfl, by repeat (first | (refine below_set ?_ ?hsz _; case hsz => (first | omega | (simp; done) | (simp; omega) | (have hs0 := hb.size; simp at hs0 ⊢; omega) | (have hs1 := hb1.size; simp at hs1 ⊢; omega) | (have hs1 := hb1.size; have hs2 := hb2.size; simp at hs1 hs2 ⊢; omega))) | exact Below.refl _ _ | refine below_alloc ?_ _ | refine below_drew ?_ | refine below_drewn ?_ _ | refine below_step ?_ hb | refine below_step ?_ hb0 | refine below_step ?_ hb1 | refine below_step ?_ hb2 | refine below_step ?_ hb3 | refine below_step ?_ hb4 | refine below_step ?_ hb5 | refine below_step ?_ hb6 | refine below_step ?_ hb7)⟩
set_option maxHeartbeats 2000000 in
theorem negate_no (n s : Int) (w : World) (h : ¬ okN n s) : Calls Tryd.prog 15 #[(.agg #[.int .i64 (n), .int .i64 (s)])] w fun e w' => e = .returned (.tuple #[(.agg #[.int .i64 (0), .int .i64 (0)]), .int .i64 2]) ∧ Below w.heap.size w w' := by
  have H := hide h
  clear h
  go_enter Tryd.func15, Tryd.ntmps15
  go_wp2_with fail
  refine (check_no _ _ _ H.out).mono ?_
  rintro e w1 ⟨rfl, hb1⟩
  obtain ⟨hc1, hf1⟩ := bcell hb1
  have r0 : w1.cell? ⟨w.heap.size + 1, 0, none⟩ = some (.int .i64 0) := by rw [hc1 _ _ (by simp)]; simp [go_sem]
  have r1 : w1.cell? ⟨w.heap.size + 1, 1, none⟩ = some (.int .i64 0) := by rw [hc1 _ _ (by simp)]; simp [go_sem]
  go_wp2_with fail
  exact bodyPost_ret (v := .tuple #[(.agg #[.int .i64 (0), .int .i64 (0)]), .int .i64 2]) (by simp [results, Tryd.results15, go_sem, r0, r1]) rfl ⟨rfl, by repeat (first | (refine below_set ?_ ?hsz _; case hsz => (first | omega | (simp; done) | (simp; omega) | (have hs0 := hb.size; simp at hs0 ⊢; omega) | (have hs1 := hb1.size; simp at hs1 ⊢; omega) | (have hs1 := hb1.size; have hs2 := hb2.size; simp at hs1 hs2 ⊢; omega))) | exact Below.refl _ _ | refine below_alloc ?_ _ | refine below_drew ?_ | refine below_drewn ?_ _ | refine below_step ?_ hb | refine below_step ?_ hb0 | refine below_step ?_ hb1 | refine below_step ?_ hb2 | refine below_step ?_ hb3 | refine below_step ?_ hb4 | refine below_step ?_ hb5 | refine below_step ?_ hb6 | refine below_step ?_ hb7)⟩
set_option maxHeartbeats 2000000 in
theorem normal_no (n s : Int) (w : World) (h : ¬ okN n s) : Calls Tryd.prog 14 #[(.agg #[.int .i64 (n), .int .i64 (s)])] w fun e w' => e = .returned (.tuple #[(.agg #[.int .i64 (0), .int .i64 (0)]), .int .i64 2]) ∧ Below w.heap.size w w' := by
  have H := hide h
  clear h
  go_enter Tryd.func14, Tryd.ntmps14
  go_wp2_with fail
  refine (check_no _ _ _ H.out).mono ?_
  rintro e w1 ⟨rfl, hb1⟩
  obtain ⟨hc1, hf1⟩ := bcell hb1
  have r0 : w1.cell? ⟨w.heap.size + 1, 0, none⟩ = some (.int .i64 0) := by rw [hc1 _ _ (by simp)]; simp [go_sem]
  have r1 : w1.cell? ⟨w.heap.size + 1, 1, none⟩ = some (.int .i64 0) := by rw [hc1 _ _ (by simp)]; simp [go_sem]
  go_wp2_with fail
  exact bodyPost_ret (v := .tuple #[(.agg #[.int .i64 (0), .int .i64 (0)]), .int .i64 2]) (by simp [results, Tryd.results14, go_sem, r0, r1]) rfl ⟨rfl, by repeat (first | (refine below_set ?_ ?hsz _; case hsz => (first | omega | (simp; done) | (simp; omega) | (have hs0 := hb.size; simp at hs0 ⊢; omega) | (have hs1 := hb1.size; simp at hs1 ⊢; omega) | (have hs1 := hb1.size; have hs2 := hb2.size; simp at hs1 hs2 ⊢; omega))) | exact Below.refl _ _ | refine below_alloc ?_ _ | refine below_drew ?_ | refine below_drewn ?_ _ | refine below_step ?_ hb | refine below_step ?_ hb0 | refine below_step ?_ hb1 | refine below_step ?_ hb2 | refine below_step ?_ hb3 | refine below_step ?_ hb4 | refine below_step ?_ hb5 | refine below_step ?_ hb6 | refine below_step ?_ hb7)⟩
set_option maxHeartbeats 2000000 in
theorem floor_no (n s : Int) (w : World) (h : ¬ okN n s) : Calls Tryd.prog 16 #[(.agg #[.int .i64 (n), .int .i64 (s)])] w fun e w' => e = .returned (.tuple #[.int .i64 0, .int .i64 2]) ∧ Below w.heap.size w w' := by
  have H := hide h
  clear h
  go_enter Tryd.func16, Tryd.ntmps16
  go_wp2_with fail
  refine (check_no _ _ _ H.out).mono ?_
  rintro e w1 ⟨rfl, hb1⟩
  go_wp2_with fail
  go_ret2
  exact ⟨rfl, by repeat (first | (refine below_set ?_ ?hsz _; case hsz => (first | omega | (simp; done) | (simp; omega) | (have hs0 := hb.size; simp at hs0 ⊢; omega) | (have hs1 := hb1.size; simp at hs1 ⊢; omega) | (have hs1 := hb1.size; have hs2 := hb2.size; simp at hs1 hs2 ⊢; omega))) | exact Below.refl _ _ | refine below_alloc ?_ _ | refine below_drew ?_ | refine below_drewn ?_ _ | refine below_step ?_ hb | refine below_step ?_ hb0 | refine below_step ?_ hb1 | refine below_step ?_ hb2 | refine below_step ?_ hb3 | refine below_step ?_ hb4 | refine below_step ?_ hb5 | refine below_step ?_ hb6 | refine below_step ?_ hb7)⟩

/-- what Normal returns: the same number, with the least scale -/
def Normed (n s x t : Int) : Prop := okN x t ∧ t ≤ s ∧ x * ten (s - t) = n ∧ (t = 0 ∨ x.tmod 10 ≠ 0)
theorem ten_succ {k : Int} (h : 0 ≤ k) : ten (k + 1) = 10 * ten k := by
  unfold ten
  rw [show (k + 1).toNat = k.toNat + 1 by omega, Int.pow_succ, Int.mul_comm]
def NormPost (n s : Int) (w : World) (e : Ending) (w' : World) : Prop := ∃ x t : Int, e = .returned (.tuple #[(.agg #[.int .i64 (x), .int .i64 (t)]), .int .i64 0]) ∧ Normed n s x t ∧ Below w.heap.size w w'
set_option maxHeartbeats 4000000 in
theorem normal_ok (n s : Int) (w : World) (h : okN n s) : Calls Tryd.prog 14 #[(.agg #[.int .i64 (n), .int .i64 (s)])] w (NormPost n s w) := by
  have H := hide h
  obtain ⟨g1, g2, g3, g4⟩ := h
  go_enter Tryd.func14, Tryd.ntmps14
  go_wp2_with fail
  refine (check_ok _ _ _ H.out).mono ?_
  rintro e w1 ⟨rfl, hb1⟩
  have B0 : Holds w1 w.heap.size 23 #[.int .i64 n, .int .i64 s] := (hb1.block _ (lt2a _ _ _)).trans (Holds.alloc (show Holds _ _ _ _ from heap_alloc_new w _) _)
  have B1 : Holds w1 (w.heap.size + 1) 23 #[.int .i64 0, .int .i64 0] := (hb1.block _ (lt2b _ _ _)).trans (by
    have := heap_alloc_new (w.alloc (.cells #[.int .i64 n, .int .i64 s] 23)) (.cells #[.int .i64 0, .int .i64 0] 23)
    simpa using this)
  have hB : Below w.heap.size w w1 := by repeat (first | (refine below_set ?_ ?hsz _; case hsz => (first | omega | (simp; done) | (simp; omega) | (have hs0 := hb.size; simp at hs0 ⊢; omega) | (have hs1 := hb1.size; simp at hs1 ⊢; omega) | (have hs1 := hb1.size; have hs2 := hb2.size; simp at hs1 hs2 ⊢; omega))) | exact Below.refl _ _ | refine below_alloc ?_ _ | refine below_drew ?_ | refine below_drewn ?_ _ | refine below_step ?_ hb | refine below_step ?_ hb0 | refine below_step ?_ hb1 | refine below_step ?_ hb2 | refine below_step ?_ hb3 | refine below_step ?_ hb4 | refine below_step ?_ hb5 | refine below_step ?_ hb6 | refine below_step ?_ hb7)
  clear hb1
  go_wp2_with fail
  go_loopg [] s.toNat (fun gk wr => ∃ x t : Int, gk = t.toNat ∧ 0 ≤ t ∧ t ≤ s ∧ -999999999999999 ≤ x ∧ x ≤ 999999999999999 ∧ Hid (x * ten (s - t) = n) ∧ Holds wr w.heap.size 23 #[.int .i64 x, .int .i64 t] ∧ Holds wr (w.heap.size + 1) 23 #[.int .i64 0, .int .i64 0] ∧ Below w.heap.size w wr)
  case atStart => exact ⟨n, s, rfl, g3, Int.le_refl _, g1, g2, by unfold Hid; rw [Int.sub_self, ten_zero, Int.mul_one], B0, B1, hB⟩
  case round =>
    clear B0 B1 hB
    obtain ⟨x, t, rfl, ht0, hts, hx0, hx1, hv, B0, B1, hB⟩ := hrel
    have k0 : wr.cell? ⟨w.heap.size, 0, none⟩ = some (.int .i64 x) := (B0.cell 0).trans rfl
    have k1 : wr.cell? ⟨w.heap.size, 1, none⟩ = some (.int .i64 t) := (B0.cell 1).trans rfl
    have f0 := B0.free 0
    have f1 := B0.free 1
    have r0 : wr.cell? ⟨w.heap.size + 1, 0, none⟩ = some (.int .i64 0) := (B1.cell 0).trans rfl
    have r1 : wr.cell? ⟨w.heap.size + 1, 1, none⟩ = some (.int .i64 0) := (B1.cell 1).trans rfl
    have f2 := B1.free 0
    have f3 := B1.free 1
    by_cases ht : 0 < t
    · by_cases hd : x.tmod 10 = 0
      · have D := hide hd
        have q : (x.tmod 10 == 0) = true := by simpa using hd
        clear hd
        have ex : 10 * x.tdiv 10 = x := by have := Int.mul_tdiv_add_tmod x 10; rw [D.out] at this; omega
        have y0 : -999999999999999 ≤ x.tdiv 10 := by omega
        have y1 : x.tdiv 10 ≤ 999999999999999 := by omega
        have EX := hide ex
        clear ex
        go_wp2_with fail
        go_roundg ((t - 1).toNat)
        case measure => omega
        case rel =>
          refine ⟨x.tdiv 10, t - 1, rfl, by omega, by omega, y0, y1, ?_, ?_, (B1.far (by simp) _).far (by simp) _, (hB.setCell (Nat.le_refl _) _).setCell (Nat.le_refl _) _⟩
          · unfold Hid
            rw [← hv.out, show s - (t - 1) = (s - t) + 1 by omega, ten_succ (by omega), ← Int.mul_assoc, Int.mul_comm (x.tdiv 10) 10, EX.out]
          · simpa using (B0.put 0 (.int .i64 (x.tdiv 10))).put 1 (.int .i64 (t - 1))
      · have D := hide hd
        have q : (x.tmod 10 == 0) = false := by simpa using hd
        clear hd
        go_wp2_with fail
        exact bodyPost_ret (v := .tuple #[(.agg #[.int .i64 (x), .int .i64 (t)]), .int .i64 0]) (by simp [results, Tryd.results14, go_sem, r0, r1]) rfl ⟨x, t, rfl, ⟨⟨hx0, hx1, ht0, by omega⟩, hts, hv.out, .inr D.out⟩, (hB.setCell (by simp) _).setCell (by simp) _⟩
    · obtain rfl : t = 0 := by omega
      go_wp2_with fail
      exact bodyPost_ret (v := .tuple #[(.agg #[.int .i64 (x), .int .i64 (0)]), .int .i64 0]) (by simp [results, Tryd.results14, go_sem, r0, r1]) rfl ⟨x, 0, rfl, ⟨⟨hx0, hx1, ht0, by omega⟩, hts, hv.out, .inl rfl⟩, (hB.setCell (by simp) _).setCell (by simp) _⟩
set_option maxHeartbeats 4000000 in
theorem floor_ok (n s : Int) (w : World) (h : okN n s) (hP : Pows w) : Calls Tryd.prog 16 #[(.agg #[.int .i64 (n), .int .i64 (s)])] w fun e w' => e = .returned (.tuple #[.int .i64 (n / ten s), .int .i64 0]) ∧ Below w.heap.size w w' := by
  have H := hide h
  obtain ⟨k, rfl⟩ : ∃ k : Nat, s = k := ⟨s.toNat, by have := h.2.2.1; omega⟩
  have hk : k ≤ 12 := by have := h.2.2.2; omega
  have PH := hide hP
  have hlt := hP.lt
  go_enter Tryd.func16, Tryd.ntmps16
  go_wp2_with fail
  refine (check_ok _ _ _ H.out).mono ?_
  rintro e w1 ⟨rfl, hb1⟩
  obtain ⟨hc1, hf1⟩ := bcell hb1
  have pc := (PH.out.below (show Below w.heap.size w w1 by repeat (first | (refine below_set ?_ ?hsz _; case hsz => (first | omega | (simp; done) | (simp; omega) | (have hs0 := hb.size; simp at hs0 ⊢; omega) | (have hs1 := hb1.size; simp at hs1 ⊢; omega) | (have hs1 := hb1.size; have hs2 := hb2.size; simp at hs1 hs2 ⊢; omega))) | exact Below.refl _ _ | refine below_alloc ?_ _ | refine below_drew ?_ | refine below_drewn ?_ _ | refine below_step ?_ hb | refine below_step ?_ hb0 | refine below_step ?_ hb1 | refine below_step ?_ hb2 | refine below_step ?_ hb3 | refine below_step ?_ hb4 | refine below_step ?_ hb5 | refine below_step ?_ hb6 | refine below_step ?_ hb7))).at_ (pow_at hk)
  have hten := ten_le hk
  have hu : Hid (ten (k : Int) = ((10 ^ k : Nat) : Int)) := by unfold Hid ten; rw [Int.toNat_natCast]; push_cast; rfl
  have hpos : 0 < 10 ^ k := Nat.pow_pos (by decide)
  generalize 10 ^ k = u at *
  have g1 := H.out.1
  have g2 := H.out.2.1
  have hk13 : (k : Int) < 13 := by omega
  have hk13' : k < 13 := by omega
  rcases Int.lt_or_le n 0 with hn | hn
  · obtain ⟨m, rfl⟩ : ∃ m : Nat, n = -(m : Int) := ⟨n.natAbs, by omega⟩
    have hq0 : 0 ≤ (m : Int) / (u : Int) := Int.ediv_nonneg (by omega) (by omega)
    have hq1 : (m : Int) / (u : Int) ≤ 999999999999999 := Int.le_trans (Int.ediv_le_self _ (by omega)) (by omega)
    have hr0 : 0 ≤ (m : Int) % (u : Int) := Int.emod_nonneg _ (by omega)
    have hr1 : (m : Int) % (u : Int) < u := Int.emod_lt_of_pos _ (by omega)
    have HE := hide (Int.mul_ediv_add_emod (m : Int) (u : Int))
    by_cases hr : 0 < (m : Int) % (u : Int)
    · have hd : decide (0 < (m : Int) % (u : Int)) = true := by simpa using hr
      have HD : Hid (-(m : Int) / (u : Int) = -((m : Int) / (u : Int)) - 1) := by
        refine ((Int.ediv_emod_unique (r := (u : Int) - (m : Int) % (u : Int)) (by omega)).2 ⟨?_, by omega, by omega⟩).1
        have := HE.out
        rw [Int.mul_sub, Int.mul_neg, Int.mul_one]
        omega
      go_wp2_with fail
      go_ret2
      refine ⟨?_, by repeat (first | (refine below_set ?_ ?hsz _; case hsz => (first | omega | (simp; done) | (simp; omega) | (have hs0 := hb.size; simp at hs0 ⊢; omega) | (have hs1 := hb1.size; simp at hs1 ⊢; omega) | (have hs1 := hb1.size; have hs2 := hb2.size; simp at hs1 hs2 ⊢; omega))) | exact Below.refl _ _ | refine below_alloc ?_ _ | refine below_drew ?_ | refine below_drewn ?_ _ | refine below_step ?_ hb | refine below_step ?_ hb0 | refine below_step ?_ hb1 | refine below_step ?_ hb2 | refine below_step ?_ hb3 | refine below_step ?_ hb4 | refine below_step ?_ hb5 | refine below_step ?_ hb6 | refine below_step ?_ hb7)⟩
      rw [hu.out, HD.out]
      rfl
    · have hd : decide (0 < (m : Int) % (u : Int)) = false := by simpa using hr
      have HD : Hid (-(m : Int) / (u : Int) = -((m : Int) / (u : Int))) := by
        refine ((Int.ediv_emod_unique (r := 0) (by omega)).2 ⟨?_, by omega, by omega⟩).1
        have := HE.out
        rw [Int.mul_neg]
        omega
      go_wp2_with fail
      go_ret2
      refine ⟨?_, by repeat (first | (refine below_set ?_ ?hsz _; case hsz => (first | omega | (simp; done) | (simp; omega) | (have hs0 := hb.size; simp at hs0 ⊢; omega) | (have hs1 := hb1.size; simp at hs1 ⊢; omega) | (have hs1 := hb1.size; have hs2 := hb2.size; simp at hs1 hs2 ⊢; omega))) | exact Below.refl _ _ | refine below_alloc ?_ _ | refine below_drew ?_ | refine below_drewn ?_ _ | refine below_step ?_ hb | refine below_step ?_ hb0 | refine below_step ?_ hb1 | refine below_step ?_ hb2 | refine below_step ?_ hb3 | refine below_step ?_ hb4 | refine below_step ?_ hb5 | refine below_step ?_ hb6 | refine below_step ?_ hb7)⟩
      rw [hu.out, HD.out]
      rfl
  · obtain ⟨m, rfl⟩ : ∃ m : Nat, n = (m : Int) := ⟨n.natAbs, by omega⟩
    have hr0 : 0 ≤ (m : Int) % (u : Int) := Int.emod_nonneg _ (by omega)
    have hd : decide ((m : Int) % (u : Int) < 0) = false := by simp; omega
    have hq0 : 0 ≤ (m : Int) / (u : Int) := Int.ediv_nonneg (by omega) (by omega)
    have hq1 : (m : Int) / (u : Int) ≤ 999999999999999 := Int.le_trans (Int.ediv_le_self _ (by omega)) (by omega)
    go_wp2_with fail
    go_ret2
    refine ⟨?_, by repeat (first | (refine below_set ?_ ?hsz _; case hsz => (first | omega | (simp; done) | (simp; omega) | (have hs0 := hb.size; simp at hs0 ⊢; omega) | (have hs1 := hb1.size; simp at hs1 ⊢; omega) | (have hs1 := hb1.size; have hs2 := hb2.size; simp at hs1 hs2 ⊢; omega))) | exact Below.refl _ _ | refine below_alloc ?_ _ | refine below_drew ?_ | refine below_drewn ?_ _ | refine below_step ?_ hb | refine below_step ?_ hb0 | refine below_step ?_ hb1 | refine below_step ?_ hb2 | refine below_step ?_ hb3 | refine below_step ?_ hb4 | refine below_step ?_ hb5 | refine below_step ?_ hb6 | refine below_step ?_ hb7)⟩
    rw [hu.out]
    rfl
end Go.Proofs.YtgppimdakafniaaDoor
