/- The reference's Fit. Condition: bounds. -/
import Derived.Test.YtgppimdakafniaaDoorDecU
namespace Go.Proofs.YtgppimdakafniaaDoor
open Go Go.RowKit Go.PlainAid

set_option maxHeartbeats 4000000 in
theorem fit_p (m : Nat) (s : Int) (A : Option Addr) (c : Nat) (w : World) (hr : Row w A (digs m)) (hl : (digs m).length ≤ 15) (hs : s ≤ 12) :
    Calls Tryd.prog 48 #[.agg #[.int .i64 1, .slice A (digs m).length c], .int .i64 s] w fun e w' => e = .returned (.tuple #[(.agg #[.int .i64 ((m : Int)), .int .i64 (s)]), .int .i64 0]) ∧ Below w.heap.size w w' := by
  have RH := hide hr
  have hm : Hid (V (dg (digs m)) (digs m).length = (m : Int)) := digs_V m
  have DR := hide (digs_range m)
  have hm15 : Hid ((m : Int) ≤ 999999999999999) := by
    have h1 := digs_lt m
    have h2 : 10 ^ (digs m).length ≤ 10 ^ 15 := Nat.pow_le_pow_right (by decide) hl
    have e : (10 : Nat) ^ 15 = 1000000000000000 := by decide
    unfold Hid
    omega
  obtain ⟨l, hl'⟩ : ∃ l, l = digs m := ⟨_, rfl⟩
  rw [← hl'] at RH hm DR hl ⊢
  clear hr hl'
  go_enter Tryd.func48, Tryd.ntmps48
  go_wp2_with fail
  go_loop [6, 7] (fun n i => ∃ (v x : Int), -1 ≤ x ∧ x < l.length ∧ 0 ≤ v ∧ v ≤ 999999999999999 ∧ n = .int .i64 v ∧ i = .int .i64 x ∧ Hid (v * 10 ^ (x + 1).toNat + V (dg l) (x + 1).toNat = (m : Int))) (fun _ i => (intOf i + 1).toNat)
  case atStart => exact ⟨0, _, by omega, by omega, by decide, by decide, rfl, rfl, by unfold Hid; rw [← hm.out, Int.zero_mul, Int.zero_add, show ((l.length : Int) - 1 + 1).toNat = l.length by omega]⟩
  case round =>
    obtain ⟨v, x, hx0, hx1, hv0, hv1, rfl, rfl, hv⟩ := hrel
    by_cases h0 : 0 ≤ x
    · obtain ⟨i, rfl⟩ : ∃ i : Nat, x = i := ⟨x.toNat, by omega⟩
      obtain ⟨g, off, hA, hg, hcl⟩ := RH.out (by omega)
      have hcell := hcl i (by omega)
      obtain ⟨d0, d1⟩ := dg_range DR.out i
      have hstep : Hid ((10 * v + dg l i) * 10 ^ i + V (dg l) i = (m : Int)) := by
        have := hv.out
        rw [show ((i : Int) + 1).toNat = i + 1 by omega, V, p10_succ] at this
        unfold Hid
        rw [Int.add_mul, Int.mul_comm 10 v, Int.mul_assoc]
        omega
      have hb : 10 * v + dg l i ≤ 999999999999999 := by
        have h1 := hstep.out
        have h2 := V_nonneg (f := dg l) (n := i) fun j _ => (dg_range DR.out j).1
        have h3 : (10 * v + dg l i) * 1 ≤ (10 * v + dg l i) * 10 ^ i := Int.mul_le_mul_of_nonneg_left (p10_pos i) (by omega)
        have h4 := hm15.out
        omega
      subst hA
      clear hcl
      generalize dg l i = d at *
      go_wp2_with fail
      go_round
      case rel => exact ⟨10 * v + d, (i : Int) - 1, by omega, by omega, by omega, hb, rfl, rfl, by have := hstep.out; rw [show ((i : Int) - 1 + 1).toNat = i by omega]; exact this⟩
      case measure => simp [intOf]
    · obtain rfl : x = -1 := by omega
      have hvm : v = (m : Int) := by have := hv.out; simpa [V] using this
      have HV := hide hvm
      clear hvm
      go_wp2_with fail
      exact bodyPost_ret (v := .tuple #[(.agg #[.int .i64 ((m : Int)), .int .i64 (s)]), .int .i64 0]) (by simp [results, Tryd.results48, go_sem, HV.out]) rfl ⟨rfl, by repeat (first | (refine below_set ?_ ?hsz _; case hsz => (first | omega | (simp; done) | (simp; omega) | (have hs0 := hb.size; simp at hs0 ⊢; omega) | (have hs1 := hb1.size; simp at hs1 ⊢; omega) | (have hs1 := hb1.size; have hs2 := hb2.size; simp at hs1 hs2 ⊢; omega))) | exact Below.refl _ _ | refine below_alloc ?_ _ | refine below_drew ?_ | refine below_drewn ?_ _ | refine below_step ?_ hb | refine below_step ?_ hb0 | refine below_step ?_ hb1 | refine below_step ?_ hb2 | refine below_step ?_ hb3 | refine below_step ?_ hb4 | refine below_step ?_ hb5 | refine below_step ?_ hb6 | refine below_step ?_ hb7)⟩

set_option maxHeartbeats 4000000 in
theorem fit_m (m : Nat) (s : Int) (A : Option Addr) (c : Nat) (w : World) (hr : Row w A (digs m)) (hl : (digs m).length ≤ 15) (hs : s ≤ 12) :
    Calls Tryd.prog 48 #[.agg #[.int .i64 (-1), .slice A (digs m).length c], .int .i64 s] w fun e w' => e = .returned (.tuple #[(.agg #[.int .i64 (-(m : Int)), .int .i64 (s)]), .int .i64 0]) ∧ Below w.heap.size w w' := by
  have RH := hide hr
  have hm : Hid (V (dg (digs m)) (digs m).length = (m : Int)) := digs_V m
  have DR := hide (digs_range m)
  have hm15 : Hid ((m : Int) ≤ 999999999999999) := by
    have h1 := digs_lt m
    have h2 : 10 ^ (digs m).length ≤ 10 ^ 15 := Nat.pow_le_pow_right (by decide) hl
    have e : (10 : Nat) ^ 15 = 1000000000000000 := by decide
    unfold Hid
    omega
  obtain ⟨l, hl'⟩ : ∃ l, l = digs m := ⟨_, rfl⟩
  rw [← hl'] at RH hm DR hl ⊢
  clear hr hl'
  go_enter Tryd.func48, Tryd.ntmps48
  go_wp2_with fail
  go_loop [6, 7] (fun n i => ∃ (v x : Int), -1 ≤ x ∧ x < l.length ∧ 0 ≤ v ∧ v ≤ 999999999999999 ∧ n = .int .i64 v ∧ i = .int .i64 x ∧ Hid (v * 10 ^ (x + 1).toNat + V (dg l) (x + 1).toNat = (m : Int))) (fun _ i => (intOf i + 1).toNat)
  case atStart => exact ⟨0, _, by omega, by omega, by decide, by decide, rfl, rfl, by unfold Hid; rw [← hm.out, Int.zero_mul, Int.zero_add, show ((l.length : Int) - 1 + 1).toNat = l.length by omega]⟩
  case round =>
    obtain ⟨v, x, hx0, hx1, hv0, hv1, rfl, rfl, hv⟩ := hrel
    by_cases h0 : 0 ≤ x
    · obtain ⟨i, rfl⟩ : ∃ i : Nat, x = i := ⟨x.toNat, by omega⟩
      obtain ⟨g, off, hA, hg, hcl⟩ := RH.out (by omega)
      have hcell := hcl i (by omega)
      obtain ⟨d0, d1⟩ := dg_range DR.out i
      have hstep : Hid ((10 * v + dg l i) * 10 ^ i + V (dg l) i = (m : Int)) := by
        have := hv.out
        rw [show ((i : Int) + 1).toNat = i + 1 by omega, V, p10_succ] at this
        unfold Hid
        rw [Int.add_mul, Int.mul_comm 10 v, Int.mul_assoc]
        omega
      have hb : 10 * v + dg l i ≤ 999999999999999 := by
        have h1 := hstep.out
        have h2 := V_nonneg (f := dg l) (n := i) fun j _ => (dg_range DR.out j).1
        have h3 : (10 * v + dg l i) * 1 ≤ (10 * v + dg l i) * 10 ^ i := Int.mul_le_mul_of_nonneg_left (p10_pos i) (by omega)
        have h4 := hm15.out
        omega
      subst hA
      clear hcl
      generalize dg l i = d at *
      go_wp2_with fail
      go_round
      case rel => exact ⟨10 * v + d, (i : Int) - 1, by omega, by omega, by omega, hb, rfl, rfl, by have := hstep.out; rw [show ((i : Int) - 1 + 1).toNat = i by omega]; exact this⟩
      case measure => simp [intOf]
    · obtain rfl : x = -1 := by omega
      have hvm : v = (m : Int) := by have := hv.out; simpa [V] using this
      have HV := hide hvm
      clear hvm
      go_wp2_with fail
      exact bodyPost_ret (v := .tuple #[(.agg #[.int .i64 (-(m : Int)), .int .i64 (s)]), .int .i64 0]) (by simp [results, Tryd.results48, go_sem, HV.out]) rfl ⟨rfl, by repeat (first | (refine below_set ?_ ?hsz _; case hsz => (first | omega | (simp; done) | (simp; omega) | (have hs0 := hb.size; simp at hs0 ⊢; omega) | (have hs1 := hb1.size; simp at hs1 ⊢; omega) | (have hs1 := hb1.size; have hs2 := hb2.size; simp at hs1 hs2 ⊢; omega))) | exact Below.refl _ _ | refine below_alloc ?_ _ | refine below_drew ?_ | refine below_drewn ?_ _ | refine below_step ?_ hb | refine below_step ?_ hb0 | refine below_step ?_ hb1 | refine below_step ?_ hb2 | refine below_step ?_ hb3 | refine below_step ?_ hb4 | refine below_step ?_ hb5 | refine below_step ?_ hb6 | refine below_step ?_ hb7)⟩

set_option maxHeartbeats 4000000 in
theorem fit_z (m : Nat) (s : Int) (A : Option Addr) (c : Nat) (w : World) (hr : Row w A (digs m)) (hl : (digs m).length ≤ 15) (hs : s ≤ 12) :
    Calls Tryd.prog 48 #[.agg #[.int .i64 0, .slice A (digs m).length c], .int .i64 s] w fun e w' => e = .returned (.tuple #[(.agg #[.int .i64 (0), .int .i64 (s)]), .int .i64 0]) ∧ Below w.heap.size w w' := by
  have RH := hide hr
  have hm : Hid (V (dg (digs m)) (digs m).length = (m : Int)) := digs_V m
  have DR := hide (digs_range m)
  have hm15 : Hid ((m : Int) ≤ 999999999999999) := by
    have h1 := digs_lt m
    have h2 : 10 ^ (digs m).length ≤ 10 ^ 15 := Nat.pow_le_pow_right (by decide) hl
    have e : (10 : Nat) ^ 15 = 1000000000000000 := by decide
    unfold Hid
    omega
  obtain ⟨l, hl'⟩ : ∃ l, l = digs m := ⟨_, rfl⟩
  rw [← hl'] at RH hm DR hl ⊢
  clear hr hl'
  go_enter Tryd.func48, Tryd.ntmps48
  go_wp2_with fail
  go_loop [6, 7] (fun n i => ∃ (v x : Int), -1 ≤ x ∧ x < l.length ∧ 0 ≤ v ∧ v ≤ 999999999999999 ∧ n = .int .i64 v ∧ i = .int .i64 x ∧ Hid (v * 10 ^ (x + 1).toNat + V (dg l) (x + 1).toNat = (m : Int))) (fun _ i => (intOf i + 1).toNat)
  case atStart => exact ⟨0, _, by omega, by omega, by decide, by decide, rfl, rfl, by unfold Hid; rw [← hm.out, Int.zero_mul, Int.zero_add, show ((l.length : Int) - 1 + 1).toNat = l.length by omega]⟩
  case round =>
    obtain ⟨v, x, hx0, hx1, hv0, hv1, rfl, rfl, hv⟩ := hrel
    by_cases h0 : 0 ≤ x
    · obtain ⟨i, rfl⟩ : ∃ i : Nat, x = i := ⟨x.toNat, by omega⟩
      obtain ⟨g, off, hA, hg, hcl⟩ := RH.out (by omega)
      have hcell := hcl i (by omega)
      obtain ⟨d0, d1⟩ := dg_range DR.out i
      have hstep : Hid ((10 * v + dg l i) * 10 ^ i + V (dg l) i = (m : Int)) := by
        have := hv.out
        rw [show ((i : Int) + 1).toNat = i + 1 by omega, V, p10_succ] at this
        unfold Hid
        rw [Int.add_mul, Int.mul_comm 10 v, Int.mul_assoc]
        omega
      have hb : 10 * v + dg l i ≤ 999999999999999 := by
        have h1 := hstep.out
        have h2 := V_nonneg (f := dg l) (n := i) fun j _ => (dg_range DR.out j).1
        have h3 : (10 * v + dg l i) * 1 ≤ (10 * v + dg l i) * 10 ^ i := Int.mul_le_mul_of_nonneg_left (p10_pos i) (by omega)
        have h4 := hm15.out
        omega
      subst hA
      clear hcl
      generalize dg l i = d at *
      go_wp2_with fail
      go_round
      case rel => exact ⟨10 * v + d, (i : Int) - 1, by omega, by omega, by omega, hb, rfl, rfl, by have := hstep.out; rw [show ((i : Int) - 1 + 1).toNat = i by omega]; exact this⟩
      case measure => simp [intOf]
    · obtain rfl : x = -1 := by omega
      have hvm : v = (m : Int) := by have := hv.out; simpa [V] using this
      have HV := hide hvm
      clear hvm
      go_wp2_with fail
      exact bodyPost_ret (v := .tuple #[(.agg #[.int .i64 (0), .int .i64 (s)]), .int .i64 0]) (by simp [results, Tryd.results48, go_sem, HV.out]) rfl ⟨rfl, by repeat (first | (refine below_set ?_ ?hsz _; case hsz => (first | omega | (simp; done) | (simp; omega) | (have hs0 := hb.size; simp at hs0 ⊢; omega) | (have hs1 := hb1.size; simp at hs1 ⊢; omega) | (have hs1 := hb1.size; have hs2 := hb2.size; simp at hs1 hs2 ⊢; omega))) | exact Below.refl _ _ | refine below_alloc ?_ _ | refine below_drew ?_ | refine below_drewn ?_ _ | refine below_step ?_ hb | refine below_step ?_ hb0 | refine below_step ?_ hb1 | refine below_step ?_ hb2 | refine below_step ?_ hb3 | refine below_step ?_ hb4 | refine below_step ?_ hb5 | refine below_step ?_ hb6 | refine below_step ?_ hb7)⟩

set_option maxHeartbeats 1000000 in
theorem fit_scale (sg s : Int) (A : Option Addr) (n c : Nat) (w : World) (hs : 12 < s) :
    Calls Tryd.prog 48 #[.agg #[.int .i64 sg, .slice A n c], .int .i64 s] w fun e w' => e = .returned (.tuple #[(.agg #[.int .i64 (0), .int .i64 (0)]), .int .i64 14]) ∧ Below w.heap.size w w' := by
  have q : decide (12 < s) = true := by simpa using hs
  go_enter Tryd.func48, Tryd.ntmps48
  go_wp2_with fail
  exact bodyPost_ret (v := .tuple #[(.agg #[.int .i64 (0), .int .i64 (0)]), .int .i64 14]) (by simp [results, Tryd.results48, go_sem]) rfl ⟨rfl, by repeat (first | (refine below_set ?_ ?hsz _; case hsz => (first | omega | (simp; done) | (simp; omega) | (have hs0 := hb.size; simp at hs0 ⊢; omega) | (have hs1 := hb1.size; simp at hs1 ⊢; omega) | (have hs1 := hb1.size; have hs2 := hb2.size; simp at hs1 hs2 ⊢; omega))) | exact Below.refl _ _ | refine below_alloc ?_ _ | refine below_drew ?_ | refine below_drewn ?_ _ | refine below_step ?_ hb | refine below_step ?_ hb0 | refine below_step ?_ hb1 | refine below_step ?_ hb2 | refine below_step ?_ hb3 | refine below_step ?_ hb4 | refine below_step ?_ hb5 | refine below_step ?_ hb6 | refine below_step ?_ hb7)⟩
set_option maxHeartbeats 1000000 in
theorem fit_long (sg s : Int) (A : Option Addr) (n c : Nat) (w : World) (hs : s ≤ 12) (hn : 15 < n) :
    Calls Tryd.prog 48 #[.agg #[.int .i64 sg, .slice A n c], .int .i64 s] w fun e w' => e = .returned (.tuple #[(.agg #[.int .i64 (0), .int .i64 (0)]), .int .i64 14]) ∧ Below w.heap.size w w' := by
  have q : decide (12 < s) = false := by simpa using hs
  have q2 : decide (15 < n) = true := by simpa using hn
  have q3 : decide ((15 : Int) < (n : Int)) = true := by simp; omega
  go_enter Tryd.func48, Tryd.ntmps48
  go_wp2_with fail
  exact bodyPost_ret (v := .tuple #[(.agg #[.int .i64 (0), .int .i64 (0)]), .int .i64 14]) (by simp [results, Tryd.results48, go_sem]) rfl ⟨rfl, by repeat (first | (refine below_set ?_ ?hsz _; case hsz => (first | omega | (simp; done) | (simp; omega) | (have hs0 := hb.size; simp at hs0 ⊢; omega) | (have hs1 := hb1.size; simp at hs1 ⊢; omega) | (have hs1 := hb1.size; have hs2 := hb2.size; simp at hs1 hs2 ⊢; omega))) | exact Below.refl _ _ | refine below_alloc ?_ _ | refine below_drew ?_ | refine below_drewn ?_ _ | refine below_step ?_ hb | refine below_step ?_ hb0 | refine below_step ?_ hb1 | refine below_step ?_ hb2 | refine below_step ?_ hb3 | refine below_step ?_ hb4 | refine below_step ?_ hb5 | refine below_step ?_ hb6 | refine below_step ?_ hb7)⟩

/-- what Fit comes to -/
def FitPost (z s : Int) (w : World) (e : Ending) (w' : World) : Prop :=
  ∃ n t x : Int, e = .returned (.tuple #[(.agg #[.int .i64 (n), .int .i64 (t)]), .int .i64 x]) ∧ ((s ≤ 12 ∧ NumOut z s n t x) ∨ (12 < s ∧ n = 0 ∧ t = 0 ∧ x = 14)) ∧ Below w.heap.size w w'
theorem small_digs (z : Int) : Small z ↔ (digs z.natAbs).length ≤ 15 := by
  have e : (10 : Nat) ^ 15 = 1000000000000000 := by decide
  constructor
  · intro h
    exact digs_len (by unfold Small at h; omega)
  · intro h
    have h1 := digs_lt z.natAbs
    have h2 : 10 ^ (digs z.natAbs).length ≤ 10 ^ 15 := Nat.pow_le_pow_right (by decide) h
    unfold Small
    omega
theorem fit_any (z s : Int) (A : Option Addr) (c : Nat) (w : World) (hr : Row w A (digs z.natAbs)) :
    Calls Tryd.prog 48 #[.agg #[.int .i64 (sgn z), .slice A (digs z.natAbs).length c], .int .i64 s] w (FitPost z s w) := by
  by_cases hs : s ≤ 12
  · by_cases hz : (digs z.natAbs).length ≤ 15
    · have hS := (small_digs z).2 hz
      rcases sgn_cases z with ⟨h1, h2⟩ | ⟨h1, h2⟩ | ⟨h1, h2⟩
      · rw [h2]
        refine (fit_m z.natAbs s A c w hr hz hs).mono ?_
        rintro e w' ⟨rfl, hb⟩
        exact ⟨_, _, _, rfl, .inl ⟨hs, .inl ⟨hS, by omega, rfl, rfl⟩⟩, hb⟩
      · rw [h2]
        refine (fit_z z.natAbs s A c w hr hz hs).mono ?_
        rintro e w' ⟨rfl, hb⟩
        exact ⟨_, _, _, rfl, .inl ⟨hs, .inl ⟨hS, by omega, rfl, rfl⟩⟩, hb⟩
      · rw [h2]
        refine (fit_p z.natAbs s A c w hr hz hs).mono ?_
        rintro e w' ⟨rfl, hb⟩
        exact ⟨_, _, _, rfl, .inl ⟨hs, .inl ⟨hS, by omega, rfl, rfl⟩⟩, hb⟩
    · refine (fit_long _ s A _ c w hs (by omega)).mono ?_
      rintro e w' ⟨rfl, hb⟩
      exact ⟨_, _, _, rfl, .inl ⟨hs, .inr ⟨fun g => hz ((small_digs z).1 g), rfl, rfl, rfl⟩⟩, hb⟩
  · refine (fit_scale _ s A _ c w (by omega)).mono ?_
    rintro e w' ⟨rfl, hb⟩
    exact ⟨_, _, _, rfl, .inr ⟨by omega, rfl, rfl, rfl⟩, hb⟩
end Go.Proofs.YtgppimdakafniaaDoor
