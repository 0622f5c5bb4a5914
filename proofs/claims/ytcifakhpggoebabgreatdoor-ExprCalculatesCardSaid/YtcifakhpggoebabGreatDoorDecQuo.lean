/- What Div and Round return for all arguments. Condition: the table of the powers of ten holds what the program's text lays. -/
import Derived.Test.YtcifakhpggoebabGreatDoorDecQuoB
namespace Go.Proofs.YtcifakhpggoebabGreatDoor
open Go Go.RowKit Go.PlainAid

/-- what Div comes to -/
def DivPost (a sa b sb c : Int) (w : World) (e : Ending) (w' : World) : Prop := ∃ n t x : Int, e = .returned (.tuple #[(.agg #[.int .i64 (n), .int .i64 (t)]), .int .i64 x]) ∧ DivOut a sa b sb c n t x ∧ Below w.heap.size w w'
/-- what Round comes to -/
def RndPost (a sa c : Int) (w : World) (e : Ending) (w' : World) : Prop := ∃ n t x : Int, e = .returned (.tuple #[(.agg #[.int .i64 (n), .int .i64 (t)]), .int .i64 x]) ∧ RndOut a sa c n t x ∧ Below w.heap.size w w'

theorem signed_pos (v : Nat) (W : World) (hv : (v : Int) ≤ 999999999999999) :
    Calls Tryz.prog 31 #[(.agg #[.int .u64 (0), .int .u64 ((v : Int))]), .bool false] W fun e w' => e = .returned (.agg #[.int .u64 ((hiN (v : Int) : Int)), .int .u64 ((loN (v : Int) : Int))]) ∧ Below W.heap.size W w' := by
  have := signed_no (v : Int) W
  rw [hi_small (z := (v : Int)) (by omega) (by omega), lo_small (z := (v : Int)) (by omega) (by omega)] at this
  rw [hi_small (z := (v : Int)) (by omega) (by omega), lo_small (z := (v : Int)) (by omega) (by omega)]; exact this
theorem signed_min (v : Nat) (W : World) (hv : (v : Int) ≤ 999999999999999) :
    Calls Tryz.prog 31 #[(.agg #[.int .u64 (0), .int .u64 ((v : Int))]), .bool true] W fun e w' => e = .returned (.agg #[.int .u64 ((hiN (-(v : Int)) : Int)), .int .u64 ((loN (-(v : Int)) : Int))]) ∧ Below W.heap.size W w' := by
  have := signed_yes (v : Int) W
  rw [hi_small (z := (v : Int)) (by omega) (by omega), lo_small (z := (v : Int)) (by omega) (by omega)] at this
  exact this
theorem signed_sg (v : Nat) (a b : Int) (u t : Bool) (hu : decide (a < 0) = u) (ht : decide (b < 0) = t) (hv : (v : Int) ≤ 999999999999999) (W : World) :
    Calls Tryz.prog 31 #[(.agg #[.int .u64 (0), .int .u64 ((v : Int))]), .bool (u != t)] W fun e w' => e = .returned (.agg #[.int .u64 ((hiN (sg a b * (v : Int)) : Int)), .int .u64 ((loN (sg a b * (v : Int)) : Int))]) ∧ Below W.heap.size W w' := by
  unfold sg
  rw [hu, ht]
  cases u <;> cases t
  · rw [if_pos rfl, Int.one_mul]; exact signed_pos v W hv
  · rw [if_neg (by decide), Int.neg_mul, Int.one_mul]; exact signed_min v W hv
  · rw [if_neg (by decide), Int.neg_mul, Int.one_mul]; exact signed_min v W hv
  · rw [if_pos rfl, Int.one_mul]; exact signed_pos v W hv
theorem sg_fits (a b : Int) (v : Nat) (hv : (v : Int) ≤ 999999999999999) : Fits (sg a b * (v : Int)) := by
  unfold Fits sg
  split <;> omega
theorem sg_big (a b : Int) (v : Nat) (hv : 999999999999999 < (v : Int)) : ¬ Small (sg a b * (v : Int)) := by
  unfold Small sg
  intro hs
  split at hs <;> omega

set_option maxHeartbeats 16000000 in
theorem div_ok (a sa b sb c : Int) (w : World) (hP : Pows w) (hb : Both a sa b sb) (c0 : 0 ≤ c) (c1 : c ≤ 12) (hb0 : b ≠ 0) :
    Calls Tryz.prog 11 #[(.agg #[.int .i64 (a), .int .i64 (sa)]), (.agg #[.int .i64 (b), .int .i64 (sb)]), .int .i64 c] w (DivPost a sa b sb c w) := by
  have PH := hide hP
  have hlt := hP.lt
  clear hP
  have HB := hide hb
  have HB0 := hide hb0
  obtain ⟨⟨a1, a2, a3, a4⟩, b1, b2, b3, b4⟩ := hb
  have q0 : (b == 0) = false := by simpa using hb0
  have w1 : IntKind.i64.wrap (sb + c) = sb + c := IntWalk.i64_in _ (by omega)
  have w2 : IntKind.i64.wrap (sb + c - sa) = sb + c - sa := IntWalk.i64_in _ (by omega)
  have w3 : Pows w → ∀ W, Below w.heap.size w W → Calls Tryz.prog 29 #[.int .u64 (a.natAbs : Int), .int .u64 (b.natAbs : Int), .int .i64 (sb + c - sa)] W (QuoPost a.natAbs b.natAbs (sb + c - sa) W) := fun h W hW => quot_any _ _ _ W (h.below hW) (by omega) (by omega) (by omega) (by omega) (by omega)
  have MA : Hid (∀ W, Calls Tryz.prog 30 #[.int .i64 a] W fun e w' => e = .returned (.int .u64 (a.natAbs : Int)) ∧ w' = W) := hide fun W => magnitude_q a W a1 a2
  have M1 : Hid (∀ W, Calls Tryz.prog 30 #[.int .i64 b] W fun e w' => e = .returned (.int .u64 (b.natAbs : Int)) ∧ w' = W) := hide fun W => magnitude_q b W b1 b2
  have QQ := hide (w3 PH.out)
  obtain ⟨v, hv⟩ : ∃ v, v = quoV a.natAbs b.natAbs (sb + c - sa) := ⟨_, rfl⟩
  obtain ⟨o, hbb⟩ : ∃ o, o = quoB a.natAbs b.natAbs (sb + c - sa) := ⟨_, rfl⟩
  have HV := hide hv
  have HBB := hide hbb
  unfold QuoPost at QQ
  rw [← hv, ← hbb] at QQ
  generalize hm : a.natAbs = m at *
  generalize hm2 : b.natAbs = m2 at *
  have HM := hide hm
  have HM2 := hide hm2
  clear w3 hv hbb hm hm2 hb0
  cases o with
  | true =>
    have hvq : Hid (v = quoN m m2 (sb + c - sa)) := hide (by rw [HV.out]; exact quoV_yes HBB.out.symm)
    have hvm : (v : Int) ≤ 999999999999999 := by
      have := of_decide_eq_true HBB.out.symm
      rw [← hvq.out] at this
      exact this
    have SG := hide fun u t hu ht W => signed_sg v a b u t hu ht hvm W
    have FT := hide (sg_fits a b v hvm)
    cases na : decide (a < 0) <;> cases nb : decide (b < 0)
    all_goals
      have SS := hide (SG.out _ _ na nb)
      go_enter Tryz.func11, Tryz.ntmps11
      go_wp2_with fail
      refine (both_ok _ _ _ _ _ HB.out).mono ?_
      rintro e w1 ⟨rfl, hb1⟩
      obtain ⟨hc1, hf1⟩ := bcell hb1
      have z1 : w.heap.size + 1 + 1 < w1.heap.size := by have := hb1.size; simp at this; omega
      have r0w : w1.cell? ⟨w.heap.size + 1 + 1, 0, none⟩ = some (.int .i64 0) := by rw [hc1 _ _ (by simp)]; simp [go_sem]
      have r1w : w1.cell? ⟨w.heap.size + 1 + 1, 1, none⟩ = some (.int .i64 0) := by rw [hc1 _ _ (by simp)]; simp [go_sem]
      have f0w : w1.frozen? ⟨w.heap.size + 1 + 1, 0, none⟩ = false := by rw [hf1 _ _ (by simp)]; simp [go_sem]
      have f1w : w1.frozen? ⟨w.heap.size + 1 + 1, 1, none⟩ = false := by rw [hf1 _ _ (by simp)]; simp [go_sem]
      have P1 := hide (show Below w.heap.size w w1 by repeat (first | (refine below_set ?_ ?hsz _; case hsz => (first | omega | (simp; done) | (simp; omega) | (have hs0 := hb.size; simp at hs0 ⊢; omega) | (have hs1 := hb1.size; simp at hs1 ⊢; omega) | (have hs1 := hb1.size; have hs2 := hb2.size; simp at hs1 hs2 ⊢; omega))) | exact Below.refl _ _ | refine below_alloc ?_ _ | refine below_drew ?_ | refine below_drewn ?_ _ | refine below_step ?_ hb | refine below_step ?_ hb0 | refine below_step ?_ hb1 | refine below_step ?_ hb2 | refine below_step ?_ hb3 | refine below_step ?_ hb4 | refine below_step ?_ hb5 | refine below_step ?_ hb6 | refine below_step ?_ hb7))
      have B0w := P1.out
      go_wp2_with fail
      refine (scale_yes _ _ c0 c1).mono ?_
      rintro e w' ⟨rfl, rfl⟩
      go_wp2_with fail
      go_quiet ((first | (go_at_call 30; with_reducible exact Calls.quiet_of_same (MA.out _)) | (go_at_call 30; with_reducible exact Calls.quiet_of_same (M1.out _)) | (go_at_call 29; with_reducible exact quiet_ex (QQ.out _ (below_drewN P1.out _)))))
      go_wp2_with fail
      refine (SS.out _).mono ?_
      rintro e w2 ⟨rfl, hb2⟩
      go_wp2_with fail
      refine (number_any _ _ _ FT.out).mono ?_
      rintro e w5 ⟨n, t, x, rfl, hN, hb5⟩
      have HN := hide hN
      clear hN
      have hW : Below w1.heap.size w1 w5 := by repeat (first | (refine below_set ?_ ?hsz _; case hsz => (first | omega | (simp; done) | (simp; omega) | (have hs0 := hb.size; simp at hs0 ⊢; omega) | (have hs1 := hb1.size; simp at hs1 ⊢; omega) | (have hs1 := hb1.size; have hs2 := hb2.size; simp at hs1 hs2 ⊢; omega))) | exact Below.refl _ _ | refine below_alloc ?_ _ | refine below_drew ?_ | refine below_drewn ?_ _ | refine below_step ?_ hb | refine below_step ?_ hb0 | refine below_step ?_ hb1 | refine below_step ?_ hb2 | refine below_step ?_ hb3 | refine below_step ?_ hb4 | refine below_step ?_ hb5 | refine below_step ?_ hb6 | refine below_step ?_ hb7)
      have r0 := (hW.cell (p := ⟨w.heap.size + 1 + 1, 0, none⟩) z1).trans r0w
      have r1 := (hW.cell (p := ⟨w.heap.size + 1 + 1, 1, none⟩) z1).trans r1w
      have f0 := (hW.frozen (p := ⟨w.heap.size + 1 + 1, 0, none⟩) z1).trans f0w
      have f1 := (hW.frozen (p := ⟨w.heap.size + 1 + 1, 1, none⟩) z1).trans f1w
      go_wp2_with fail
      exact bodyPost_ret (v := .tuple #[(.agg #[.int .i64 (n), .int .i64 (t)]), .int .i64 x]) (by simp [results, Tryz.results11, go_sem, r0, r1]) rfl ⟨n, t, x, rfl, .inl ⟨HB.out, c0, c1, HB0.out, by
        rw [HM.out, HM2.out, ← hvq.out]
        exact HN.out⟩, (below_step P1.out hW).setCell (by simp; omega) _ |>.setCell (by simp; omega) _⟩
  | false =>
    have hbig : Hid (999999999999999 < (quoN m m2 (sb + c - sa) : Int)) := hide (by
      have := of_decide_eq_false HBB.out.symm
      omega)
    go_enter Tryz.func11, Tryz.ntmps11
    go_wp2_with fail
    refine (both_ok _ _ _ _ _ HB.out).mono ?_
    rintro e w1 ⟨rfl, hb1⟩
    obtain ⟨hc1, hf1⟩ := bcell hb1
    have z1 : w.heap.size + 1 + 1 < w1.heap.size := by have := hb1.size; simp at this; omega
    have r0w : w1.cell? ⟨w.heap.size + 1 + 1, 0, none⟩ = some (.int .i64 0) := by rw [hc1 _ _ (by simp)]; simp [go_sem]
    have r1w : w1.cell? ⟨w.heap.size + 1 + 1, 1, none⟩ = some (.int .i64 0) := by rw [hc1 _ _ (by simp)]; simp [go_sem]
    have f0w : w1.frozen? ⟨w.heap.size + 1 + 1, 0, none⟩ = false := by rw [hf1 _ _ (by simp)]; simp [go_sem]
    have f1w : w1.frozen? ⟨w.heap.size + 1 + 1, 1, none⟩ = false := by rw [hf1 _ _ (by simp)]; simp [go_sem]
    have P1 := hide (show Below w.heap.size w w1 by repeat (first | (refine below_set ?_ ?hsz _; case hsz => (first | omega | (simp; done) | (simp; omega) | (have hs0 := hb.size; simp at hs0 ⊢; omega) | (have hs1 := hb1.size; simp at hs1 ⊢; omega) | (have hs1 := hb1.size; have hs2 := hb2.size; simp at hs1 hs2 ⊢; omega))) | exact Below.refl _ _ | refine below_alloc ?_ _ | refine below_drew ?_ | refine below_drewn ?_ _ | refine below_step ?_ hb | refine below_step ?_ hb0 | refine below_step ?_ hb1 | refine below_step ?_ hb2 | refine below_step ?_ hb3 | refine below_step ?_ hb4 | refine below_step ?_ hb5 | refine below_step ?_ hb6 | refine below_step ?_ hb7))
    have B0w := P1.out
    go_wp2_with fail
    refine (scale_yes _ _ c0 c1).mono ?_
    rintro e w' ⟨rfl, rfl⟩
    go_wp2_with fail
    go_quiet ((first | (go_at_call 30; with_reducible exact Calls.quiet_of_same (MA.out _)) | (go_at_call 30; with_reducible exact Calls.quiet_of_same (M1.out _)) | (go_at_call 29; with_reducible exact quiet_ex (QQ.out _ (below_drewN P1.out _)))))
    have hBx := below_drewN P1.out
    go_wp2_with fail
    exact bodyPost_ret (v := .tuple #[(.agg #[.int .i64 (0), .int .i64 (0)]), .int .i64 14]) (by simp [results, Tryz.results11, go_sem, r0w, r1w]) rfl ⟨0, 0, 14, rfl, .inl ⟨HB.out, c0, c1, HB0.out, .inr ⟨by
      rw [HM.out, HM2.out]
      exact sg_big a b _ hbig.out, rfl, rfl, rfl⟩⟩, ((hBx _).setCell (by simp; omega) _).setCell (by simp; omega) _⟩

set_option maxHeartbeats 8000000 in
theorem div_bad (a sa b sb c : Int) (w : World) (h : ¬ (Both a sa b sb ∧ 0 ≤ c ∧ c ≤ 12 ∧ b ≠ 0)) :
    Calls Tryz.prog 11 #[(.agg #[.int .i64 (a), .int .i64 (sa)]), (.agg #[.int .i64 (b), .int .i64 (sb)]), .int .i64 c] w (DivPost a sa b sb c w) := by
  by_cases hb : Both a sa b sb
  · have HB := hide hb
    by_cases hc : 0 ≤ c ∧ c ≤ 12
    · have hb0 : b = 0 := Classical.byContradiction fun h0 => h ⟨hb, hc.1, hc.2, h0⟩
      subst hb0
      obtain ⟨c0, c1⟩ := hc
      clear h hb
      go_enter Tryz.func11, Tryz.ntmps11
      go_wp2_with fail
      refine (both_ok _ _ _ _ _ HB.out).mono ?_
      rintro e w1 ⟨rfl, hb1⟩
      obtain ⟨hc1, hf1⟩ := bcell hb1
      have z0 : w.heap.size + 1 < w1.heap.size := by have := hb1.size; simp at this; omega
      have b0w : w1.cell? ⟨w.heap.size + 1, 0, none⟩ = some (.int .i64 0) := by rw [hc1 _ _ (by simp)]; simp [go_sem]
      have z1 : w.heap.size + 1 + 1 < w1.heap.size := by have := hb1.size; simp at this; omega
      have r0w : w1.cell? ⟨w.heap.size + 1 + 1, 0, none⟩ = some (.int .i64 0) := by rw [hc1 _ _ (by simp)]; simp [go_sem]
      have r1w : w1.cell? ⟨w.heap.size + 1 + 1, 1, none⟩ = some (.int .i64 0) := by rw [hc1 _ _ (by simp)]; simp [go_sem]
      have f0w : w1.frozen? ⟨w.heap.size + 1 + 1, 0, none⟩ = false := by rw [hf1 _ _ (by simp)]; simp [go_sem]
      have f1w : w1.frozen? ⟨w.heap.size + 1 + 1, 1, none⟩ = false := by rw [hf1 _ _ (by simp)]; simp [go_sem]
      have P1 : Below w.heap.size w w1 := by repeat (first | (refine below_set ?_ ?hsz _; case hsz => (first | omega | (simp; done) | (simp; omega) | (have hs0 := hb.size; simp at hs0 ⊢; omega) | (have hs1 := hb1.size; simp at hs1 ⊢; omega) | (have hs1 := hb1.size; have hs2 := hb2.size; simp at hs1 hs2 ⊢; omega))) | exact Below.refl _ _ | refine below_alloc ?_ _ | refine below_drew ?_ | refine below_drewn ?_ _ | refine below_step ?_ hb | refine below_step ?_ hb0 | refine below_step ?_ hb1 | refine below_step ?_ hb2 | refine below_step ?_ hb3 | refine below_step ?_ hb4 | refine below_step ?_ hb5 | refine below_step ?_ hb6 | refine below_step ?_ hb7)
      clear hc1 hf1 hb1
      go_wp2_with fail
      refine (scale_yes _ _ c0 c1).mono ?_
      rintro e w' ⟨rfl, rfl⟩
      go_wp2_with fail
      exact bodyPost_ret (v := .tuple #[(.agg #[.int .i64 (0), .int .i64 (0)]), .int .i64 15]) (by simp [results, Tryz.results11, go_sem, r0w, r1w]) rfl ⟨0, 0, 15, rfl, .inr (.inl ⟨HB.out, c0, c1, rfl, rfl, rfl, rfl⟩), (P1.setCell (by simp; omega) _).setCell (by simp; omega) _⟩
    · have HC : Hid (¬ (Both a sa b sb ∧ 0 ≤ c ∧ c ≤ 12)) := hide fun h => hc h.2
      have HC2 := hide hc
      clear hc hb h
      go_enter Tryz.func11, Tryz.ntmps11
      go_wp2_with fail
      refine (both_ok _ _ _ _ _ HB.out).mono ?_
      rintro e w1 ⟨rfl, hb1⟩
      obtain ⟨hc1, hf1⟩ := bcell hb1
      have z1 : w.heap.size + 1 + 1 < w1.heap.size := by have := hb1.size; simp at this; omega
      have r0w : w1.cell? ⟨w.heap.size + 1 + 1, 0, none⟩ = some (.int .i64 0) := by rw [hc1 _ _ (by simp)]; simp [go_sem]
      have r1w : w1.cell? ⟨w.heap.size + 1 + 1, 1, none⟩ = some (.int .i64 0) := by rw [hc1 _ _ (by simp)]; simp [go_sem]
      have f0w : w1.frozen? ⟨w.heap.size + 1 + 1, 0, none⟩ = false := by rw [hf1 _ _ (by simp)]; simp [go_sem]
      have f1w : w1.frozen? ⟨w.heap.size + 1 + 1, 1, none⟩ = false := by rw [hf1 _ _ (by simp)]; simp [go_sem]
      have P1 : Below w.heap.size w w1 := by repeat (first | (refine below_set ?_ ?hsz _; case hsz => (first | omega | (simp; done) | (simp; omega) | (have hs0 := hb.size; simp at hs0 ⊢; omega) | (have hs1 := hb1.size; simp at hs1 ⊢; omega) | (have hs1 := hb1.size; have hs2 := hb2.size; simp at hs1 hs2 ⊢; omega))) | exact Below.refl _ _ | refine below_alloc ?_ _ | refine below_drew ?_ | refine below_drewn ?_ _ | refine below_step ?_ hb | refine below_step ?_ hb0 | refine below_step ?_ hb1 | refine below_step ?_ hb2 | refine below_step ?_ hb3 | refine below_step ?_ hb4 | refine below_step ?_ hb5 | refine below_step ?_ hb6 | refine below_step ?_ hb7)
      clear hc1 hf1 hb1
      go_wp2_with fail
      refine (scale_no _ _ HC2.out).mono ?_
      rintro e w' ⟨rfl, rfl⟩
      go_wp2_with fail
      exact bodyPost_ret (v := .tuple #[(.agg #[.int .i64 (0), .int .i64 (0)]), .int .i64 2]) (by simp [results, Tryz.results11, go_sem, r0w, r1w]) rfl ⟨0, 0, 2, rfl, .inr (.inr ⟨HC.out, rfl, rfl, rfl⟩), (P1.setCell (by simp; omega) _).setCell (by simp; omega) _⟩
  · have HB := hide hb
    clear hb h
    go_enter Tryz.func11, Tryz.ntmps11
    go_wp2_with fail
    refine (both_no _ _ _ _ _ HB.out).mono ?_
    rintro e w1 ⟨rfl, hb1⟩
    obtain ⟨hc1, hf1⟩ := bcell hb1
    have z1 : w.heap.size + 1 + 1 < w1.heap.size := by have := hb1.size; simp at this; omega
    have r0w : w1.cell? ⟨w.heap.size + 1 + 1, 0, none⟩ = some (.int .i64 0) := by rw [hc1 _ _ (by simp)]; simp [go_sem]
    have r1w : w1.cell? ⟨w.heap.size + 1 + 1, 1, none⟩ = some (.int .i64 0) := by rw [hc1 _ _ (by simp)]; simp [go_sem]
    have f0w : w1.frozen? ⟨w.heap.size + 1 + 1, 0, none⟩ = false := by rw [hf1 _ _ (by simp)]; simp [go_sem]
    have f1w : w1.frozen? ⟨w.heap.size + 1 + 1, 1, none⟩ = false := by rw [hf1 _ _ (by simp)]; simp [go_sem]
    have P1 : Below w.heap.size w w1 := by repeat (first | (refine below_set ?_ ?hsz _; case hsz => (first | omega | (simp; done) | (simp; omega) | (have hs0 := hb.size; simp at hs0 ⊢; omega) | (have hs1 := hb1.size; simp at hs1 ⊢; omega) | (have hs1 := hb1.size; have hs2 := hb2.size; simp at hs1 hs2 ⊢; omega))) | exact Below.refl _ _ | refine below_alloc ?_ _ | refine below_drew ?_ | refine below_drewn ?_ _ | refine below_step ?_ hb | refine below_step ?_ hb0 | refine below_step ?_ hb1 | refine below_step ?_ hb2 | refine below_step ?_ hb3 | refine below_step ?_ hb4 | refine below_step ?_ hb5 | refine below_step ?_ hb6 | refine below_step ?_ hb7)
    clear hc1 hf1 hb1
    go_wp2_with fail
    exact bodyPost_ret (v := .tuple #[(.agg #[.int .i64 (0), .int .i64 (0)]), .int .i64 2]) (by simp [results, Tryz.results11, go_sem, r0w, r1w]) rfl ⟨0, 0, 2, rfl, .inr (.inr ⟨fun h => HB.out h.1, rfl, rfl, rfl⟩), (P1.setCell (by simp; omega) _).setCell (by simp; omega) _⟩

theorem div_any (a sa b sb c : Int) (w : World) (hP : Pows w) :
    Calls Tryz.prog 11 #[(.agg #[.int .i64 (a), .int .i64 (sa)]), (.agg #[.int .i64 (b), .int .i64 (sb)]), .int .i64 c] w (DivPost a sa b sb c w) := by
  by_cases h : Both a sa b sb ∧ 0 ≤ c ∧ c ≤ 12 ∧ b ≠ 0
  · exact div_ok a sa b sb c w hP h.1 h.2.1 h.2.2.1 h.2.2.2
  · exact div_bad a sa b sb c w h
theorem div_one (a sa c : Int) (w : World) (hP : Pows w) :
    Calls Tryz.prog 11 #[(.agg #[.int .i64 (a), .int .i64 (sa)]), (.agg #[.int .i64 (1), .int .i64 (0)]), .int .i64 c] w (RndPost a sa c w) := div_any a sa 1 0 c w hP

set_option maxHeartbeats 2000000 in
theorem round_any (a sa c : Int) (w : World) (hP : Pows w) :
    Calls Tryz.prog 96 #[(.agg #[.int .i64 (a), .int .i64 (sa)]), .int .i64 c] w (RndPost a sa c w) := by
  have PH := hide hP
  clear hP
  go_enter Tryz.func96, Tryz.ntmps96
  go_wp2_with fail
  refine (div_one a sa c _ (PH.out.below (below2 _ _ _))).mono ?_
  rintro e w1 ⟨n, t, x, rfl, hN, hb1⟩
  have HN := hide hN
  clear hN
  obtain ⟨hc1, hf1⟩ := bcell hb1
  have z1 : w.heap.size + 1 < w1.heap.size := by have := hb1.size; simp at this; omega
  have r0w : w1.cell? ⟨w.heap.size + 1, 0, none⟩ = some (.int .i64 0) := by rw [hc1 _ _ (by simp)]; simp [go_sem]
  have r1w : w1.cell? ⟨w.heap.size + 1, 1, none⟩ = some (.int .i64 0) := by rw [hc1 _ _ (by simp)]; simp [go_sem]
  have f0w : w1.frozen? ⟨w.heap.size + 1, 0, none⟩ = false := by rw [hf1 _ _ (by simp)]; simp [go_sem]
  have f1w : w1.frozen? ⟨w.heap.size + 1, 1, none⟩ = false := by rw [hf1 _ _ (by simp)]; simp [go_sem]
  have P1 : Below w.heap.size w w1 := by repeat (first | (refine below_set ?_ ?hsz _; case hsz => (first | omega | (simp; done) | (simp; omega) | (have hs0 := hb.size; simp at hs0 ⊢; omega) | (have hs1 := hb1.size; simp at hs1 ⊢; omega) | (have hs1 := hb1.size; have hs2 := hb2.size; simp at hs1 hs2 ⊢; omega))) | exact Below.refl _ _ | refine below_alloc ?_ _ | refine below_drew ?_ | refine below_drewn ?_ _ | refine below_step ?_ hb | refine below_step ?_ hb0 | refine below_step ?_ hb1 | refine below_step ?_ hb2 | refine below_step ?_ hb3 | refine below_step ?_ hb4 | refine below_step ?_ hb5 | refine below_step ?_ hb6 | refine below_step ?_ hb7)
  clear hc1 hf1 hb1
  go_wp2_with fail
  exact bodyPost_ret (v := .tuple #[(.agg #[.int .i64 (n), .int .i64 (t)]), .int .i64 x]) (by simp [results, Tryz.results96, go_sem, r0w, r1w]) rfl ⟨n, t, x, rfl, HN.out, (P1.setCell (by simp) _).setCell (by simp) _⟩
end Go.Proofs.YtcifakhpggoebabGreatDoor
