/- The reference's Nearest. Condition: at most 900 digits each; the divisor is greater than 0. -/
import Derived.Test.YtgppimdakafniaaDoorDecNearA
import Derived.Deep.Light
namespace Go.Proofs.YtgppimdakafniaaDoor
open Go Go.RowKit Go.PlainAid

set_option maxRecDepth 100000 in
set_option maxHeartbeats 64000000 in
theorem nearest_any (z : Int) (b : Nat) (A B : Option Addr) (ca cb : Nat) (w : World) (ha : Row w A (digs z.natAbs)) (hb : Row w B (digs b)) (la : (digs z.natAbs).length ≤ 900) (lb : (digs b).length ≤ 900) (hb0 : 0 < b) (_lcb : (digs b).length ≤ cb) (_mcb : cb ≤ maxLen) :
    Calls Tryd.prog 54 #[.agg #[.int .i64 (sgn z), .slice A (digs z.natAbs).length ca], .agg #[.int .i64 (sgn (b : Int)), .slice B (digs b).length cb]] w (SumIs (if z < 0 then -(he z.natAbs b : Int) else (he z.natAbs b : Int)) w) := by
  obtain ⟨Z, hZ⟩ : ∃ Z, Z = (if z < 0 then -(he z.natAbs b : Int) else (he z.natAbs b : Int)) := ⟨_, rfl⟩
  rw [← hZ]
  obtain ⟨X, hX⟩ : ∃ X, X = z.natAbs := ⟨_, rfl⟩
  rw [← hX] at ha la hZ ⊢
  have HZ := hide hZ
  clear hZ
  have RA := hide ha
  have RB := hide hb
  have LB := hide lb
  obtain ⟨n, hn⟩ : ∃ n, n = (digs X).length := ⟨_, rfl⟩
  rw [← hn] at la ⊢
  have N := hide hn
  have hmk := run_make_row' (P := Tryd.prog) 40 3 (.int .i64 0) 8 Tryd.underlying40 (by kernel_rfl) rfl .i64 .i64 n (by omega) (by omega)
  have hs1 : IntKind.i64.wrap ((n : Int) - 1) = (n : Int) - 1 := IntWalk.i64_in _ (by omega)
  clear hn hX ha hb lb
  go_enter Tryd.func54, Tryd.ntmps54
  go_wp2_with fail
  clear hmk hs1
  go_loopg [7] n (fun gk i wr => ∃ (l : List Int) (t : Nat) (x : Int), gk ≤ n ∧ i = .int .i64 x ∧ x = (gk : Int) - 1 ∧ l.length = n ∧ Nearing w wr (w.heap.size + 1 + 1 + 1 + 1 + 1) (w.heap.size + 1 + 1 + 1 + 1) #[.int .i64 (sgn z), .slice A n ca] #[.int .i64 (sgn (b : Int)), .slice B (digs b).length cb] t l ∧ Hid (t = X / 10 ^ gk % b) ∧ Hid (V (dg l) n = ((X / 10 ^ gk / b : Nat) : Int) * 10 ^ gk) ∧ Hid (∀ j, 0 ≤ dg l j ∧ dg l j ≤ 9 ∧ (j < gk → dg l j = 0)))
  case atStart =>
    have hz : X / 10 ^ n = 0 := by rw [N.out]; exact lt_p10_digs X
    refine ⟨List.replicate n 0, 0, _, Nat.le_refl _, rfl, rfl, List.length_replicate, ⟨by omega, by omega, by omega, ?_, ?_, ?_, ?_, ?_, ⟨none, 0, ?_, ?_, Nat.zero_le _, ?_, fun _ x hx => by cases hx⟩, below_alloc (below_alloc (below_alloc (below_alloc (below2 _ _ _) _) _) _) _⟩, ?_, ?_, fun j => by rw [dg_zeros]; omega⟩
    · exact Holds.alloc (Holds.alloc (Holds.alloc (Holds.alloc (Holds.alloc (show Holds _ _ _ _ from heap_alloc_new w _) _) _) _) _) _
    · exact Holds.alloc (Holds.alloc (Holds.alloc (Holds.alloc (holds_new1 w _ _ _) _) _) _) _
    · exact Holds.alloc (Holds.alloc (Holds.alloc (holds_new2 w _ _ _ _) _) _) _
    · rw [List.length_replicate]; exact holds_new5 w _ _ _ _ _ _ _
    · rw [← made_ints]; exact Holds.alloc (holds_new4 w _ _ _ _ _ _) _
    · rw [show (digs 0).length = 0 by rw [digs_zero]; rfl]; exact Holds.alloc (Holds.alloc (holds_new3 w _ _ _ _ _) _) _
    · rw [digs_zero]; exact Nat.le_refl 0
    · exact row_nil0 _
    · unfold Hid; rw [hz, Nat.zero_mod]
    · unfold Hid; rw [hz, V_zeros, Nat.zero_div]; simp
  case round =>
    obtain ⟨l, t, x, hk, rfl, hx, hl, hT, ht, hV, hD⟩ := hrel
    rcases Nat.eq_zero_or_pos gk with h0 | h0
    · subst h0
      obtain rfl : x = -1 := by omega
      clear hx
      have htq : t = X % b := by have := ht.out; rwa [Nat.pow_zero, Nat.div_one] at this
      obtain ⟨qq, hqq⟩ : ∃ q, q = X / b := ⟨_, rfl⟩
      have hVq : V (dg l) n = ((qq : Nat) : Int) := by
        have := hV.out
        rw [Nat.pow_zero, Nat.div_one, ← hqq] at this
        rw [this]; simp
      have htb : t < b := by rw [htq]; exact Nat.mod_lt _ hb0
      have lt4 : (digs t).length ≤ 1000 := by
        have h1 := digs_len_mul (t := t) (b := b) (by omega)
        have h2 := LB.out
        omega
      have lt5 : (digs (t + t)).length ≤ 1000 := by
        have h1 := digs_len_mul (t := t + t) (b := b) (by omega)
        have h2 := LB.out
        omega
      have QL : Hid ((digs qq).length ≤ 1000) := hide (by
        have h1 := digs_len (n := qq) (k := (digs X).length) (Nat.lt_of_le_of_lt (by rw [hqq]; exact Nat.div_le_self _ _) (digs_lt X))
        have h2 := N.out
        omega)
      have QL2 : Hid ((digs qq).length ≤ n) := hide (by
        have h1 := digs_len (n := qq) (k := (digs X).length) (Nat.lt_of_le_of_lt (by rw [hqq]; exact Nat.div_le_self _ _) (digs_lt X))
        have h2 := N.out
        omega)
      obtain ⟨q1, hq1⟩ : ∃ q1, q1 = qq + 1 := ⟨_, rfl⟩
      have Q1 := hide hq1
      clear hq1
      have OL : Hid ((digs 1).length ≤ 1000) := hide (by
        have := digs_len (n := 1) (k := 1) (by decide)
        omega)
      obtain ⟨o, ho⟩ : ∃ o : Bool, o = decide (qq % 2 = 1) := ⟨_, rfl⟩
      have par : n ≠ 0 → (dg l 0) % 2 = ((qq % 2 : Nat) : Int) := fun hn => by
        obtain ⟨n', hn'⟩ : ∃ n', n = n' + 1 := ⟨n - 1, by omega⟩
        have := V_parity (dg l) n'
        rw [← hn', hVq] at this
        omega
      have zer : n = 0 → qq = 0 := fun hn => by
        rw [hn] at hVq
        have : (0 : Int) = (qq : Int) := hVq
        omega
      obtain ⟨g1, g2, g3, g4, g5, g6, g7, g8, ⟨P, cp, hR, p1, p2, p3, p4⟩, g9⟩ := id hT
      have TT := hide hT
      have r0 : wr.cell? ⟨w.heap.size + 1 + 1 + 1, 0, none⟩ = some (.int .i64 (sgn (t : Int))) := (hR.cell 0).trans rfl
      have r1 : wr.cell? ⟨w.heap.size + 1 + 1 + 1, 1, none⟩ = some (.slice P (digs t).length cp) := (hR.cell 1).trans rfl
      have b0 : wr.cell? ⟨w.heap.size + 1, 0, none⟩ = some (.int .i64 (sgn (b : Int))) := (g5.cell 0).trans rfl
      have b1 : wr.cell? ⟨w.heap.size + 1, 1, none⟩ = some (.slice B (digs b).length cb) := (g5.cell 1).trans rfl
      have lR : w.heap.size + 1 + 1 + 1 < wr.heap.size := hR.lt
      have lB : w.heap.size + 1 < wr.heap.size := g5.lt
      have P3 := hide p3
      have RBW := hide (RB.out.below g9)
      obtain ⟨tt, htt⟩ : ∃ s, s = t + t := ⟨_, rfl⟩
      rw [← htt] at lt5
      obtain ⟨sv, hsv⟩ : ∃ s, s = sgn ((tt : Int) - (b : Int)) := ⟨_, rfl⟩
      have AB : Hid (∀ (Q : Option Addr) (cq : Nat) W, Row W Q (digs tt) → Row W B (digs b) → Calls Tryd.prog 55 #[.agg #[.int .i64 (sgn (tt : Int)), .slice Q (digs tt).length cq], .agg #[.int .i64 (sgn (b : Int)), .slice B (digs b).length cb]] W fun e w' => e = .returned (.int .i64 sv) ∧ Below W.heap.size W w') := hide fun Q cq W h1 h2 => by rw [hsv]; exact above_nat tt b _ _ Q B cq cb W h1 h2 lt5 (by have := LB.out; omega)
      have PL : Hid (∀ W, Row W P (digs t) → Calls Tryd.prog 30 #[.agg #[.int .i64 (sgn (t : Int)), .slice P (digs t).length cp], .agg #[.int .i64 (sgn (t : Int)), .slice P (digs t).length cp]] W fun e w' => ∃ (Q : Option Addr) (cq : Nat), e = .returned (.agg #[.int .i64 (sgn (tt : Int)), .slice Q (digs tt).length cq]) ∧ Row w' Q (digs tt) ∧ Below W.heap.size W w') := hide fun W h => by
        rw [htt]
        exact (plus_loc t t P P cp cp W h h lt4 lt4 p1 p1 p2 p2).mono fun e w' ⟨Q, cq, h1, _, _, h4, _, h6⟩ => ⟨Q, cq, h1, h4, h6⟩
      have PQ : Hid (∀ (P' B6 : Option Addr) (cp' c6 : Nat) (W : World), Row W P' (digs qq) → Row W B6 (digs 1) → (digs qq).length ≤ cp' → (digs 1).length ≤ c6 → cp' ≤ maxLen → c6 ≤ maxLen → Calls Tryd.prog 30 #[.agg #[.int .i64 (sgn (qq : Int)), .slice P' (digs qq).length cp'], .agg #[.int .i64 (sgn 1), .slice B6 (digs 1).length c6]] W fun e w' => ∃ (Q : Option Addr) (cq : Nat), e = .returned (.agg #[.int .i64 (sgn (q1 : Int)), .slice Q (digs q1).length cq]) ∧ (digs q1).length ≤ cq ∧ cq ≤ maxLen ∧ Row w' Q (digs q1) ∧ (Loc W.heap.size w'.heap.size Q (digs q1).length ∨ (Q = P' ∧ (digs q1).length = (digs qq).length) ∨ (Q = B6 ∧ (digs q1).length = (digs 1).length)) ∧ Below W.heap.size W w') := hide fun P' B6 cp' c6 W h1 h2 h3 h4 h5 h6 => by
        rw [Q1.out]
        exact plus_loc qq 1 P' B6 cp' c6 W h1 h2 QL.out OL.out h3 h4 h5 h6
      have HTT := hide htt
      have HSV := hide hsv
      have HO := hide ho
      have HQQ := hide hqq
      have HVQ := hide hVq
      have HT := hide htq
      have PAR := hide par
      have ZER := hide zer
      clear hT g1 g2 g3 g4 g5 g6 g7 g8 g9 hR p3 p4 lt4 lt5 htt hsv ho hqq hVq htq par zer p1 p2 hk
      go_upto_region 12 with fail
      go_cut [8] (fun s8 w0 => ∃ wx : World, wx = w0 ∧ s8 = .int .i64 sv ∧ Nearing w wx (w.heap.size + 1 + 1 + 1 + 1 + 1) (w.heap.size + 1 + 1 + 1 + 1) #[.int .i64 (sgn z), .slice A n ca] #[.int .i64 (sgn (b : Int)), .slice B (digs b).length cb] t l)
      case first =>
        go_region_held3 (fun w' => w'.cell? ⟨w.heap.size + 1 + 1 + 1, 0, none⟩ = some (.int .i64 (sgn (t : Int))) ∧ w'.cell? ⟨w.heap.size + 1 + 1 + 1, 1, none⟩ = some (.slice P (digs t).length cp) ∧ w'.cell? ⟨w.heap.size + 1, 0, none⟩ = some (.int .i64 (sgn (b : Int))) ∧ w'.cell? ⟨w.heap.size + 1, 1, none⟩ = some (.slice B (digs b).length cb) ∧ Below wr.heap.size wr w')
          ((refine keep4 ?_ lR r0 lR r1 lB b0 lB b1; repeat (first | (refine below_set ?_ ?hsz _; case hsz => (first | omega | (simp; done) | (simp; omega) | (have hs0 := hb.size; simp at hs0 ⊢; omega) | (have hs1 := hb1.size; simp at hs1 ⊢; omega) | (have hs1 := hb1.size; have hs2 := hb2.size; simp at hs1 hs2 ⊢; omega))) | exact Below.refl _ _ | refine below_alloc ?_ _ | refine below_drew ?_ | refine below_drewn ?_ _ | refine below_step ?_ hb | refine below_step ?_ hb0 | refine below_step ?_ hb1 | refine below_step ?_ hb2 | refine below_step ?_ hb3 | refine below_step ?_ hb4 | refine below_step ?_ hb5 | refine below_step ?_ hb6 | refine below_step ?_ hb7)))
          (first
          | (go_at_call 30; (with_reducible refine (PL.out _ ?_).mono ?_); (exact P3.out.below (by repeat (first | (refine below_set ?_ ?hsz _; case hsz => (first | omega | (simp; done) | (simp; omega) | (have hs0 := hb.size; simp at hs0 ⊢; omega) | (have hs1 := hb1.size; simp at hs1 ⊢; omega) | (have hs1 := hb1.size; have hs2 := hb2.size; simp at hs1 hs2 ⊢; omega))) | exact Below.refl _ _ | refine below_alloc ?_ _ | refine below_drew ?_ | refine below_drewn ?_ _ | refine below_step ?_ hb | refine below_step ?_ hb0 | refine below_step ?_ hb1 | refine below_step ?_ hb2 | refine below_step ?_ hb3 | refine below_step ?_ hb4 | refine below_step ?_ hb5 | refine below_step ?_ hb6 | refine below_step ?_ hb7))); rintro e w2 ⟨Q, cq, rfl, rq, hb2⟩; have RQ := hide rq; clear rq)
          | (go_at_call 55; (with_reducible refine (AB.out Q cq _ ?_ ?_).mono ?_); (first | exact RQ.out | exact RQ.out.below (by repeat (first | (refine below_set ?_ ?hsz _; case hsz => (first | omega | (simp; done) | (simp; omega) | (have hs0 := hb.size; simp at hs0 ⊢; omega) | (have hs1 := hb1.size; simp at hs1 ⊢; omega) | (have hs1 := hb1.size; have hs2 := hb2.size; simp at hs1 hs2 ⊢; omega))) | exact Below.refl _ _ | refine below_alloc ?_ _ | refine below_drew ?_ | refine below_drewn ?_ _ | refine below_step ?_ hb | refine below_step ?_ hb0 | refine below_step ?_ hb1 | refine below_step ?_ hb2 | refine below_step ?_ hb3 | refine below_step ?_ hb4 | refine below_step ?_ hb5 | refine below_step ?_ hb6 | refine below_step ?_ hb7))); (exact RBW.out.below (by repeat (first | (refine below_set ?_ ?hsz _; case hsz => (first | omega | (simp; done) | (simp; omega) | (have hs0 := hb.size; simp at hs0 ⊢; omega) | (have hs1 := hb1.size; simp at hs1 ⊢; omega) | (have hs1 := hb1.size; have hs2 := hb2.size; simp at hs1 hs2 ⊢; omega))) | exact Below.refl _ _ | refine below_alloc ?_ _ | refine below_drew ?_ | refine below_drewn ?_ _ | refine below_step ?_ hb | refine below_step ?_ hb0 | refine below_step ?_ hb1 | refine below_step ?_ hb2 | refine below_step ?_ hb3 | refine below_step ?_ hb4 | refine below_step ?_ hb5 | refine below_step ?_ hb6 | refine below_step ?_ hb7))); rintro e w3 ⟨rfl, hb3⟩))
        all_goals (have B3 : Below wr.heap.size wr w3 := (by repeat (first | (refine below_set ?_ ?hsz _; case hsz => (first | omega | (simp; done) | (simp; omega) | (have hs0 := hb.size; simp at hs0 ⊢; omega) | (have hs1 := hb1.size; simp at hs1 ⊢; omega) | (have hs1 := hb1.size; have hs2 := hb2.size; simp at hs1 hs2 ⊢; omega))) | exact Below.refl _ _ | refine below_alloc ?_ _ | refine below_drew ?_ | refine below_drewn ?_ _ | refine below_step ?_ hb | refine below_step ?_ hb0 | refine below_step ?_ hb1 | refine below_step ?_ hb2 | refine below_step ?_ hb3 | refine below_step ?_ hb4 | refine below_step ?_ hb5 | refine below_step ?_ hb6 | refine below_step ?_ hb7)); have T3 := hide (TT.out.below B3); clear B3; go_wp2_with fail; go_meet; exact ⟨_, rfl, rfl, T3.out⟩)
      case rest =>
        obtain ⟨wx, hwx, hs8, hN⟩ := hcut
        subst hwx
        subst hs8
        obtain ⟨-, -, -, -, -, -, h7, h8, -, -⟩ := id hN
        have NN := hide hN
        have o0 : wx.cell? ⟨w.heap.size + 1 + 1 + 1 + 1 + 1, 0, none⟩ = some (.int .i64 1) := (h7.cell 0).trans rfl
        have o1 : wx.cell? ⟨w.heap.size + 1 + 1 + 1 + 1 + 1, 1, none⟩ = some (.slice (some ⟨w.heap.size + 1 + 1 + 1 + 1, 0, none⟩) n n) := by
          have := (h7.cell 1).trans (show _ = some (Value.slice (some ⟨w.heap.size + 1 + 1 + 1 + 1, 0, none⟩) l.length l.length) from rfl)
          rwa [hl] at this
        obtain ⟨d0, hd0⟩ : ∃ d, d = dg l 0 := ⟨_, rfl⟩
        have hd01 : 0 ≤ d0 := by rw [hd0]; exact (hD.out 0).1
        have od : n ≠ 0 → wx.cell? ⟨w.heap.size + 1 + 1 + 1 + 1, 0, none⟩ = some (.int .i64 d0) := fun hn => by
          rw [hd0]; exact (h8.cell 0).trans (ints_at (by omega))
        have HD0 := hide hd0
        have OD := hide od
        have H7 := hide h7
        have H8 := hide h8
        clear hN h7 h8 od hd0 TT r0 r1 b0 b1 lR lB P3 RBW AB PL
        go_upto_region 13 with fail
        go_cut [9] (fun s9 w0 => ∃ wy : World, wy = w0 ∧ s9 = .bool o ∧ wy = wx)
        case first =>
          by_cases hn : n = 0
          · have qn : decide ((0 : Int) < (n : Int)) = false := by simp; omega
            have qn' : decide (0 < n) = false := by simp; omega
            have ho : o = false := by rw [HO.out, ZER.out hn]; rfl
            subst ho
            have HN := hide hn
            clear hn
            go_wp2_with fail
            go_meet
            exact ⟨_, rfl, rfl, rfl⟩
          · have qn : decide ((0 : Int) < (n : Int)) = true := by simp; omega
            have qn' : decide (0 < n) = true := by simp; omega
            have i1 : (0 : Int) < (n : Int) := by omega
            have i2 : 0 < n := by omega
            have od := OD.out hn
            have pr := PAR.out hn
            rw [← HD0.out] at pr
            have tm : d0.tmod 2 = d0 % 2 := Int.tmod_eq_emod_of_nonneg hd01
            cases hoo : o with
            | true =>
              have : qq % 2 = 1 := of_decide_eq_true (by rw [← HO.out]; exact hoo)
              have qd : (d0 % 2 == 1) = true := by simp; omega
              have qe : d0 % 2 = 1 := by omega
              have HOO := hide hoo
              clear pr hn this hoo
              go_wp2_with fail
              go_meet
              exact ⟨_, rfl, congrArg Value.bool HOO.out.symm, rfl⟩
            | false =>
              have : ¬ qq % 2 = 1 := of_decide_eq_false (by rw [← HO.out]; exact hoo)
              have qe : d0 % 2 = 0 := by omega
              have HOO := hide hoo
              clear pr hn this hoo
              go_wp2_with fail
              go_meet
              exact ⟨_, rfl, congrArg Value.bool HOO.out.symm, rfl⟩
        case rest =>
          obtain ⟨wy, hwy, hs9, hwx⟩ := hcut
          subst hwy
          subst hs9
          obtain rfl : wx = wy := hwx.symm
          have f0 : wx.frozen? ⟨w.heap.size + 1 + 1 + 1 + 1 + 1, 0, none⟩ = false := H7.out.free 0
          have f1 : wx.frozen? ⟨w.heap.size + 1 + 1 + 1 + 1 + 1, 1, none⟩ = false := H7.out.free 1
          have TI : Hid (∀ W, Row W (some ⟨w.heap.size + 1 + 1 + 1 + 1, 0, none⟩) l → Calls Tryd.prog 57 #[.agg #[.int .i64 1, .slice (some ⟨w.heap.size + 1 + 1 + 1 + 1, 0, none⟩) n n]] W fun e w' => e = .returned (.agg #[.int .i64 (sgn (qq : Int)), .slice (some ⟨w.heap.size + 1 + 1 + 1 + 1, 0, none⟩) (digs qq).length n]) ∧ Row w' (some ⟨w.heap.size + 1 + 1 + 1 + 1, 0, none⟩) (digs qq) ∧ Below W.heap.size W w') := hide fun W h => by
            have := trim_is (some ⟨w.heap.size + 1 + 1 + 1 + 1, 0, none⟩) n qq l W h (by omega) (by unfold maxLen; omega) (range_of_dg fun j => ⟨(hD.out j).1, (hD.out j).2.1⟩) (by rw [hl]; exact HVQ.out)
            rw [hl] at this
            exact this.mono fun e w' ⟨h1, _, h3, h4⟩ => ⟨h1, h3, h4⟩
          have RL : Hid (Row wx (some ⟨w.heap.size + 1 + 1 + 1 + 1, 0, none⟩) l) := hide fun _ => ⟨w.heap.size + 1 + 1 + 1 + 1, 0, rfl, H8.out.lt, fun i hi => by rw [Nat.zero_add]; exact (H8.out.cell i).trans (ints_at hi)⟩
          go_upto_region 14 with fail
          go_cut [] (fun w0 => ∃ wz : World, wz = w0 ∧ OutAt w wz (w.heap.size + 1 + 1 + 1 + 1 + 1) #[.int .i64 (sgn z), .slice A n ca] qq)
          case first =>
            go_wp2_with fail
            refine (TI.out _ RL.out).mono ?_
            rintro e w4 ⟨rfl, rq, hb4⟩
            have R4 := H7.out.below hb4
            have y0 : w4.cell? ⟨w.heap.size + 1 + 1 + 1 + 1 + 1, 0, none⟩ = some (.int .i64 1) := (R4.cell 0).trans rfl
            have y1 : w4.cell? ⟨w.heap.size + 1 + 1 + 1 + 1 + 1, 1, none⟩ = some (.slice (some ⟨w.heap.size + 1 + 1 + 1 + 1, 0, none⟩) n n) := by
              have := (R4.cell 1).trans (show _ = some (Value.slice (some ⟨w.heap.size + 1 + 1 + 1 + 1, 0, none⟩) l.length l.length) from rfl)
              rwa [hl] at this
            have f0' : w4.frozen? ⟨w.heap.size + 1 + 1 + 1 + 1 + 1, 0, none⟩ = false := R4.free 0
            have f1' : w4.frozen? ⟨w.heap.size + 1 + 1 + 1 + 1 + 1, 1, none⟩ = false := R4.free 1
            have RQ := hide rq
            have B4 := hide hb4
            clear R4 rq hb4
            go_wp2_with fail
            go_meet
            have := NN.out.out B4.out (q := qq) (by rw [hl]; exact QL2.out) (by rw [hl]; unfold maxLen; omega) RQ.out
            rw [hl] at this
            exact ⟨_, rfl, this⟩
          case rest =>
            obtain ⟨wz, hwz, hO⟩ := hcut
            subst hwz
            have OO := hide hO
            clear hO o0 o1 f0 f1 TI RL H7 H8 OD NN
            obtain ⟨r, hr⟩ : ∃ r, r = he X b := ⟨_, rfl⟩
            obtain ⟨up, hup⟩ : ∃ up : Bool, up = decide (b < tt ∨ (tt = b ∧ qq % 2 = 1)) := ⟨_, rfl⟩
            have RT : Hid (up = true → r = q1) := hide fun h => by
              have h' := of_decide_eq_true (by rw [← hup]; exact h)
              rw [hr, Q1.out, HQQ.out]
              exact he_up hb0 (by rw [← HT.out, ← HQQ.out, ← HTT.out]; exact h')
            have RF : Hid (up = false → r = qq) := hide fun h => by
              have h' := of_decide_eq_false (by rw [← hup]; exact h)
              rw [hr, HQQ.out]
              exact he_down hb0 (by rw [← HT.out, ← HQQ.out, ← HTT.out]; exact h')
            have HRR := hide hr
            have HUP := hide hup
            clear hr hup
            go_upto_region 15 with fail
            go_cut [81] (fun s81 w0 => ∃ wv : World, wv = w0 ∧ s81 = .bool up ∧ wv = wz)
            case first =>
              rcases Nat.lt_trichotomy tt b with c | c | c
              · have hsv : sv = -1 := by rw [HSV.out]; exact sgn_of_neg (by omega)
                have hu : up = false := by rw [HUP.out]; exact decide_eq_false (by omega)
                subst hsv
                subst hu
                clear c
                go_wp2_with fail
                go_meet
                exact ⟨_, rfl, rfl, rfl⟩
              · have hsv : sv = 0 := by rw [HSV.out, c, Int.sub_self]; rfl
                subst hsv
                by_cases hoo : ¬ qq % 2 = 1
                · have : ¬ qq % 2 = 1 := hoo
                  have ho : o = false := by rw [HO.out]; exact decide_eq_false hoo
                  subst ho
                  have hu : up = false := by rw [HUP.out]; exact decide_eq_false (by omega)
                  subst hu
                  clear c this hoo
                  go_wp2_with fail
                  go_meet
                  exact ⟨_, rfl, rfl, rfl⟩
                · have : qq % 2 = 1 := by omega
                  have ho : o = true := by rw [HO.out]; exact decide_eq_true this
                  subst ho
                  have hu : up = true := by rw [HUP.out]; exact decide_eq_true (by omega)
                  subst hu
                  clear c this hoo
                  go_wp2_with fail
                  go_meet
                  exact ⟨_, rfl, rfl, rfl⟩
              · have hsv : sv = 1 := by rw [HSV.out]; exact sgn_pos (by omega)
                have hu : up = true := by rw [HUP.out]; exact decide_eq_true (by omega)
                subst hsv
                subst hu
                clear c
                go_wp2_with fail
                go_meet
                exact ⟨_, rfl, rfl, rfl⟩
            case rest =>
              obtain ⟨wv, hwv, hs81, hwz⟩ := hcut
              subst hwv
              subst hs81
              obtain rfl : wz = wv := hwz.symm
              go_upto_if 81 with fail
              go_cut [] (fun w0 => ∃ wE : World, wE = w0 ∧ OutAt w wE (w.heap.size + 1 + 1 + 1 + 1 + 1) #[.int .i64 (sgn z), .slice A n ca] r)
              case first =>
                cases hu : up with
                | false =>
                  have hr := RF.out hu
                  have O2 : Hid (OutAt w wz (w.heap.size + 1 + 1 + 1 + 1 + 1) #[.int .i64 (sgn z), .slice A n ca] r) := hide (by rw [hr]; exact OO.out)
                  clear hu hr
                  go_wp2_with fail
                  go_meet
                  exact ⟨_, rfl, O2.out⟩
                | true =>
                  have hr := hide (RT.out hu)
                  clear hu
                  obtain ⟨-, e2, e3, ⟨P', cp', e4, e5, e6, e7, e8⟩, e9⟩ := id OO.out
                  have g0 : wz.cell? ⟨w.heap.size + 1 + 1 + 1 + 1 + 1, 0, none⟩ = some (.int .i64 (sgn (qq : Int))) := (e4.cell 0).trans rfl
                  have g1 : wz.cell? ⟨w.heap.size + 1 + 1 + 1 + 1 + 1, 1, none⟩ = some (.slice P' (digs qq).length cp') := (e4.cell 1).trans rfl
                  have lg : w.heap.size + 1 + 1 + 1 + 1 + 1 < wz.heap.size := e4.lt
                  have H4 := hide e4
                  have E7 := hide e7
                  have E8 := hide e8
                  clear e2 e3 e4 e7 e8 e9
                  go_wp2_with fail
                  go_region_with (first
                      | (go_at_call 34; (with_reducible refine (one_nat _).mono ?_); rintro e w6 ⟨B6, c6, rfl, l6, m6, r6, f6, hb6⟩; have B6' : Hid (Below wz.heap.size wz w6) := hide (by first | exact hb6 | exact below_step (below_drew (Below.refl _ _)) hb6); have R6 := H4.out.below B6'.out; have v0 : w6.cell? ⟨w.heap.size + 1 + 1 + 1 + 1 + 1, 0, none⟩ = some (.int .i64 (sgn (qq : Int))) := (R6.cell 0).trans rfl; have v1 : w6.cell? ⟨w.heap.size + 1 + 1 + 1 + 1 + 1, 1, none⟩ = some (.slice P' (digs qq).length cp') := (R6.cell 1).trans rfl; have R16 := hide r6; have L6 := hide l6; have F6 : Hid (∀ x, B6 = some x → wz.heap.size ≤ x.block) := hide (fun x hx => f6 x hx); have W6 := hide (E7.out.below B6'.out); clear R6 r6 l6 f6 hb6)
                      | (go_at_call 30; (with_reducible refine (PQ.out P' B6 cp' c6 _ W6.out R16.out e5 L6.out e6 m6).mono ?_); rintro e w7 ⟨Q, cq, rfl, lq, lcq, rq, lo, hb7⟩; have B7 := hide (below_step B6'.out hb7); have R7 := H4.out.below B7.out; have y0 : w7.cell? ⟨w.heap.size + 1 + 1 + 1 + 1 + 1, 0, none⟩ = some (.int .i64 (sgn (qq : Int))) := (R7.cell 0).trans rfl; have y1 : w7.cell? ⟨w.heap.size + 1 + 1 + 1 + 1 + 1, 1, none⟩ = some (.slice P' (digs qq).length cp') := (R7.cell 1).trans rfl; have f0 : w7.frozen? ⟨w.heap.size + 1 + 1 + 1 + 1 + 1, 0, none⟩ = false := R7.free 0; have f1 : w7.frozen? ⟨w.heap.size + 1 + 1 + 1 + 1 + 1, 1, none⟩ = false := R7.free 1; have RQ := hide rq; have LQ := hide lq; have LO : Hid (0 < (digs q1).length → ∀ x, Q = some x → w.heap.size + 3 < x.block ∧ x.block ≠ w.heap.size + 1 + 1 + 1 + 1 + 1) := hide (fun h0 x hx => by
                          rcases lo with h | ⟨h, hn⟩ | ⟨h, hn⟩
                          · obtain ⟨g', off', ee, h1, h2⟩ := h h0
                            rw [hx] at ee
                            injection ee with ee
                            subst ee
                            have h3 : w6.heap.size ≤ g' := h1
                            have h4 := B6'.out.size
                            exact ⟨by show w.heap.size + 3 < g'; omega, by show g' ≠ _; omega⟩
                          · exact E8.out (by omega) x (by rw [← h, hx])
                          · have := F6.out x (by rw [← h, hx])
                            exact ⟨by omega, by omega⟩); clear R7 rq lq lo hb7))
                  all_goals (have O2 := hide (OO.out.next B7.out LQ.out lcq RQ.out LO.out); rw [← hr.out] at O2; go_wp2_with fail; go_meet; rw [← hr.out]; exact ⟨_, rfl, O2.out⟩)
              case rest =>
                obtain ⟨wE, hwE, hO⟩ := hcut
                subst hwE
                clear OO
                have OO := hide hO
                clear hO PQ HTT HSV HO HQQ HVQ HT PAR ZER RT RF HUP
                by_cases hz : z < 0
                · have q9 : decide (sgn z < 0) = true := by rw [sgn_of_neg hz]; rfl
                  have ZZ : Hid (Z = -((r : Nat) : Int)) := hide (by rw [HZ.out, if_pos hz, HRR.out])
                  clear hz HZ
                  go_step
                  go_light
                  generalize hff : Tryd.f54 = ff
                  obtain ⟨-, e2, e3, ⟨P', cp', e4, e5, e6, e7, e8⟩, e9⟩ := id OO.out
                  have va0 : wE.cell? ⟨w.heap.size, 0, none⟩ = some (.int .i64 (sgn z)) := (e2.cell 0).trans rfl
                  have g0 : wE.cell? ⟨w.heap.size + 1 + 1 + 1 + 1 + 1, 0, none⟩ = some (.int .i64 (sgn ((r : Nat) : Int))) := (e4.cell 0).trans rfl
                  have g1 : wE.cell? ⟨w.heap.size + 1 + 1 + 1 + 1 + 1, 1, none⟩ = some (.slice P' (digs r).length cp') := (e4.cell 1).trans rfl
                  have lg : w.heap.size + 1 + 1 + 1 + 1 + 1 < wE.heap.size := e4.lt
                  have E3 := hide e3
                  have E7 := hide e7
                  have E8 := hide e8
                  have E9 := hide e9
                  clear e2 e3 e4 e7 e8 e9
                  go_wp2_with fail
                  refine (minus_nat (r) P' cp' _).mono ?_
                  rintro e w8 ⟨rfl, hb8⟩
                  have R8 := E3.out.below hb8
                  have B8 := hide (below_step E9.out hb8)
                  have W8 := hide (E7.out.below hb8)
                  have y0 : w8.cell? ⟨w.heap.size + 1 + 1, 0, none⟩ = some (.int .i64 0) := (R8.cell 0).trans rfl
                  have y1 : w8.cell? ⟨w.heap.size + 1 + 1, 1, none⟩ = some (.slice none 0 0) := (R8.cell 1).trans rfl
                  have f0 : w8.frozen? ⟨w.heap.size + 1 + 1, 0, none⟩ = false := R8.free 0
                  have f1 : w8.frozen? ⟨w.heap.size + 1 + 1, 1, none⟩ = false := R8.free 1
                  clear R8 hb8
                  go_wp2_with fail
                  subst hff
                  refine bodyPost_ret (v := .agg #[.int .i64 (sgn (-((r : Nat) : Int))), .slice P' (digs r).length cp']) (by simp [results, Tryd.results54, go_sem, y0, y1]) rfl ?_
                  rw [ZZ.out]
                  refine ⟨P', cp', by rw [Int.natAbs_neg, Int.natAbs_natCast], by rw [Int.natAbs_neg, Int.natAbs_natCast]; exact e5, e6, ?_, (B8.out.setCell (by simp; omega) _).setCell (by simp; omega) _⟩
                  rw [Int.natAbs_neg, Int.natAbs_natCast]
                  exact (W8.out.far (fun h x hx => by have := (E8.out h x hx).1; show x.block ≠ w.heap.size + 2; omega) _ _).far (fun h x hx => by have := (E8.out h x hx).1; show x.block ≠ w.heap.size + 2; omega) _ _
                · have q9 : decide (sgn z < 0) = false := by unfold sgn; rw [if_neg hz]; split <;> rfl
                  have ZZ : Hid (Z = ((r : Nat) : Int)) := hide (by rw [HZ.out, if_neg hz, HRR.out])
                  clear hz HZ
                  go_step
                  go_light
                  generalize hff : Tryd.f54 = ff
                  obtain ⟨-, e2, e3, ⟨P', cp', e4, e5, e6, e7, e8⟩, e9⟩ := id OO.out
                  have va0 : wE.cell? ⟨w.heap.size, 0, none⟩ = some (.int .i64 (sgn z)) := (e2.cell 0).trans rfl
                  have g0 : wE.cell? ⟨w.heap.size + 1 + 1 + 1 + 1 + 1, 0, none⟩ = some (.int .i64 (sgn ((r : Nat) : Int))) := (e4.cell 0).trans rfl
                  have g1 : wE.cell? ⟨w.heap.size + 1 + 1 + 1 + 1 + 1, 1, none⟩ = some (.slice P' (digs r).length cp') := (e4.cell 1).trans rfl
                  have lg : w.heap.size + 1 + 1 + 1 + 1 + 1 < wE.heap.size := e4.lt
                  have E3 := hide e3
                  have E7 := hide e7
                  have E8 := hide e8
                  have E9 := hide e9
                  clear e2 e3 e4 e7 e8 e9
                  have y0 : wE.cell? ⟨w.heap.size + 1 + 1, 0, none⟩ = some (.int .i64 0) := (E3.out.cell 0).trans rfl
                  have y1 : wE.cell? ⟨w.heap.size + 1 + 1, 1, none⟩ = some (.slice none 0 0) := (E3.out.cell 1).trans rfl
                  have f0 : wE.frozen? ⟨w.heap.size + 1 + 1, 0, none⟩ = false := E3.out.free 0
                  have f1 : wE.frozen? ⟨w.heap.size + 1 + 1, 1, none⟩ = false := E3.out.free 1
                  go_wp2_with fail
                  subst hff
                  refine bodyPost_ret (v := .agg #[.int .i64 (sgn ((r : Nat) : Int)), .slice P' (digs r).length cp']) (by simp [results, Tryd.results54, go_sem, y0, y1]) rfl ?_
                  rw [ZZ.out]
                  refine ⟨P', cp', by rw [Int.natAbs_natCast], by rw [Int.natAbs_natCast]; exact e5, e6, ?_, (E9.out.setCell (by simp; omega) _).setCell (by simp; omega) _⟩
                  rw [Int.natAbs_natCast]
                  exact (E7.out.far (fun h x hx => by have := (E8.out h x hx).1; show x.block ≠ w.heap.size + 2; omega) _ _).far (fun h x hx => by have := (E8.out h x hx).1; show x.block ≠ w.heap.size + 2; omega) _ _
    · obtain ⟨m, rfl⟩ : ∃ m, gk = m + 1 := ⟨gk - 1, by omega⟩
      obtain rfl : x = (m : Int) := by omega
      clear h0 hx
      have hb' : b ≠ 0 := by omega
      -- the digit
      obtain ⟨a, hda⟩ : ∃ a, a = X / 10 ^ m % 10 := ⟨_, rfl⟩
      have ha9 : a ≤ 9 := by omega
      have HDA := hide hda
      have htb : t < b := by rw [ht.out]; exact Nat.mod_lt _ hb0
      obtain ⟨gA, oA, hA, hgA, hcA⟩ := RA.out (by have := N.out; omega)
      subst hA
      have cd := (hT.2.2.2.2.2.2.2.2.2.cell (p := ⟨gA, oA + m, none⟩) hgA).trans (hcA m (by have := N.out; omega))
      rw [dg_digs, ← hda] at cd
      clear hcA hda
      have TT := hide hT
      obtain ⟨g1, g2, g3, g4, g5, g6, g7, g8, ⟨P, cp, hR, p1, p2, p3, p4⟩, g9⟩ := hT
      have lt3 := digs_len_mul (t := t) (b := b) (by omega)
      have lt4 : (digs t).length ≤ 1000 := by have := LB.out; omega
      have a1 : wr.cell? ⟨w.heap.size, 1, none⟩ = some (.slice (some ⟨gA, oA, none⟩) n ca) := (g4.cell 1).trans rfl
      have r1 : wr.cell? ⟨w.heap.size + 1 + 1 + 1, 1, none⟩ = some (.slice P (digs t).length cp) := (hR.cell 1).trans rfl
      have l1 : w.heap.size + 1 + 1 + 1 < wr.heap.size := hR.lt
      have l2 : gA < wr.heap.size := World.block_lt_of_cell? _ _ cd
      have i0 : (0 : Int) ≤ (m : Int) := by omega
      have i1 : (m : Int) < (n : Int) := by omega
      have i2 : ((m : Int)).toNat = m := by omega
      have HR := hide hR
      have P3 := hide p3
      have LT4 := hide lt4
      have TR : Hid (∀ (A : Option Addr) (c : Nat) (W : World), Row W A ((a : Int) :: digs t) → (digs t).length + 1 ≤ c → c ≤ maxLen → Calls Tryd.prog 57 #[.agg #[.int .i64 1, .slice A ((digs t).length + 1) c]] W fun e w' => e = .returned (.agg #[.int .i64 (sgn ((10 * t + a : Nat) : Int)), .slice A (digs (10 * t + a)).length c]) ∧ (digs (10 * t + a)).length ≤ (digs t).length + 1 ∧ Row w' A (digs (10 * t + a)) ∧ Below W.heap.size W w') := hide fun A c W h1 h2 h3 => trim_cons a t c A W h1 h2 h3 ha9
      clear g1 g2 g3 g4 g5 g6 g7 g8 g9 hR p3 p4 lt3 lt4
      go_upto_region 6 with fail
      go_cut [] from 20 to 53 (fun w0 => ∃ wx : World, wx = w0 ∧ Nearing w wx (w.heap.size + 1 + 1 + 1 + 1 + 1) (w.heap.size + 1 + 1 + 1 + 1) #[.int .i64 (sgn z), .slice (some ⟨gA, oA, none⟩) n ca] #[.int .i64 (sgn (b : Int)), .slice B (digs b).length cb] (10 * t + a) l)
      case first =>
        go_region_law (first
          | (refine step_append_ex rfl (.tmp 29) (.tmp 31) 40 rfl (.slice (some ⟨wr.heap.size, 0, none⟩) 1 1) (.slice P (digs t).length cp) (by simp [Act.eval]) (by simp [Act.eval]) (append_digs (wr.alloc (.cells #[.int .i64 (a : Int)] 3)).drew wr.heap.size (a : Int) (by simp [go_sem]) P cp (digs t) (P3.out.below (below_drew (below1 _ _))) LT4.out) ?_; rintro v' w1 ⟨b1, c1, rfl, q1, q2, q3, q4, hb1⟩; have Q3 := hide q3; have Q4 := hide q4; have HB1 := hide hb1; clear q3 q4 hb1)
          | (go_simp; go_at_call 57; (with_reducible refine (TR.out _ _ _ Q3.out q1 q2).mono ?_); rintro e w2 ⟨rfl, z1, z2, hb2⟩; have Z2 := hide z2; have Z1 := hide z1; have B2 := hide (below_step (below_step (below_drew (below1 wr (.cells #[.int .i64 (a : Int)] 3))) HB1.out) hb2); have R2 := HR.out.below B2.out; have y0 : w2.cell? ⟨w.heap.size + 1 + 1 + 1, 0, none⟩ = some (.int .i64 (sgn (t : Int))) := (R2.cell 0).trans rfl; have y1 : w2.cell? ⟨w.heap.size + 1 + 1 + 1, 1, none⟩ = some (.slice P (digs t).length cp) := (R2.cell 1).trans rfl; have f0 : w2.frozen? ⟨w.heap.size + 1 + 1 + 1, 0, none⟩ = false := R2.free 0; have f1 : w2.frozen? ⟨w.heap.size + 1 + 1 + 1, 1, none⟩ = false := R2.free 1; clear z1 z2 hb2 R2))
        all_goals (go_wp2_with fail; go_meet)
        all_goals exact ⟨_, rfl, TT.out.rest B2.out (Nat.le_trans Z1.out q1) q2 Z2.out (fun _ x hx => by injection hx with hx; subst hx; exact Q4.out)⟩
      case rest =>
        obtain ⟨wx, hwx, hN⟩ := hcut
        subst hwx
        have NN := hide hN
        clear hN TT HR P3 LT4 TR cd a1 r1 l1 l2 p1 p2
        go_wp2_with fail
        go_loopg [] (10 * t + a) (fun gk wr => ∃ q : Nat, Nearing w wr (w.heap.size + 1 + 1 + 1 + 1 + 1) (w.heap.size + 1 + 1 + 1 + 1) #[.int .i64 (sgn z), .slice (some ⟨gA, oA, none⟩) n ca] #[.int .i64 (sgn (b : Int)), .slice B (digs b).length cb] gk (l.set m (q : Int)) ∧ Hid (10 * t + a = b * q + gk))
        case atStart => exact ⟨0, by rw [show l.set m ((0 : Nat) : Int) = l from set_self0 (by omega) ((hD.out m).2.2 (by omega))]; exact NN.out, by unfold Hid; rw [Nat.mul_zero, Nat.zero_add]⟩
        case round =>
          clear NN
          obtain ⟨q, hT, hE⟩ := hrel
          obtain ⟨g1, g2, g3, g4, g5, g6, g7, g8, ⟨P, cp, hR, p1, p2, p3, p4⟩, g9⟩ := id hT
          have TT := hide hT
          have hq9 : q ≤ 9 := near_q htb ha9 hE.out
          have lt4 : (digs gk).length ≤ 1000 := by
            have h1 := digs_len_mul (t := gk) (b := b) (by have := hE.out; omega)
            have h2 := LB.out
            omega
          have r0 : wr.cell? ⟨w.heap.size + 1 + 1 + 1, 0, none⟩ = some (.int .i64 (sgn (gk : Int))) := (hR.cell 0).trans rfl
          have r1 : wr.cell? ⟨w.heap.size + 1 + 1 + 1, 1, none⟩ = some (.slice P (digs gk).length cp) := (hR.cell 1).trans rfl
          have b0 : wr.cell? ⟨w.heap.size + 1, 0, none⟩ = some (.int .i64 (sgn (b : Int))) := (g5.cell 0).trans rfl
          have b1 : wr.cell? ⟨w.heap.size + 1, 1, none⟩ = some (.slice B (digs b).length cb) := (g5.cell 1).trans rfl
          have HR := hide hR
          have HB := hide g5
          have P3 := hide p3
          have RBW := hide (RB.out.below g9)
          obtain ⟨sv, hsv⟩ : ∃ s, s = sgn ((gk : Int) - (b : Int)) := ⟨_, rfl⟩
          have AB : Hid (∀ W, Row W P (digs gk) → Row W B (digs b) → Calls Tryd.prog 55 #[.agg #[.int .i64 (sgn (gk : Int)), .slice P (digs gk).length cp], .agg #[.int .i64 (sgn (b : Int)), .slice B (digs b).length cb]] W fun e w' => e = .returned (.int .i64 sv) ∧ Below W.heap.size W w') := hide fun W h1 h2 => by rw [hsv]; exact above_nat gk b _ _ P B cp cb W h1 h2 lt4 (by have := LB.out; omega)
          have LT4 := hide lt4
          clear hT g1 g2 g3 g4 g5 g6 g7 g8 g9 hR p3 p4 lt4
          by_cases c : b ≤ gk
          · have s1 : decide ((0 : Int) ≤ sv) = true := by
              rw [hsv]; unfold sgn; split
              · omega
              · split <;> rfl
            obtain ⟨u, hu⟩ : ∃ u, u = gk - b := ⟨_, rfl⟩
            have PN : Hid (∀ W, Row W P (digs gk) → Row W B (digs b) → Calls Tryd.prog 30 #[.agg #[.int .i64 (sgn (gk : Int)), .slice P (digs gk).length cp], .agg #[.int .i64 (sgn (-(b : Int))), .slice B (digs b).length cb]] W fun e w' => ∃ (P' : Option Addr) (c' : Nat), e = .returned (.agg #[.int .i64 (sgn (u : Int)), .slice P' (digs u).length c']) ∧ (digs u).length ≤ c' ∧ c' ≤ maxLen ∧ Row w' P' (digs u) ∧ (∀ a, P' = some a → W.heap.size ≤ a.block) ∧ Below W.heap.size W w') := hide fun W h1 h2 => by rw [hu]; exact plus_new gk b P B cp cb W h1 h2 LT4.out (by have := LB.out; omega) hb0 c
            have HU := hide hu
            have HC := hide c
            have HSV := hide hsv
            clear c hu hsv
            go_wp2_with fail
            refine (AB.out _ P3.out RBW.out).mono ?_
            rintro e w1 ⟨rfl, hb1⟩
            have T1 := hide (TT.out.below hb1)
            have R1 := HR.out.below hb1
            have B1 := HB.out.below hb1
            have x0 : w1.cell? ⟨w.heap.size + 1 + 1 + 1, 0, none⟩ = some (.int .i64 (sgn (gk : Int))) := (R1.cell 0).trans rfl
            have x1 : w1.cell? ⟨w.heap.size + 1 + 1 + 1, 1, none⟩ = some (.slice P (digs gk).length cp) := (R1.cell 1).trans rfl
            have e0 : w1.cell? ⟨w.heap.size + 1, 0, none⟩ = some (.int .i64 (sgn (b : Int))) := (B1.cell 0).trans rfl
            have e1 : w1.cell? ⟨w.heap.size + 1, 1, none⟩ = some (.slice B (digs b).length cb) := (B1.cell 1).trans rfl
            have HR1 := hide R1
            have P31 := hide (P3.out.below hb1)
            have RB1 := hide (RBW.out.below hb1)
            clear R1 B1 hb1 r0 r1 b0 b1 TT HR HB P3 RBW AB
            go_upto_region 8 with fail
            go_cut [] from 35 to 53 (fun w0 => ∃ wy : World, wy = w0 ∧ Nearing w wy (w.heap.size + 1 + 1 + 1 + 1 + 1) (w.heap.size + 1 + 1 + 1 + 1) #[.int .i64 (sgn z), .slice (some ⟨gA, oA, none⟩) n ca] #[.int .i64 (sgn (b : Int)), .slice B (digs b).length cb] u (l.set m (q : Int)))
            case first =>
              go_region_with (first
                | (go_at_call 32; (with_reducible refine (minus_nat b B cb _).mono ?_); rintro e w2 ⟨rfl, hb2⟩; have B2 : Hid (Below w1.heap.size w1 w2) := hide (by first | exact hb2 | exact below_step (below_drew (Below.refl _ _)) hb2); have R2 := HR1.out.below B2.out; have v0 : w2.cell? ⟨w.heap.size + 1 + 1 + 1, 0, none⟩ = some (.int .i64 (sgn (gk : Int))) := (R2.cell 0).trans rfl; have v1 : w2.cell? ⟨w.heap.size + 1 + 1 + 1, 1, none⟩ = some (.slice P (digs gk).length cp) := (R2.cell 1).trans rfl; have RP2 := hide (P31.out.below B2.out); have RB2 := hide (RB1.out.below B2.out); clear R2 hb2)
                | (go_at_call 30; (with_reducible refine (PN.out _ RP2.out RB2.out).mono ?_); rintro e w3 ⟨Q, cq, rfl, lq, lcq, rq, fq, hb3⟩; have B3 := hide (below_step B2.out hb3); have R3 := HR1.out.below B3.out; have y0 : w3.cell? ⟨w.heap.size + 1 + 1 + 1, 0, none⟩ = some (.int .i64 (sgn (gk : Int))) := (R3.cell 0).trans rfl; have y1 : w3.cell? ⟨w.heap.size + 1 + 1 + 1, 1, none⟩ = some (.slice P (digs gk).length cp) := (R3.cell 1).trans rfl; have f0 : w3.frozen? ⟨w.heap.size + 1 + 1 + 1, 0, none⟩ = false := R3.free 0; have f1 : w3.frozen? ⟨w.heap.size + 1 + 1 + 1, 1, none⟩ = false := R3.free 1; have RQ := hide rq; have LQ := hide lq; have FQ : Hid (∀ a, Q = some a → w1.heap.size ≤ a.block) := hide (fun a ha => Nat.le_trans B2.out.size (fq a ha)); clear R3 rq lq fq hb3))
              all_goals (go_wp2_with fail; go_meet)
              all_goals exact ⟨_, rfl, T1.out.rest B3.out LQ.out lcq RQ.out (fun _ x hx => FQ.out x hx)⟩
            case rest =>
              obtain ⟨wy, hwy, hN⟩ := hcut
              subst hwy
              obtain ⟨-, -, -, -, -, -, h7, h8, ⟨P', cp', hR', -⟩, -⟩ := id hN
              have NN := hide hN
              obtain ⟨su, hsu⟩ : ∃ s, s = sgn (u : Int) := ⟨_, rfl⟩
              have s2 : decide (su < 0) = false := by
                rw [hsu]; unfold sgn; split
                · omega
                · split <;> rfl
              have k0 : wy.cell? ⟨w.heap.size + 1 + 1 + 1, 0, none⟩ = some (.int .i64 su) := by rw [hsu]; exact (hR'.cell 0).trans rfl
              have o1 : wy.cell? ⟨w.heap.size + 1 + 1 + 1 + 1 + 1, 1, none⟩ = some (.slice (some ⟨w.heap.size + 1 + 1 + 1 + 1, 0, none⟩) n n) := by
                have := (h7.cell 1).trans (show _ = some (Value.slice (some ⟨w.heap.size + 1 + 1 + 1 + 1, 0, none⟩) (l.set m (q : Int)).length (l.set m (q : Int)).length) from rfl)
                rwa [List.length_set, hl] at this
              have od : wy.cell? ⟨w.heap.size + 1 + 1 + 1 + 1, m, none⟩ = some (.int .i64 (q : Int)) := by
                have := (h8.cell m).trans (ints_at (by rw [List.length_set]; omega))
                rwa [dg_set (by omega), if_pos rfl] at this
              have of_ : wy.frozen? ⟨w.heap.size + 1 + 1 + 1 + 1, m, none⟩ = false := h8.free m
              have u1 : IntKind.i64.wrap ((q : Int) + 1) = (q : Int) + 1 := IntWalk.i64_in _ (by omega)
              have HSU := hide hsu
              clear hN h7 h8 hR' hsu x0 x1 e0 e1 T1 HR1 P31 RB1 PN
              go_wp2_with fail
              go_roundg u
              case measure => have h1 := HU.out; have h2 := HC.out; omega
              case rel => exact ⟨q + 1, by
                have := NN.out.put m ((q : Int) + 1)
                rw [List.set_set] at this
                exact this, by unfold Hid; rw [HU.out]; exact near_more HC.out hE.out⟩
          · have s1 : decide ((0 : Int) ≤ sv) = false := by
              rw [hsv, sgn_of_neg (by omega)]; rfl
            have HC : Hid (gk < b) := hide (by omega)
            have HSV := hide hsv
            have u2 : IntKind.i64.wrap ((m : Int) - 1) = (m : Int) - 1 := IntWalk.i64_in _ (by omega)
            clear c hsv
            go_wp2_with fail
            refine (AB.out _ P3.out RBW.out).mono ?_
            rintro e w1 ⟨rfl, hb1⟩
            have T1 := hide (TT.out.below hb1)
            clear hb1 r0 r1 b0 b1 TT HR HB P3 RBW AB
            go_wp2_with fail
            go_roundg m
            case measure => omega
            case rel =>
              obtain ⟨d1, d2⟩ := near_done HC.out hE.out
              have st := qdig_step X b m hb0
              have dq : q = qdig X b m := by rw [d1, ht.out, HDA.out]; rfl
              refine ⟨l.set m (q : Int), gk, (m : Int) - 1, by omega, rfl, rfl, by rw [List.length_set]; exact hl, T1.out, ?_, ?_, fun j => ?_⟩
              · unfold Hid; rw [d2, ht.out, HDA.out]; exact st.2.1.symm
              · unfold Hid; rw [dq]; exact near_step hb0 (by omega) hl ((hD.out m).2.2 (by omega)) hV.out
              · rw [dg_set (by omega)]
                have h1 := hD.out j
                split
                · omega
                · omega
end Go.Proofs.YtgppimdakafniaaDoor
