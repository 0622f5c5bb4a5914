/- ParseTime for every text. Conditions: the tables hold what the program's text lays. -/
import Derived.Test.YtodfajjkngjgdaaDoorCalS
namespace Go.Proofs.YtodfajjkngjgdaaDoor
open Go Go.RowKit Go.PlainAid

set_option maxHeartbeats 2000000 in
theorem cutPart_any (s : ByteArray) (w : World) :
    Calls Tryd.prog 58 #[.string s] w fun e w' => e = .returned (.tuple #[.int .i64 (pN s), .string (pR s), .bool (pB s)]) ∧ w' = w := by
  cases hd : hasDot s with
  | false =>
    have HD := hide hd
    have e1 : pN s = 0 := by unfold pN; rw [hd]; rfl
    have e2 : pR s = s := by unfold pR; rw [hd]; rfl
    have e3 : pB s = true := by unfold pB; rw [hd]; rfl
    rw [e1, e2, e3]
    clear e1 e2 e3 hd
    go_enter Tryd.func58, Tryd.ntmps58
    go_wp2_with fail
    refine (Tryd.strings_CutPrefix s ⟨#[46]⟩ _).mono ?_
    rintro e w' ⟨rfl, rfl⟩
    rw [show Lib.hasPrefix s.data.toList (⟨#[46]⟩ : ByteArray).data.toList = false from HD.out]
    go_wp2_with fail
    go_ret3
    exact ⟨rfl, rfl⟩
  | true =>
    have HD := hide hd
    obtain ⟨n, hn⟩ : ∃ n, n = cN (dotB s) 3 := ⟨_, rfl⟩
    obtain ⟨b, hb⟩ : ∃ b, b = cB (dotB s) 3 ⟨#[]⟩ := ⟨_, rfl⟩
    have e1 : pN s = n := by unfold pN; rw [hd, hn]; rfl
    have e2 : pR s = cR (dotB s) 3 ⟨#[]⟩ := by unfold pR; rw [hd]; rfl
    have e3 : pB s = (b && (n != 0)) := by unfold pB; rw [hd, hn, hb]; rfl
    have CN : Hid (∀ W, Calls Tryd.prog 66 #[.string (dotB s), .int .i64 3, .string ⟨#[]⟩] W fun e w' => e = .returned (.tuple #[.int .i64 n, .string (cR (dotB s) 3 ⟨#[]⟩), .bool b]) ∧ w' = W) := hide fun W => by
      have := cutNumber_any (dotB s) 3 ⟨#[]⟩ W (by omega)
      unfold cutV at this
      rwa [← hn, ← hb] at this
    rw [e1, e2, e3]
    clear e1 e2 e3 hd hn hb
    go_enter Tryd.func58, Tryd.ntmps58
    go_wp2_with fail
    refine (Tryd.strings_CutPrefix s ⟨#[46]⟩ _).mono ?_
    rintro e w' ⟨rfl, rfl⟩
    rw [show Lib.hasPrefix s.data.toList (⟨#[46]⟩ : ByteArray).data.toList = true from HD.out]
    go_wp2_with fail
    refine (CN.out _).mono ?_
    rintro e w' ⟨rfl, rfl⟩
    go_wp2_with fail
    all_goals
      go_ret3
      refine ⟨?_, rfl⟩
      first | rfl | simp_all

/-- the time that a text says, and the error -/
noncomputable def tY (s : ByteArray) : Int := num s 4
noncomputable def tM (s : ByteArray) : Int := num (dropB s 5) 2
noncomputable def tD (s : ByteArray) : Int := num (dropB s 8) 2
noncomputable def tH (s : ByteArray) : Int := num (dropB s 11) 2
noncomputable def tI (s : ByteArray) : Int := num (dropB s 14) 2
noncomputable def tS (s : ByteArray) : Int := num (dropB s 17) 2
noncomputable def tP (s : ByteArray) : Int := if s.size = 20 then 0 else num (dropB s 20) 3
open Classical in
noncomputable def timeOf (s : ByteArray) : Int × Int :=
  if TimeIs s then (if isDateB (tY s) (tM s) (tD s) ∧ tH s ≤ 23 ∧ tI s ≤ 59 ∧ tS s ≤ 59 then (86400000 * daysN (tY s) (tM s) (tD s) + (tH s * 3600000 + tI s * 60000 + tS s * 1000 + tP s), 0) else (0, 17)) else (0, 13)
theorem num_2 {s : ByteArray} {k : Nat} (h : D2 s k) : 0 ≤ num (dropB s k) 2 ∧ num (dropB s k) 2 ≤ 99 := by
  have := num_pos (s := dropB s k) (k := 2) ((digs_2 _).2 ((D2_drop ..).2 h))
  rw [show ((10 ^ 2 : Nat) : Int) = 100 by decide] at this
  omega
theorem time_bd {s : ByteArray} (h : TimeIs s) : 0 ≤ tH s ∧ tH s ≤ 99 ∧ 0 ≤ tI s ∧ tI s ≤ 99 ∧ 0 ≤ tS s ∧ tS s ≤ 99 ∧ 0 ≤ tP s ∧ tP s ≤ 999 := by
  have th : TimeHead s := by
    rcases h with h | h
    · exact h.2.1
    · exact h.1.2.1
  have ca := th.2.2
  have h1 := num_2 ca.2.1
  have h2 := num_2 ca.2.2.2.1
  have h3 := num_2 ca.2.2.2.2.2
  have h4 : 0 ≤ tP s ∧ tP s ≤ 999 := by
    rcases h with h | h
    · unfold tP; rw [if_pos h.1]; decide
    · have hd : digs (dropB s 20) 3 := (digs_3 _).2 ⟨(D2_drop ..).2 h.1.2.2.2.1, by rw [bt_drop]; exact h.1.2.2.2.2.1⟩
      have := num_pos hd
      rw [show ((10 ^ 3 : Nat) : Int) = 1000 by decide] at this
      unfold tP; rw [if_neg (by have := h.1.1; omega)]; omega
  exact ⟨h1.1, h1.2, h2.1, h2.2, h3.1, h3.2, h4.1, h4.2⟩
set_option maxRecDepth 100000 in
set_option maxHeartbeats 8000000 in
theorem parseTime_any (s : ByteArray) (w : World) (hL : Lens w) :
    Calls Tryd.prog 33 #[.string s] w fun e w' => e = .returned (.tuple #[.int .i64 (timeOf s).1, .int .i64 (timeOf s).2]) ∧ w' = w := by
  have PL := hide (fun (h : ¬ Cut s) => show timeOf s = (0, 13) by unfold timeOf; rw [if_neg fun g => h (time_cut g).1])
  have CT := hide (fun (h : Cut s) => cut_time h)
  obtain ⟨A, hA⟩ : ∃ A, A = dOk s := ⟨_, rfl⟩
  obtain ⟨B, hB⟩ : ∃ B, B = hasT (d3 s) := ⟨_, rfl⟩
  obtain ⟨C, hC⟩ : ∃ C, C = kOk (u1 s) := ⟨_, rfl⟩
  obtain ⟨D, hD⟩ : ∃ D, D = pB (k3 (u1 s)) := ⟨_, rfl⟩
  obtain ⟨R, hR⟩ : ∃ R, R = pR (k3 (u1 s)) := ⟨_, rfl⟩
  obtain ⟨Y, hY⟩ : ∃ x, x = cN s 4 := ⟨_, rfl⟩
  obtain ⟨M, hM⟩ : ∃ x, x = cN (d1 s) 2 := ⟨_, rfl⟩
  obtain ⟨Dd, hDd⟩ : ∃ x, x = cN (d2 s) 2 := ⟨_, rfl⟩
  obtain ⟨H, hH⟩ : ∃ x, x = cN (u1 s) 2 := ⟨_, rfl⟩
  obtain ⟨I, hI⟩ : ∃ x, x = cN (k1 (u1 s)) 2 := ⟨_, rfl⟩
  obtain ⟨S, hS⟩ : ∃ x, x = cN (k2 (u1 s)) 2 := ⟨_, rfl⟩
  obtain ⟨P, hP⟩ : ∃ x, x = pN (k3 (u1 s)) := ⟨_, rfl⟩
  obtain ⟨v, hv⟩ : ∃ v, v = d3 s := ⟨_, rfl⟩
  obtain ⟨u, hu⟩ : ∃ u, u = u1 s := ⟨_, rfl⟩
  obtain ⟨q, hq⟩ : ∃ q, q = k3 (u1 s) := ⟨_, rfl⟩
  have CUT : Hid (Cut s ↔ A = true ∧ B = true ∧ C = true ∧ D = true ∧ R = ⟨#[90]⟩) := hide (by unfold Cut; rw [hA, hB, hC, hD, hR])
  have C1 : Hid (∀ W, Calls Tryd.prog 52 #[.string s] W fun e w' => e = .returned (.tuple #[.int .i64 Y, .int .i64 M, .int .i64 Dd, .string v, .bool A]) ∧ w' = W) := hide fun W => by rw [hY, hM, hDd, hv, hA]; exact cutDate_any s W
  have C2 : Hid (∀ W, Calls Tryd.prog 56 #[.string v, .string ⟨#[84]⟩] W fun e w' => e = .returned (.tuple #[.string u, .bool B]) ∧ w' = W) := hide fun W => by
    have := Tryd.strings_CutPrefix v ⟨#[84]⟩ W
    rw [hB, hu, hv]; rw [hv] at this; exact this
  have C3 : Hid (∀ W, Calls Tryd.prog 57 #[.string u] W fun e w' => e = .returned (.tuple #[.int .i64 H, .int .i64 I, .int .i64 S, .string q, .bool C]) ∧ w' = W) := hide fun W => by rw [hH, hI, hS, hC, hq, hu]; exact cutClock_any (u1 s) W
  have C4 : Hid (∀ W, Calls Tryd.prog 58 #[.string q] W fun e w' => e = .returned (.tuple #[.int .i64 P, .string R, .bool D]) ∧ w' = W) := hide fun W => by rw [hP, hR, hD, hq]; exact cutPart_any (k3 (u1 s)) W
  have VAL : Hid (TimeIs s → Y = tY s ∧ M = tM s ∧ Dd = tD s ∧ H = tH s ∧ I = tI s ∧ S = tS s ∧ P = tP s) := hide fun h => by
    have th : TimeHead s := by
      rcases h with h | h
      · exact h.2.1
      · exact h.1.2.1
    obtain ⟨-, -, g1, g2, g3⟩ := head_date th.1
    obtain ⟨-, g4, g5, g6, g7⟩ := time_cut h
    exact ⟨hY.trans g1, hM.trans g2, hDd.trans g3, hH.trans g4, hI.trans g5, hS.trans g6, hP.trans g7⟩
  clear hA hB hC hD hR hY hM hDd hH hI hS hP hv hu hq
  have HL := hide hL
  clear hL
  go_enter Tryd.func33, Tryd.ntmps33
  go_wp2_with fail
  refine (C1.out _).mono ?_
  rintro e w' ⟨rfl, rfl⟩
  go_wp2_with fail
  refine (C2.out _).mono ?_
  rintro e w' ⟨rfl, rfl⟩
  go_wp2_with fail
  refine (C3.out _).mono ?_
  rintro e w' ⟨rfl, rfl⟩
  go_wp2_with fail
  refine (C4.out _).mono ?_
  rintro e w' ⟨rfl, rfl⟩
  clear C1 C2 C3 C4
  cases A with
  | false =>
    have N := hide (PL.out fun h => by cases (CUT.out.1 h).1)
    clear PL CT CUT VAL
    go_wp2_with fail
    go_ret2
    exact ⟨by rw [N.out]; rfl, rfl⟩
  | true =>
  cases B with
  | false =>
    have N := hide (PL.out fun h => by cases (CUT.out.1 h).2.1)
    clear PL CT CUT VAL
    go_wp2_with fail
    go_ret2
    exact ⟨by rw [N.out]; rfl, rfl⟩
  | true =>
  cases C with
  | false =>
    have N := hide (PL.out fun h => by cases (CUT.out.1 h).2.2.1)
    clear PL CT CUT VAL
    go_wp2_with fail
    go_ret2
    exact ⟨by rw [N.out]; rfl, rfl⟩
  | true =>
  cases D with
  | false =>
    have N := hide (PL.out fun h => by cases (CUT.out.1 h).2.2.2.1)
    clear PL CT CUT VAL
    go_wp2_with fail
    go_ret2
    exact ⟨by rw [N.out]; rfl, rfl⟩
  | true =>
  by_cases hR : R = ⟨#[90]⟩
  · have TI := CT.out (CUT.out.2 ⟨rfl, rfl, rfl, rfl, hR⟩)
    obtain ⟨rfl, rfl, rfl, rfl, rfl, rfl, rfl⟩ := VAL.out TI
    obtain ⟨b1, b2, b3, b4, b5, b6, b7, b8⟩ := time_bd TI
    subst hR
    have T := hide TI
    clear TI PL CT CUT VAL
    by_cases hd : isDateB (tY s) (tM s) (tD s)
    · obtain ⟨k1, k2⟩ := daysN_bd hd
      have DO : Hid (∀ W, Lens W → Calls Tryd.prog 19 #[.int .i64 (tY s), .int .i64 (tM s), .int .i64 (tD s)] W fun e w' => e = .returned (.tuple #[.int .i64 (daysN (tY s) (tM s) (tD s)), .int .i64 0]) ∧ W = w') := hide fun W hW => days_ok _ _ _ W hW hd
      have HD := hide hd
      obtain ⟨n, hn⟩ : ∃ n, n = daysN (tY s) (tM s) (tD s) := ⟨_, rfl⟩
      rw [← hn] at DO k1 k2
      have HN := hide hn
      clear hd hn
      have hc : 23 < tH s ∨ (tH s ≤ 23 ∧ 59 < tI s) ∨ (tH s ≤ 23 ∧ tI s ≤ 59 ∧ 59 < tS s) ∨ (tH s ≤ 23 ∧ tI s ≤ 59 ∧ tS s ≤ 59) := by omega
      rcases hc with c1 | ⟨c1, c2⟩ | ⟨c1, c2, c3⟩ | ⟨c1, c2, c3⟩
      · have N : Hid (timeOf s = (0, 17)) := hide (by unfold timeOf; rw [if_pos T.out, if_neg fun g => by have := g.2.1; omega])
        go_wp2_with fail
        refine (DO.out _ HL.out).mono ?_
        rintro e w' ⟨rfl, rfl⟩
        go_wp2_with fail
        go_ret2
        exact ⟨by rw [N.out]; rfl, rfl⟩
      · have N : Hid (timeOf s = (0, 17)) := hide (by unfold timeOf; rw [if_pos T.out, if_neg fun g => by have := g.2.2.1; omega])
        go_wp2_with fail
        refine (DO.out _ HL.out).mono ?_
        rintro e w' ⟨rfl, rfl⟩
        go_wp2_with fail
        go_ret2
        exact ⟨by rw [N.out]; rfl, rfl⟩
      · have N : Hid (timeOf s = (0, 17)) := hide (by unfold timeOf; rw [if_pos T.out, if_neg fun g => by have := g.2.2.2; omega])
        go_wp2_with fail
        refine (DO.out _ HL.out).mono ?_
        rintro e w' ⟨rfl, rfl⟩
        go_wp2_with fail
        go_ret2
        exact ⟨by rw [N.out]; rfl, rfl⟩
      · have N : Hid (timeOf s = (86400000 * n + (tH s * 3600000 + tI s * 60000 + tS s * 1000 + tP s), 0)) := hide (by unfold timeOf; rw [if_pos T.out, if_pos ⟨HD.out, c1, c2, c3⟩, HN.out])
        have J : Hid (∀ W, Calls Tryd.prog 38 #[.int .i64 n, .int .i64 (tH s * 3600000 + tI s * 60000 + tS s * 1000 + tP s)] W fun e w' => e = .returned (.tuple #[.int .i64 (86400000 * n + (tH s * 3600000 + tI s * 60000 + tS s * 1000 + tP s)), .int .i64 0]) ∧ w' = W) := hide fun W => join_ok n _ W k1 k2 (by omega) (by omega)
        go_wp2_with fail
        refine (DO.out _ HL.out).mono ?_
        rintro e w' ⟨rfl, rfl⟩
        go_wp2_with fail
        refine (J.out _).mono ?_
        rintro e w' ⟨rfl, rfl⟩
        go_wp2_with fail
        go_ret2
        exact ⟨by rw [N.out]; rfl, rfl⟩
    · have N : Hid (timeOf s = (0, 17)) := hide (by unfold timeOf; rw [if_pos T.out, if_neg fun g => hd g.1])
      have DN : Hid (∀ W, Lens W → Calls Tryd.prog 19 #[.int .i64 (tY s), .int .i64 (tM s), .int .i64 (tD s)] W fun e w' => e = .returned (.tuple #[.int .i64 0, .int .i64 17]) ∧ W = w') := hide fun W hW => days_no _ _ _ W hW hd
      clear hd
      go_wp2_with fail
      refine (DN.out _ HL.out).mono ?_
      rintro e w' ⟨rfl, rfl⟩
      go_wp2_with fail
      go_ret2
      exact ⟨by rw [N.out]; rfl, rfl⟩
  · have N := hide (PL.out fun h => hR (CUT.out.1 h).2.2.2.2)
    have q1 : (R.toList == [90]) = false := by
      simp only [beq_eq_false_iff_ne, ne_eq]
      rw [ByteArray.toList_eq]
      exact fun h => hR (bytes_of h)
    clear PL CT CUT VAL hR
    go_wp2_with fail
    go_ret2
    exact ⟨by rw [N.out]; rfl, rfl⟩
end Go.Proofs.YtodfajjkngjgdaaDoor
