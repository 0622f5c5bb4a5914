/- The reference's ParseTime for every text. No condition. -/
import Derived.Test.YtodfajjkngjgdaaDoorCalU
namespace Go.Proofs.YtodfajjkngjgdaaDoor
open Go Go.RowKit Go.PlainAid

/-- what the reference's ParseTime returns -/
def TimePost (s : ByteArray) (w : World) (e : Ending) (w' : World) : Prop := e = .returned (.tuple #[.int .i64 (timeOf s).1, .int .i64 (timeOf s).2]) ∧ Below w.heap.size w w'
theorem ret_pair {a b : Int} (h : a = b) : Ending.returned (.tuple #[.int .i64 a, .int .i64 0]) = .returned (.tuple #[.int .i64 b, .int .i64 0]) := by rw [h]
theorem not20_24 {s : ByteArray} (h : Time24 s) : ¬ Time20 s := fun g => by have h1 := h.1; have h2 := g.1; omega
theorem form_false {s t : ByteArray} {p : Prop} (e : formB s t = true ↔ p) (h : ¬ p) : formB s t = false := by
  rcases hh : formB s t with _ | _
  · rfl
  · exact absurd (e.1 hh) h

set_option maxRecDepth 100000 in
set_option maxHeartbeats 16000000 in
/- the texts of a time: behind the forms -/
theorem refTime_no (s : ByteArray) (w : World) (h : ¬ TimeIs s) :
    Calls Tryd.prog 34 #[.string s] w (TimePost s w) := by
  have N : Hid (timeOf s = (0, 13)) := hide (by unfold timeOf; rw [if_neg h])
  have F24 := hide (fun W => form_any s pat24 W (by decide))
  have F20 := hide (fun W => form_any s pat20 W (by decide))
  by_cases h24 : Time24 s
  · have hz : num (dropB s 20) 3 = 0 := by
      by_cases c : num (dropB s 20) 3 = 0
      · exact c
      · exact absurd (.inr ⟨h24, c⟩) h
    have q : ((s.extract 20 23).toList == [48, 48, 48]) = true := by
      rw [(zeros (by have := h24.1; omega) h24.2.2.2.1 h24.2.2.2.2.1).1 hz]; rfl
    rw [(form24 s).2 h24] at F24
    rw [form_false (form20 s) (not20_24 h24)] at F20
    have i1 : (24 : Int) ≤ (s.size : Int) := by have := h24.1; omega
    clear h h24 hz
    go_enter Tryd.func34, Tryd.ntmps34
    go_wp2_with fail
    refine (F24.out _).mono ?_
    rintro e w1 ⟨rfl, hb1⟩
    have HB1 := hide hb1
    clear hb1
    go_wp2_with fail
    refine (F20.out _).mono ?_
    rintro e w2 ⟨rfl, hb2⟩
    have HB2 := hide (below_step HB1.out hb2)
    clear hb2
    go_wp2_with fail
    go_ret2
    exact ⟨by rw [N.out]; rfl, HB2.out⟩
  · have h20 : ¬ Time20 s := fun g => h (.inl g)
    rw [form_false (form24 s) h24] at F24
    rw [form_false (form20 s) h20] at F20
    clear h h24 h20
    go_enter Tryd.func34, Tryd.ntmps34
    go_wp2_with fail
    refine (F24.out _).mono ?_
    rintro e w1 ⟨rfl, hb1⟩
    have HB1 := hide hb1
    clear hb1
    go_wp2_with fail
    refine (F20.out _).mono ?_
    rintro e w2 ⟨rfl, hb2⟩
    have HB2 := hide (below_step HB1.out hb2)
    clear hb2
    go_wp2_with fail
    go_ret2
    exact ⟨by rw [N.out]; rfl, HB2.out⟩
set_option maxRecDepth 100000 in
set_option maxHeartbeats 16000000 in
theorem refTime_yes (s : ByteArray) (w : World) (h : TimeIs s) :
    Calls Tryd.prog 34 #[.string s] w (TimePost s w) := by
  have F24 := hide (fun W => form_any s pat24 W (by decide))
  have F20 := hide (fun W => form_any s pat20 W (by decide))
  have th : TimeHead s := by
    rcases h with h | h
    · exact h.2.1
    · exact h.1.2.1
  obtain ⟨b1, b2, b3, b4, b5, b6, b7, b8⟩ := time_bd h
  have ca := th.2.2
  have hz := ca.1
  have N1 := hide (fun W => num_part s 11 13 W (by omega) (by omega) ca.2.1)
  have N2 := hide (fun W => num_part s 14 16 W (by omega) (by omega) ca.2.2.2.1)
  have N3 := hide (fun W => num_part s 17 19 W (by omega) (by omega) ca.2.2.2.2.2)
  have RP := hide (fun W => refParse_any (s.extract 0 10) W)
  have DH := hide (dayOf_head th)
  have T := hide h
  have i1 : (19 : Int) ≤ (s.size : Int) := by omega
  obtain ⟨n, hn⟩ : ∃ n, n = (dayOf (s.extract 0 10)).1 := ⟨_, rfl⟩
  obtain ⟨x, hx⟩ : ∃ x, x = (dayOf (s.extract 0 10)).2 := ⟨_, rfl⟩
  rw [← hn, ← hx] at RP
  have DV : Hid ((isDateB (tY s) (tM s) (tD s) ∧ n = daysN (tY s) (tM s) (tD s) ∧ x = 0) ∨ (¬ isDateB (tY s) (tM s) (tD s) ∧ n = 0 ∧ x = 17)) := hide (by
    by_cases hd : isDateB (tY s) (tM s) (tD s)
    · left; rw [hn, hx, DH.out, if_pos hd]; exact ⟨hd, rfl, rfl⟩
    · right; rw [hn, hx, DH.out, if_neg hd]; exact ⟨hd, rfl, rfl⟩)
  obtain ⟨H, hH⟩ : ∃ v, v = num (dropB s 11) 2 := ⟨_, rfl⟩
  obtain ⟨I, hI⟩ : ∃ v, v = num (dropB s 14) 2 := ⟨_, rfl⟩
  obtain ⟨S, hS⟩ : ∃ v, v = num (dropB s 17) 2 := ⟨_, rfl⟩
  rw [← hH] at N1
  rw [← hI] at N2
  rw [← hS] at N3
  have VH := hide (show tH s = H from hH.symm)
  have VI := hide (show tI s = I from hI.symm)
  have VS := hide (show tS s = S from hS.symm)
  rw [VH.out] at b1 b2
  rw [VI.out] at b3 b4
  rw [VS.out] at b5 b6
  clear th ca hn hx hH hI hS DH
  rcases h with h | h
  · have s20 := h.1
    rw [form_false (form24 s) (fun g => not20_24 g h)] at F24
    rw [(form20 s).2 h] at F20
    have VP : Hid (tP s = 0) := hide (by unfold tP; rw [if_pos s20])
    clear h s20 b7 b8
    rcases DV.out with ⟨d1, d2, d3⟩ | ⟨d1, d2, d3⟩
    · obtain ⟨k1, k2⟩ := daysN_bd d1
      rw [← d2] at k1 k2
      subst d3
      have HD := hide d1
      have HN := hide d2
      clear d1 d2 DV
      have hc : 23 < H ∨ (H ≤ 23 ∧ 59 < I) ∨ (H ≤ 23 ∧ I ≤ 59 ∧ 59 < S) ∨ (H ≤ 23 ∧ I ≤ 59 ∧ S ≤ 59) := by omega
      rcases hc with c1 | ⟨c1, c2⟩ | ⟨c1, c2, c3⟩ | ⟨c1, c2, c3⟩
      · have N : Hid (timeOf s = (0, 17)) := hide (by unfold timeOf; rw [if_pos T.out, if_neg fun g => by have := VH.out; have := g.2.1; omega])
        go_enter Tryd.func34, Tryd.ntmps34
        go_wp2_with fail
        refine (F24.out _).mono ?_
        rintro e w1 ⟨rfl, hb1⟩
        have HB1 := hide hb1
        clear hb1
        go_wp2_with fail
        refine (F20.out _).mono ?_
        rintro e w2 ⟨rfl, hb2⟩
        have HB2 := hide (below_step HB1.out hb2)
        clear hb2
        go_wp2_with fail
        refine (RP.out _).mono ?_
        rintro e w3 ⟨rfl, hb3⟩
        have HB3 := hide (below_step HB2.out hb3)
        clear hb3
        go_wp2_with fail
        go_quiet ((first | (go_at_call 55; with_reducible exact Calls.quiet_of_same (N1.out _)) | (go_at_call 55; with_reducible exact Calls.quiet_of_same (N2.out _)) | (go_at_call 55; with_reducible exact Calls.quiet_of_same (N3.out _))))
        go_wp2_with fail
        go_ret2
        exact ⟨by rw [N.out]; rfl, by first | exact below_drewN HB3.out _ | exact HB3.out⟩
      · have N : Hid (timeOf s = (0, 17)) := hide (by unfold timeOf; rw [if_pos T.out, if_neg fun g => by have := VI.out; have := g.2.2.1; omega])
        go_enter Tryd.func34, Tryd.ntmps34
        go_wp2_with fail
        refine (F24.out _).mono ?_
        rintro e w1 ⟨rfl, hb1⟩
        have HB1 := hide hb1
        clear hb1
        go_wp2_with fail
        refine (F20.out _).mono ?_
        rintro e w2 ⟨rfl, hb2⟩
        have HB2 := hide (below_step HB1.out hb2)
        clear hb2
        go_wp2_with fail
        refine (RP.out _).mono ?_
        rintro e w3 ⟨rfl, hb3⟩
        have HB3 := hide (below_step HB2.out hb3)
        clear hb3
        go_wp2_with fail
        go_quiet ((first | (go_at_call 55; with_reducible exact Calls.quiet_of_same (N1.out _)) | (go_at_call 55; with_reducible exact Calls.quiet_of_same (N2.out _)) | (go_at_call 55; with_reducible exact Calls.quiet_of_same (N3.out _))))
        go_wp2_with fail
        go_ret2
        exact ⟨by rw [N.out]; rfl, by first | exact below_drewN HB3.out _ | exact HB3.out⟩
      · have N : Hid (timeOf s = (0, 17)) := hide (by unfold timeOf; rw [if_pos T.out, if_neg fun g => by have := VS.out; have := g.2.2.2; omega])
        go_enter Tryd.func34, Tryd.ntmps34
        go_wp2_with fail
        refine (F24.out _).mono ?_
        rintro e w1 ⟨rfl, hb1⟩
        have HB1 := hide hb1
        clear hb1
        go_wp2_with fail
        refine (F20.out _).mono ?_
        rintro e w2 ⟨rfl, hb2⟩
        have HB2 := hide (below_step HB1.out hb2)
        clear hb2
        go_wp2_with fail
        refine (RP.out _).mono ?_
        rintro e w3 ⟨rfl, hb3⟩
        have HB3 := hide (below_step HB2.out hb3)
        clear hb3
        go_wp2_with fail
        go_quiet ((first | (go_at_call 55; with_reducible exact Calls.quiet_of_same (N1.out _)) | (go_at_call 55; with_reducible exact Calls.quiet_of_same (N2.out _)) | (go_at_call 55; with_reducible exact Calls.quiet_of_same (N3.out _))))
        go_wp2_with fail
        go_ret2
        exact ⟨by rw [N.out]; rfl, by first | exact below_drewN HB3.out _ | exact HB3.out⟩
      · have N : Hid (timeOf s = (86400000 * n + (H * 3600000 + I * 60000 + S * 1000 + 0), 0)) := hide (by unfold timeOf; rw [if_pos T.out, if_pos ⟨HD.out, by rw [VH.out]; exact c1, by rw [VI.out]; exact c2, by rw [VS.out]; exact c3⟩, ← HN.out, VH.out, VI.out, VS.out, VP.out])
        go_enter Tryd.func34, Tryd.ntmps34
        go_wp2_with fail
        refine (F24.out _).mono ?_
        rintro e w1 ⟨rfl, hb1⟩
        have HB1 := hide hb1
        clear hb1
        go_wp2_with fail
        refine (F20.out _).mono ?_
        rintro e w2 ⟨rfl, hb2⟩
        have HB2 := hide (below_step HB1.out hb2)
        clear hb2
        go_wp2_with fail
        refine (RP.out _).mono ?_
        rintro e w3 ⟨rfl, hb3⟩
        have HB3 := hide (below_step HB2.out hb3)
        clear hb3
        go_wp2_with fail
        go_quiet ((first | (go_at_call 55; with_reducible exact Calls.quiet_of_same (N1.out _)) | (go_at_call 55; with_reducible exact Calls.quiet_of_same (N2.out _)) | (go_at_call 55; with_reducible exact Calls.quiet_of_same (N3.out _))))
        go_wp2_with fail
        go_ret2
        exact ⟨by rw [N.out]; exact ret_pair (by omega), by first | exact below_drewN HB3.out _ | exact HB3.out⟩
    · subst d3
      have N : Hid (timeOf s = (0, 17)) := hide (by unfold timeOf; rw [if_pos T.out, if_neg fun g => d1 g.1])
      subst d2
      clear d1 DV
      go_enter Tryd.func34, Tryd.ntmps34
      go_wp2_with fail
      refine (F24.out _).mono ?_
      rintro e w1 ⟨rfl, hb1⟩
      have HB1 := hide hb1
      clear hb1
      go_wp2_with fail
      refine (F20.out _).mono ?_
      rintro e w2 ⟨rfl, hb2⟩
      have HB2 := hide (below_step HB1.out hb2)
      clear hb2
      go_wp2_with fail
      refine (RP.out _).mono ?_
      rintro e w3 ⟨rfl, hb3⟩
      have HB3 := hide (below_step HB2.out hb3)
      clear hb3
      go_wp2_with fail
      go_quiet ((first | (go_at_call 55; with_reducible exact Calls.quiet_of_same (N1.out _)) | (go_at_call 55; with_reducible exact Calls.quiet_of_same (N2.out _)) | (go_at_call 55; with_reducible exact Calls.quiet_of_same (N3.out _))))
      go_wp2_with fail
      go_ret2
      exact ⟨by rw [N.out]; rfl, by first | exact below_drewN HB3.out _ | exact HB3.out⟩
  · rw [(form24 s).2 h.1] at F24
    have i2 : (24 : Int) ≤ (s.size : Int) := by have := h.1.1; omega
    have N4 := hide (fun W => num_three s W (by omega) h.1.2.2.2.1 h.1.2.2.2.2.1)
    have q : ((s.extract 20 23).toList == [48, 48, 48]) = false := by
      simp only [beq_eq_false_iff_ne, ne_eq]
      exact fun g => h.2 ((zeros (by omega) h.1.2.2.2.1 h.1.2.2.2.2.1).2 g)
    obtain ⟨P, hP⟩ : ∃ v, v = num (dropB s 20) 3 := ⟨_, rfl⟩
    rw [← hP] at N4
    have VP : Hid (tP s = P) := hide (by unfold tP; rw [if_neg (by have := h.1.1; omega), hP])
    rw [VP.out] at b7 b8
    clear h hP F20
    rcases DV.out with ⟨d1, d2, d3⟩ | ⟨d1, d2, d3⟩
    · obtain ⟨k1, k2⟩ := daysN_bd d1
      rw [← d2] at k1 k2
      subst d3
      have HD := hide d1
      have HN := hide d2
      clear d1 d2 DV
      have hc : 23 < H ∨ (H ≤ 23 ∧ 59 < I) ∨ (H ≤ 23 ∧ I ≤ 59 ∧ 59 < S) ∨ (H ≤ 23 ∧ I ≤ 59 ∧ S ≤ 59) := by omega
      rcases hc with c1 | ⟨c1, c2⟩ | ⟨c1, c2, c3⟩ | ⟨c1, c2, c3⟩
      · have N : Hid (timeOf s = (0, 17)) := hide (by unfold timeOf; rw [if_pos T.out, if_neg fun g => by have := VH.out; have := g.2.1; omega])
        go_enter Tryd.func34, Tryd.ntmps34
        go_wp2_with fail
        refine (F24.out _).mono ?_
        rintro e w1 ⟨rfl, hb1⟩
        have HB1 := hide hb1
        clear hb1
        go_wp2_with fail
        refine (N4.out _).mono ?_
        rintro e w2 ⟨rfl, rfl⟩
        have HB2 := HB1
        go_wp2_with fail
        refine (RP.out _).mono ?_
        rintro e w3 ⟨rfl, hb3⟩
        have HB3 := hide (below_step HB2.out hb3)
        clear hb3
        go_wp2_with fail
        go_quiet ((first | (go_at_call 55; with_reducible exact Calls.quiet_of_same (N1.out _)) | (go_at_call 55; with_reducible exact Calls.quiet_of_same (N2.out _)) | (go_at_call 55; with_reducible exact Calls.quiet_of_same (N3.out _))))
        go_wp2_with fail
        go_ret2
        exact ⟨by rw [N.out]; rfl, by first | exact below_drewN HB3.out _ | exact HB3.out⟩
      · have N : Hid (timeOf s = (0, 17)) := hide (by unfold timeOf; rw [if_pos T.out, if_neg fun g => by have := VI.out; have := g.2.2.1; omega])
        go_enter Tryd.func34, Tryd.ntmps34
        go_wp2_with fail
        refine (F24.out _).mono ?_
        rintro e w1 ⟨rfl, hb1⟩
        have HB1 := hide hb1
        clear hb1
        go_wp2_with fail
        refine (N4.out _).mono ?_
        rintro e w2 ⟨rfl, rfl⟩
        have HB2 := HB1
        go_wp2_with fail
        refine (RP.out _).mono ?_
        rintro e w3 ⟨rfl, hb3⟩
        have HB3 := hide (below_step HB2.out hb3)
        clear hb3
        go_wp2_with fail
        go_quiet ((first | (go_at_call 55; with_reducible exact Calls.quiet_of_same (N1.out _)) | (go_at_call 55; with_reducible exact Calls.quiet_of_same (N2.out _)) | (go_at_call 55; with_reducible exact Calls.quiet_of_same (N3.out _))))
        go_wp2_with fail
        go_ret2
        exact ⟨by rw [N.out]; rfl, by first | exact below_drewN HB3.out _ | exact HB3.out⟩
      · have N : Hid (timeOf s = (0, 17)) := hide (by unfold timeOf; rw [if_pos T.out, if_neg fun g => by have := VS.out; have := g.2.2.2; omega])
        go_enter Tryd.func34, Tryd.ntmps34
        go_wp2_with fail
        refine (F24.out _).mono ?_
        rintro e w1 ⟨rfl, hb1⟩
        have HB1 := hide hb1
        clear hb1
        go_wp2_with fail
        refine (N4.out _).mono ?_
        rintro e w2 ⟨rfl, rfl⟩
        have HB2 := HB1
        go_wp2_with fail
        refine (RP.out _).mono ?_
        rintro e w3 ⟨rfl, hb3⟩
        have HB3 := hide (below_step HB2.out hb3)
        clear hb3
        go_wp2_with fail
        go_quiet ((first | (go_at_call 55; with_reducible exact Calls.quiet_of_same (N1.out _)) | (go_at_call 55; with_reducible exact Calls.quiet_of_same (N2.out _)) | (go_at_call 55; with_reducible exact Calls.quiet_of_same (N3.out _))))
        go_wp2_with fail
        go_ret2
        exact ⟨by rw [N.out]; rfl, by first | exact below_drewN HB3.out _ | exact HB3.out⟩
      · have N : Hid (timeOf s = (86400000 * n + (H * 3600000 + I * 60000 + S * 1000 + P), 0)) := hide (by unfold timeOf; rw [if_pos T.out, if_pos ⟨HD.out, by rw [VH.out]; exact c1, by rw [VI.out]; exact c2, by rw [VS.out]; exact c3⟩, ← HN.out, VH.out, VI.out, VS.out, VP.out])
        go_enter Tryd.func34, Tryd.ntmps34
        go_wp2_with fail
        refine (F24.out _).mono ?_
        rintro e w1 ⟨rfl, hb1⟩
        have HB1 := hide hb1
        clear hb1
        go_wp2_with fail
        refine (N4.out _).mono ?_
        rintro e w2 ⟨rfl, rfl⟩
        have HB2 := HB1
        go_wp2_with fail
        refine (RP.out _).mono ?_
        rintro e w3 ⟨rfl, hb3⟩
        have HB3 := hide (below_step HB2.out hb3)
        clear hb3
        go_wp2_with fail
        go_quiet ((first | (go_at_call 55; with_reducible exact Calls.quiet_of_same (N1.out _)) | (go_at_call 55; with_reducible exact Calls.quiet_of_same (N2.out _)) | (go_at_call 55; with_reducible exact Calls.quiet_of_same (N3.out _))))
        go_wp2_with fail
        go_ret2
        exact ⟨by rw [N.out]; exact ret_pair (by omega), by first | exact below_drewN HB3.out _ | exact HB3.out⟩
    · subst d3
      have N : Hid (timeOf s = (0, 17)) := hide (by unfold timeOf; rw [if_pos T.out, if_neg fun g => d1 g.1])
      subst d2
      clear d1 DV
      go_enter Tryd.func34, Tryd.ntmps34
      go_wp2_with fail
      refine (F24.out _).mono ?_
      rintro e w1 ⟨rfl, hb1⟩
      have HB1 := hide hb1
      clear hb1
      go_wp2_with fail
      refine (N4.out _).mono ?_
      rintro e w2 ⟨rfl, rfl⟩
      have HB2 := HB1
      go_wp2_with fail
      refine (RP.out _).mono ?_
      rintro e w3 ⟨rfl, hb3⟩
      have HB3 := hide (below_step HB2.out hb3)
      clear hb3
      go_wp2_with fail
      go_quiet ((first | (go_at_call 55; with_reducible exact Calls.quiet_of_same (N1.out _)) | (go_at_call 55; with_reducible exact Calls.quiet_of_same (N2.out _)) | (go_at_call 55; with_reducible exact Calls.quiet_of_same (N3.out _))))
      go_wp2_with fail
      go_ret2
      exact ⟨by rw [N.out]; rfl, by first | exact below_drewN HB3.out _ | exact HB3.out⟩
end Go.Proofs.YtodfajjkngjgdaaDoor
