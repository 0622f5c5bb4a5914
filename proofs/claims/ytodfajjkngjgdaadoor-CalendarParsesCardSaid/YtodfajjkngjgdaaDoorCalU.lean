/- The reference's Parse and ParseTime for every text. Condition: at most 100 bytes. -/
import Derived.Test.YtodfajjkngjgdaaDoorCalT
namespace Go.Proofs.YtodfajjkngjgdaaDoor
open Go Go.RowKit Go.PlainAid

theorem num_ext {s : ByteArray} {i k n : Nat} (h1 : i + n = k) (h2 : k ≤ s.size) : num (s.extract i k) n = num (dropB s i) n :=
  num_congr fun j hj => by rw [bt_ext (by omega) h2, bt_drop]
theorem num_whole {s : ByteArray} {n : Nat} (h2 : n ≤ s.size) : num (s.extract 0 n) n = num s n :=
  num_congr fun j hj => by rw [bt_ext (by omega) h2, Nat.zero_add]
theorem digs_ext {s : ByteArray} {i k : Nat} (h1 : i + 2 = k) (h2 : k ≤ s.size) (h : D2 s i) : digs (s.extract i k) 2 := by
  rw [digs_2]; unfold D2
  rw [bt_ext (by omega) h2, bt_ext (by omega) h2]
  exact h
/-- the reference's number of a part of two digits -/
theorem num_part (s : ByteArray) (i k : Nat) (w : World) (h1 : i + 2 = k) (h2 : k ≤ s.size) (h : D2 s i) :
    Calls Tryd.prog 55 #[.string (s.extract i k)] w fun e w' => e = .returned (.int .i64 (num (dropB s i) 2)) ∧ w' = w := by
  have := refNumber_any (s.extract i k) 2 w (by rw [ext_size (by omega) h2]; omega) (by omega) (digs_ext h1 h2 h)
  rwa [num_ext h1 h2] at this
theorem num_four (s : ByteArray) (w : World) (h2 : 4 ≤ s.size) (h : D2 s 0) (h' : D2 s 2) :
    Calls Tryd.prog 55 #[.string (s.extract 0 4)] w fun e w' => e = .returned (.int .i64 (num s 4)) ∧ w' = w := by
  have := refNumber_any (s.extract 0 4) 4 w (by rw [ext_size (by omega) h2]) (by omega) ((digs_4 _).2 (by
    unfold D2
    rw [bt_ext (by omega) h2, bt_ext (by omega) h2, bt_ext (by omega) h2, bt_ext (by omega) h2]
    exact ⟨h, h'⟩))
  rwa [num_whole h2] at this
theorem num_three (s : ByteArray) (w : World) (h2 : 23 ≤ s.size) (h : D2 s 20) (h' : dgP (bt s 22)) :
    Calls Tryd.prog 55 #[.string (s.extract 20 23)] w fun e w' => e = .returned (.int .i64 (num (dropB s 20) 3)) ∧ w' = w := by
  have := refNumber_any (s.extract 20 23) 3 w (by rw [ext_size (by omega) h2]) (by omega) ((digs_3 _).2 (by
    unfold D2
    rw [bt_ext (by omega) h2, bt_ext (by omega) h2, bt_ext (by omega) h2]
    exact ⟨h, h'⟩))
  rwa [num_ext (by omega) h2] at this

open Classical in
theorem dayOf_form (s : ByteArray) : dayOf s = if s.size = 10 ∧ DateHead s then (if isDateB (tY s) (tM s) (tD s) then (daysN (tY s) (tM s) (tD s), 0) else (0, 17)) else (0, 13) := by
  have e : (dOk s = true ∧ d3 s = ⟨#[]⟩) ↔ s.size = 10 ∧ DateHead s := by
    constructor
    · rintro ⟨h1, h2⟩
      obtain ⟨dh, -, -, e3⟩ := date_head h1
      rw [e3] at h2
      have := congrArg ByteArray.size h2
      rw [dropB_size] at this
      have h0 : (⟨#[]⟩ : ByteArray).size = 0 := rfl
      have := dh.1
      exact ⟨by omega, dh⟩
    · rintro ⟨h1, h2⟩
      obtain ⟨g1, g2, -⟩ := head_date h2
      refine ⟨g1, ?_⟩
      rw [g2]
      apply ByteArray.ext
      apply Array.toList_inj.1
      rw [dropB_list, List.drop_eq_nil_of_le (by rw [size_list]; omega)]
  unfold dayOf
  by_cases h : s.size = 10 ∧ DateHead s
  · rw [if_pos h, if_pos (e.2 h)]
    obtain ⟨-, -, g1, g2, g3⟩ := head_date h.2
    rw [g1, g2, g3]; rfl
  · rw [if_neg h, if_neg fun g => h (e.1 g)]

set_option maxRecDepth 100000 in
set_option maxHeartbeats 8000000 in
theorem refParse_any (s : ByteArray) (w : World) :
    Calls Tryd.prog 32 #[.string s] w fun e w' => e = .returned (.tuple #[.int .i64 (dayOf s).1, .int .i64 (dayOf s).2]) ∧ Below w.heap.size w w' := by
  have FA := hide (fun W => form_any s pat10 W (by decide))
  have HF := hide (dayOf_form s)
  by_cases h : s.size = 10 ∧ DateHead s
  · have ff : formB s pat10 = true := (form10 s).2 h
    rw [ff] at FA
    obtain ⟨h1, h2⟩ := h
    obtain ⟨-, g0, g2, -, g5, -, g8⟩ := id h2
    have j4 : (s.size : Int) = 10 := by omega
    have N1 := hide (fun W => num_four s W (by omega) g0 g2)
    have N2 := hide (fun W => num_part s 5 7 W (by omega) (by omega) g5)
    have N3 : Hid (∀ W, Calls Tryd.prog 55 #[.string (s.extract 8 s.size)] W fun e w' => e = .returned (.int .i64 (num (dropB s 8) 2)) ∧ w' = W) := hide (fun W => by rw [h1]; exact num_part s 8 10 W (by omega) (by omega) g8)
    have H := hide h2
    have HS := hide h1
    have i1 : (10 : Int) ≤ (s.size : Int) := by omega
    have i2 : (8 : Int) ≤ (s.size : Int) := by omega
    by_cases hd : isDateB (num s 4) (num (dropB s 5) 2) (num (dropB s 8) 2)
    · have N : Hid (dayOf s = (daysN (num s 4) (num (dropB s 5) 2) (num (dropB s 8) 2), 0)) := hide (by rw [HF.out, if_pos ⟨h1, h2⟩, if_pos (show isDateB (tY s) (tM s) (tD s) from hd)]; try rfl)
      have DO := hide (fun W => refDays_ok _ _ _ W hd)
      obtain ⟨x, hx⟩ : ∃ x, x = daysN (num s 4) (num (dropB s 5) 2) (num (dropB s 8) 2) := ⟨_, rfl⟩
      rw [← hx] at DO N
      clear hx
      clear g0 g2 g5 g8 h2 ff hd HF h1
      go_enter Tryd.func32, Tryd.ntmps32
      go_wp2_with fail
      refine (FA.out _).mono ?_
      rintro e w1 ⟨rfl, hb1⟩
      have HB1 := hide hb1
      clear hb1
      go_wp2_with fail
      go_region_with (first
        | (go_at_call 55; (with_reducible refine (N1.out _).mono ?_); rintro e w2 ⟨rfl, rfl⟩)
        | (go_at_call 55; (with_reducible refine (N2.out _).mono ?_); rintro e w2 ⟨rfl, rfl⟩)
        | (go_at_call 55; (with_reducible refine (N3.out _).mono ?_); rintro e w2 ⟨rfl, rfl⟩)
        | (go_at_call 20; (with_reducible refine (DO.out _).mono ?_); rintro e w3 ⟨rfl, hb3⟩; have HB3 := hide hb3; clear hb3))
      all_goals go_wp2_with fail
      all_goals go_ret2
      all_goals exact ⟨by rw [N.out]; rfl, by first | exact below_step HB1.out HB3.out | exact below_step HB1.out (drewN_below (n := 1) HB3.out) | exact below_step HB1.out (below_step ⟨(Below.refl _ _).os, (Below.refl _ _).tape, (Below.refl _ _).output, (Below.refl _ _).size, (Below.refl _ _).block⟩ HB3.out)⟩
    · have N : Hid (dayOf s = (0, 17)) := hide (by rw [HF.out, if_pos ⟨h1, h2⟩, if_neg (show ¬ isDateB (tY s) (tM s) (tD s) from hd)]; try rfl)
      have DO := hide (fun W => refDays_no _ _ _ W hd)
      clear g0 g2 g5 g8 h2 ff hd HF h1
      go_enter Tryd.func32, Tryd.ntmps32
      go_wp2_with fail
      refine (FA.out _).mono ?_
      rintro e w1 ⟨rfl, hb1⟩
      have HB1 := hide hb1
      clear hb1
      go_wp2_with fail
      go_region_with (first
        | (go_at_call 55; (with_reducible refine (N1.out _).mono ?_); rintro e w2 ⟨rfl, rfl⟩)
        | (go_at_call 55; (with_reducible refine (N2.out _).mono ?_); rintro e w2 ⟨rfl, rfl⟩)
        | (go_at_call 55; (with_reducible refine (N3.out _).mono ?_); rintro e w2 ⟨rfl, rfl⟩)
        | (go_at_call 20; (with_reducible refine (DO.out _).mono ?_); rintro e w3 ⟨rfl, hb3⟩; have HB3 := hide hb3; clear hb3))
      all_goals go_wp2_with fail
      all_goals go_ret2
      all_goals exact ⟨by rw [N.out]; rfl, by first | exact below_step HB1.out HB3.out | exact below_step HB1.out (drewN_below (n := 1) HB3.out) | exact below_step HB1.out (below_step ⟨(Below.refl _ _).os, (Below.refl _ _).tape, (Below.refl _ _).output, (Below.refl _ _).size, (Below.refl _ _).block⟩ HB3.out)⟩
  · have ff : formB s pat10 = false := by
      rcases hh : formB s pat10 with _ | _
      · rfl
      · exact absurd ((form10 s).1 hh) h
    rw [ff] at FA
    have N : Hid (dayOf s = (0, 13)) := hide (by rw [HF.out, if_neg h])
    clear ff h HF
    go_enter Tryd.func32, Tryd.ntmps32
    go_wp2_with fail
    refine (FA.out _).mono ?_
    rintro e w1 ⟨rfl, hb1⟩
    go_wp2_with fail
    go_ret2
    exact ⟨by rw [N.out]; rfl, hb1⟩

open Classical in
theorem dayOf_head {s : ByteArray} (h : TimeHead s) : dayOf (s.extract 0 10) = if isDateB (tY s) (tM s) (tD s) then (daysN (tY s) (tM s) (tD s), 0) else (0, 17) := by
  obtain ⟨h0, h1, h2, h3, h4, h5, h6⟩ := h.1
  have hz : (s.extract 0 10).size = 10 := by rw [ext_size (by omega) h0]
  have b : ∀ i, i < 10 → bt (s.extract 0 10) i = bt s i := fun i hi => by rw [bt_ext (by omega) h0, Nat.zero_add]
  have dd : ∀ k, k + 1 < 10 → (D2 (s.extract 0 10) k ↔ D2 s k) := fun k hk => by unfold D2; rw [b k (by omega), b (k + 1) hk]
  have hh : DateHead (s.extract 0 10) := ⟨by omega, (dd 0 (by omega)).2 h1, (dd 2 (by omega)).2 h2, by rw [b 4 (by omega)]; exact h3, (dd 5 (by omega)).2 h4, by rw [b 7 (by omega)]; exact h5, (dd 8 (by omega)).2 h6⟩
  have e1 : tY (s.extract 0 10) = tY s := num_congr fun j hj => b j (by omega)
  have e2 : tM (s.extract 0 10) = tM s := num_congr fun j hj => by rw [bt_drop, bt_drop]; exact b _ (by omega)
  have e3 : tD (s.extract 0 10) = tD s := num_congr fun j hj => by rw [bt_drop, bt_drop]; exact b _ (by omega)
  rw [dayOf_form, if_pos ⟨hz, hh⟩, e1, e2, e3]
theorem zeros {s : ByteArray} (hz : 23 ≤ s.size) (h1 : D2 s 20) (h2 : dgP (bt s 22)) : num (dropB s 20) 3 = 0 ↔ (s.extract 20 23).toList = [48, 48, 48] := by
  have e : num (dropB s 20) 3 = 100 * (bt s 20 - 48) + 10 * (bt s 21 - 48) + (bt s 22 - 48) := by
    simp only [num, bt_drop]
    rw [show 20 + 0 = 20 from rfl, show 20 + 1 = 21 from rfl, show 20 + 2 = 22 from rfl]
    omega
  have b0 := bt_ext (s := s) (i := 20) (k := 23) (j := 0) (by omega) hz
  have b1 := bt_ext (s := s) (i := 20) (k := 23) (j := 1) (by omega) hz
  have b2 := bt_ext (s := s) (i := 20) (k := 23) (j := 2) (by omega) hz
  have hl : (s.extract 20 23).data.toList.length = 3 := by rw [size_list, ext_size (by omega) hz]
  obtain ⟨a, b, c, habc⟩ : ∃ a b c, (s.extract 20 23).data.toList = [a, b, c] := by
    generalize (s.extract 20 23).data.toList = l at hl
    match l, hl with
    | [a, b, c], _ => exact ⟨a, b, c, rfl⟩
  rw [bt_of habc] at b0 b1 b2
  have c0 : (a.toNat : Int) = bt s 20 := b0
  have c1 : (b.toNat : Int) = bt s 21 := b1
  have c2 : (c.toNat : Int) = bt s 22 := b2
  rw [ByteArray.toList_eq, habc, e]
  obtain ⟨⟨p1, p2⟩, ⟨p3, p4⟩⟩ := h1
  obtain ⟨p5, p6⟩ := h2
  replace p3 : 48 ≤ bt s 21 := p3
  replace p4 : bt s 21 ≤ 57 := p4
  constructor
  · intro h
    have x0 : a = 48 := byte_eq.1 (by rw [c0]; show _ = (48 : Int); omega)
    have x1 : b = 48 := byte_eq.1 (by rw [c1]; show _ = (48 : Int); omega)
    have x2 : c = 48 := byte_eq.1 (by rw [c2]; show _ = (48 : Int); omega)
    rw [x0, x1, x2]
  · intro h
    simp at h
    obtain ⟨rfl, rfl, rfl⟩ := h
    have y0 : ((48 : UInt8).toNat : Int) = 48 := rfl
    omega
end Go.Proofs.YtodfajjkngjgdaaDoor
