/- The forms of times: plain facts. No condition. -/
import Derived.Test.YtodfajjkngjgdaaDoorCalR
namespace Go.Proofs.YtodfajjkngjgdaaDoor
open Go Go.RowKit Go.PlainAid

def ClockAt (s : ByteArray) (k : Nat) : Prop := k + 8 ≤ s.size ∧ D2 s k ∧ bt s (k + 2) = 58 ∧ D2 s (k + 3) ∧ bt s (k + 5) = 58 ∧ D2 s (k + 6)
theorem clock_at (s : ByteArray) (k : Nat) (hk : k ≤ s.size) : ClockHead (dropB s k) ↔ ClockAt s k := by
  unfold ClockHead ClockAt
  rw [dropB_size, D2_drop, bt_drop, D2_drop, bt_drop, D2_drop]
  constructor
  · rintro ⟨h, r⟩; exact ⟨by omega, r⟩
  · rintro ⟨h, r⟩; exact ⟨by omega, r⟩
def TimeHead (s : ByteArray) : Prop := DateHead s ∧ bt s 10 = 84 ∧ ClockAt s 11
def Time20 (s : ByteArray) : Prop := s.size = 20 ∧ TimeHead s ∧ bt s 19 = 90
def Time24 (s : ByteArray) : Prop := s.size = 24 ∧ TimeHead s ∧ bt s 19 = 46 ∧ D2 s 20 ∧ dgP (bt s 22) ∧ bt s 23 = 90
theorem form20 (s : ByteArray) : formB s pat20 = true ↔ Time20 s := by
  have e : (s.size = pat20.size ∧ okTo s pat20 pat20.size) ↔ Time20 s := by
    rw [show pat20.size = 20 from rfl]
    constructor
    · rintro ⟨h, o⟩
      exact ⟨h, ⟨⟨by omega, ⟨(ok_dg rfl).1 (o 0 (by decide)), (ok_dg rfl).1 (o 1 (by decide))⟩, ⟨(ok_dg rfl).1 (o 2 (by decide)), (ok_dg rfl).1 (o 3 (by decide))⟩, (ok_ch rfl (by decide)).1 (o 4 (by decide)), ⟨(ok_dg rfl).1 (o 5 (by decide)), (ok_dg rfl).1 (o 6 (by decide))⟩, (ok_ch rfl (by decide)).1 (o 7 (by decide)), ⟨(ok_dg rfl).1 (o 8 (by decide)), (ok_dg rfl).1 (o 9 (by decide))⟩⟩, (ok_ch rfl (by decide)).1 (o 10 (by decide)), ⟨by omega, ⟨(ok_dg rfl).1 (o 11 (by decide)), (ok_dg rfl).1 (o 12 (by decide))⟩, (ok_ch rfl (by decide)).1 (o 13 (by decide)), ⟨(ok_dg rfl).1 (o 14 (by decide)), (ok_dg rfl).1 (o 15 (by decide))⟩, (ok_ch rfl (by decide)).1 (o 16 (by decide)), ⟨(ok_dg rfl).1 (o 17 (by decide)), (ok_dg rfl).1 (o 18 (by decide))⟩⟩⟩, (ok_ch rfl (by decide)).1 (o 19 (by decide))⟩
    · rintro ⟨h, ⟨⟨-, ⟨a0, a1⟩, ⟨a2, a3⟩, a4, ⟨a5, a6⟩, a7, ⟨a8, a9⟩⟩, a10, ⟨-, ⟨a11, a12⟩, a13, ⟨a14, a15⟩, a16, ⟨a17, a18⟩⟩⟩, a19⟩
      refine ⟨h, fun i hi => ?_⟩
      have : i = 0 ∨ i = 1 ∨ i = 2 ∨ i = 3 ∨ i = 4 ∨ i = 5 ∨ i = 6 ∨ i = 7 ∨ i = 8 ∨ i = 9 ∨ i = 10 ∨ i = 11 ∨ i = 12 ∨ i = 13 ∨ i = 14 ∨ i = 15 ∨ i = 16 ∨ i = 17 ∨ i = 18 ∨ i = 19 := by omega
      rcases this with rfl | rfl | rfl | rfl | rfl | rfl | rfl | rfl | rfl | rfl | rfl | rfl | rfl | rfl | rfl | rfl | rfl | rfl | rfl | rfl
      · exact (ok_dg rfl).2 a0
      · exact (ok_dg rfl).2 a1
      · exact (ok_dg rfl).2 a2
      · exact (ok_dg rfl).2 a3
      · exact (ok_ch rfl (by decide)).2 a4
      · exact (ok_dg rfl).2 a5
      · exact (ok_dg rfl).2 a6
      · exact (ok_ch rfl (by decide)).2 a7
      · exact (ok_dg rfl).2 a8
      · exact (ok_dg rfl).2 a9
      · exact (ok_ch rfl (by decide)).2 a10
      · exact (ok_dg rfl).2 a11
      · exact (ok_dg rfl).2 a12
      · exact (ok_ch rfl (by decide)).2 a13
      · exact (ok_dg rfl).2 a14
      · exact (ok_dg rfl).2 a15
      · exact (ok_ch rfl (by decide)).2 a16
      · exact (ok_dg rfl).2 a17
      · exact (ok_dg rfl).2 a18
      · exact (ok_ch rfl (by decide)).2 a19
  by_cases h : s.size = pat20.size ∧ okTo s pat20 pat20.size
  · rw [formB_yes h]; exact ⟨fun _ => e.1 h, fun _ => rfl⟩
  · rw [formB_no h]; exact ⟨(fun g => by cases g), fun g => absurd (e.2 g) h⟩
theorem form24 (s : ByteArray) : formB s pat24 = true ↔ Time24 s := by
  have e : (s.size = pat24.size ∧ okTo s pat24 pat24.size) ↔ Time24 s := by
    rw [show pat24.size = 24 from rfl]
    constructor
    · rintro ⟨h, o⟩
      exact ⟨h, ⟨⟨by omega, ⟨(ok_dg rfl).1 (o 0 (by decide)), (ok_dg rfl).1 (o 1 (by decide))⟩, ⟨(ok_dg rfl).1 (o 2 (by decide)), (ok_dg rfl).1 (o 3 (by decide))⟩, (ok_ch rfl (by decide)).1 (o 4 (by decide)), ⟨(ok_dg rfl).1 (o 5 (by decide)), (ok_dg rfl).1 (o 6 (by decide))⟩, (ok_ch rfl (by decide)).1 (o 7 (by decide)), ⟨(ok_dg rfl).1 (o 8 (by decide)), (ok_dg rfl).1 (o 9 (by decide))⟩⟩, (ok_ch rfl (by decide)).1 (o 10 (by decide)), ⟨by omega, ⟨(ok_dg rfl).1 (o 11 (by decide)), (ok_dg rfl).1 (o 12 (by decide))⟩, (ok_ch rfl (by decide)).1 (o 13 (by decide)), ⟨(ok_dg rfl).1 (o 14 (by decide)), (ok_dg rfl).1 (o 15 (by decide))⟩, (ok_ch rfl (by decide)).1 (o 16 (by decide)), ⟨(ok_dg rfl).1 (o 17 (by decide)), (ok_dg rfl).1 (o 18 (by decide))⟩⟩⟩, (ok_ch rfl (by decide)).1 (o 19 (by decide)), ⟨(ok_dg rfl).1 (o 20 (by decide)), (ok_dg rfl).1 (o 21 (by decide))⟩, (ok_dg rfl).1 (o 22 (by decide)), (ok_ch rfl (by decide)).1 (o 23 (by decide))⟩
    · rintro ⟨h, ⟨⟨-, ⟨a0, a1⟩, ⟨a2, a3⟩, a4, ⟨a5, a6⟩, a7, ⟨a8, a9⟩⟩, a10, ⟨-, ⟨a11, a12⟩, a13, ⟨a14, a15⟩, a16, ⟨a17, a18⟩⟩⟩, a19, ⟨a20, a21⟩, a22, a23⟩
      refine ⟨h, fun i hi => ?_⟩
      have : i = 0 ∨ i = 1 ∨ i = 2 ∨ i = 3 ∨ i = 4 ∨ i = 5 ∨ i = 6 ∨ i = 7 ∨ i = 8 ∨ i = 9 ∨ i = 10 ∨ i = 11 ∨ i = 12 ∨ i = 13 ∨ i = 14 ∨ i = 15 ∨ i = 16 ∨ i = 17 ∨ i = 18 ∨ i = 19 ∨ i = 20 ∨ i = 21 ∨ i = 22 ∨ i = 23 := by omega
      rcases this with rfl | rfl | rfl | rfl | rfl | rfl | rfl | rfl | rfl | rfl | rfl | rfl | rfl | rfl | rfl | rfl | rfl | rfl | rfl | rfl | rfl | rfl | rfl | rfl
      · exact (ok_dg rfl).2 a0
      · exact (ok_dg rfl).2 a1
      · exact (ok_dg rfl).2 a2
      · exact (ok_dg rfl).2 a3
      · exact (ok_ch rfl (by decide)).2 a4
      · exact (ok_dg rfl).2 a5
      · exact (ok_dg rfl).2 a6
      · exact (ok_ch rfl (by decide)).2 a7
      · exact (ok_dg rfl).2 a8
      · exact (ok_dg rfl).2 a9
      · exact (ok_ch rfl (by decide)).2 a10
      · exact (ok_dg rfl).2 a11
      · exact (ok_dg rfl).2 a12
      · exact (ok_ch rfl (by decide)).2 a13
      · exact (ok_dg rfl).2 a14
      · exact (ok_dg rfl).2 a15
      · exact (ok_ch rfl (by decide)).2 a16
      · exact (ok_dg rfl).2 a17
      · exact (ok_dg rfl).2 a18
      · exact (ok_ch rfl (by decide)).2 a19
      · exact (ok_dg rfl).2 a20
      · exact (ok_dg rfl).2 a21
      · exact (ok_dg rfl).2 a22
      · exact (ok_ch rfl (by decide)).2 a23
  by_cases h : s.size = pat24.size ∧ okTo s pat24 pat24.size
  · rw [formB_yes h]; exact ⟨fun _ => e.1 h, fun _ => rfl⟩
  · rw [formB_no h]; exact ⟨(fun g => by cases g), fun g => absurd (e.2 g) h⟩

/-! ### What the program cuts -/

noncomputable def u1 (s : ByteArray) : ByteArray := ⟨(Lib.trimPrefix (d3 s).data.toList [84]).toArray⟩
def hasT (s : ByteArray) : Bool := Lib.hasPrefix s.data.toList [84]
def hasDot (s : ByteArray) : Bool := Lib.hasPrefix s.data.toList [46]
def dotB (s : ByteArray) : ByteArray := ⟨(Lib.trimPrefix s.data.toList [46]).toArray⟩
noncomputable def pB (s : ByteArray) : Bool := if hasDot s = true then cB (dotB s) 3 ⟨#[]⟩ && (cN (dotB s) 3 != 0) else true
noncomputable def pR (s : ByteArray) : ByteArray := if hasDot s = true then cR (dotB s) 3 ⟨#[]⟩ else s
noncomputable def pN (s : ByteArray) : Int := if hasDot s = true then cN (dotB s) 3 else 0
def TimeIs (s : ByteArray) : Prop := Time20 s ∨ (Time24 s ∧ num (dropB s 20) 3 ≠ 0)
/-- all of the parts are there -/
def Cut (s : ByteArray) : Prop := dOk s = true ∧ hasT (d3 s) = true ∧ kOk (u1 s) = true ∧ pB (k3 (u1 s)) = true ∧ pR (k3 (u1 s)) = ⟨#[90]⟩
theorem one_byte {s : ByteArray} {c : UInt8} : s = ⟨#[c]⟩ ↔ s.size = 1 ∧ bt s 0 = (c.toNat : Int) := by
  constructor
  · rintro rfl; exact ⟨rfl, rfl⟩
  · rintro ⟨h1, h2⟩
    have hl : s.data.toList.length = 1 := by rw [size_list]; exact h1
    obtain ⟨a, ha⟩ := List.length_eq_one_iff.1 hl
    rw [bt_of ha] at h2
    have : a = c := byte_eq.1 h2
    subst this
    exact bytes_of ha
theorem has_at (s : ByteArray) (k : Nat) (c : UInt8) : Lib.hasPrefix (dropB s k).data.toList [c] = true ↔ k < s.size ∧ bt s k = (c.toNat : Int) := has_one s k c
theorem trim_at {s : ByteArray} {k : Nat} {c : UInt8} (h : Lib.hasPrefix (dropB s k).data.toList [c] = true) : (⟨(Lib.trimPrefix (dropB s k).data.toList [c]).toArray⟩ : ByteArray) = dropB s (k + 1) := by
  rw [trim_yes h, dropB_list, List.drop_drop]; rfl
theorem cut_time {s : ByteArray} (h : Cut s) : TimeIs s := by
  obtain ⟨h1, h2, h3, h4, h5⟩ := h
  obtain ⟨dh, -, -, e3⟩ := date_head h1
  unfold hasT at h2
  rw [e3] at h2
  obtain ⟨t1, t2⟩ := (has_at s 10 84).1 h2
  have eu : u1 s = dropB s 11 := by unfold u1; rw [e3, trim_at h2]
  rw [eu] at h3 h4 h5
  have ch := clock_head h3
  have ek := (head_clock ch).2.1
  rw [ek, dropB_dropB] at h4 h5
  have ca := (clock_at s 11 (by omega)).1 ch
  have th : TimeHead s := ⟨dh, t2, ca⟩
  have hz := ca.1
  by_cases hd : hasDot (dropB s 19) = true
  · rw [pB, if_pos hd] at h4
    rw [pR, if_pos hd] at h5
    unfold hasDot at hd
    obtain ⟨s1, s2⟩ := (has_at s 19 46).1 hd
    have eb : dotB (dropB s 19) = dropB s 20 := by unfold dotB; rw [trim_at hd]
    rw [eb] at h4 h5
    simp only [Bool.and_eq_true, bne_iff_ne, ne_eq] at h4
    obtain ⟨c1, c2⟩ := (cB_nil _ 3).1 h4.1
    rw [cR_nil h4.1, dropB_dropB] at h5
    obtain ⟨z1, z2⟩ := one_byte.1 h5
    rw [dropB_size] at z1 c1
    rw [bt_drop] at z2
    have c3 := (digs_3 _).1 c2
    rw [D2_drop, bt_drop] at c3
    right
    refine ⟨⟨by omega, th, s2, c3.1, c3.2, z2⟩, ?_⟩
    have := h4.2
    rwa [cN_of (by rw [dropB_size]; omega) c2] at this
  · rw [pR, if_neg hd] at h5
    obtain ⟨z1, z2⟩ := one_byte.1 h5
    rw [dropB_size] at z1
    rw [bt_drop] at z2
    exact .inl ⟨by omega, th, z2⟩
theorem time_cut {s : ByteArray} (h : TimeIs s) : Cut s ∧ cN (u1 s) 2 = num (dropB s 11) 2 ∧ cN (k1 (u1 s)) 2 = num (dropB s 14) 2 ∧ cN (k2 (u1 s)) 2 = num (dropB s 17) 2 ∧ pN (k3 (u1 s)) = (if s.size = 20 then 0 else num (dropB s 20) 3) := by
  have th : TimeHead s := by
    rcases h with h | h
    · exact h.2.1
    · exact h.1.2.1
  obtain ⟨dh, t2, ca⟩ := th
  have hz := ca.1
  obtain ⟨g1, e3, -⟩ := head_date dh
  have h2 : Lib.hasPrefix (dropB s 10).data.toList [84] = true := (has_at s 10 84).2 ⟨by omega, t2⟩
  have eu : u1 s = dropB s 11 := by unfold u1; rw [e3, trim_at h2]
  have ch := (clock_at s 11 (by omega)).2 ca
  obtain ⟨g3, ek, n1, n2, n3⟩ := head_clock ch
  rw [dropB_dropB] at ek
  have m2 : cN (k1 (u1 s)) 2 = num (dropB s 14) 2 := by rw [eu, n2, dropB_dropB]
  have m3 : cN (k2 (u1 s)) 2 = num (dropB s 17) 2 := by rw [eu, n3, dropB_dropB]
  have hT : hasT (d3 s) = true := by unfold hasT; rw [e3]; exact h2
  rcases h with ⟨a1, -, a3⟩ | ⟨⟨a1, -, a3, a4, a5, a6⟩, a7⟩
  · have hd : ¬ hasDot (dropB s 19) = true := fun hh => by
      have := ((has_at s 19 46).1 hh).2
      rw [a3] at this
      exact absurd this (by decide)
    refine ⟨⟨g1, hT, by rw [eu]; exact g3, by rw [eu, ek, pB, if_neg hd], ?_⟩, by rw [eu]; exact n1, m2, m3, ?_⟩
    · rw [eu, ek, pR, if_neg hd]
      exact one_byte.2 ⟨by rw [dropB_size]; omega, by rw [bt_drop]; exact a3⟩
    · rw [eu, ek, pN, if_neg hd, if_pos a1]
  · have hd : hasDot (dropB s 19) = true := (has_at s 19 46).2 ⟨by omega, a3⟩
    have eb : dotB (dropB s 19) = dropB s 20 := by unfold dotB; rw [trim_at hd]
    have c2 : digs (dropB s 20) 3 := (digs_3 _).2 ⟨(D2_drop ..).2 a4, by rw [bt_drop]; exact a5⟩
    have c1 : cB (dropB s 20) 3 ⟨#[]⟩ = true := (cB_nil _ 3).2 ⟨by rw [dropB_size]; omega, c2⟩
    have cn : cN (dropB s 20) 3 = num (dropB s 20) 3 := cN_of (by rw [dropB_size]; omega) c2
    refine ⟨⟨g1, hT, by rw [eu]; exact g3, ?_, ?_⟩, by rw [eu]; exact n1, m2, m3, ?_⟩
    · rw [eu, ek, pB, if_pos hd, eb, c1, cn]
      simpa using a7
    · rw [eu, ek, pR, if_pos hd, eb, cR_nil c1, dropB_dropB]
      exact one_byte.2 ⟨by rw [dropB_size]; omega, by rw [bt_drop]; exact a6⟩
    · rw [eu, ek, pN, if_pos hd, eb, cn, if_neg (by omega)]
end Go.Proofs.YtodfajjkngjgdaaDoor
