/- The forms of dates and times, byte by byte: plain facts. No condition. -/
import Derived.Test.YtodfajjkngjgdaaDoorCalQ
import Derived.Test.YtodfajjkngjgdaaDoorCalSpanE
namespace Go.Proofs.YtodfajjkngjgdaaDoor
open Go Go.RowKit Go.PlainAid

def dgP (x : Int) : Prop := 48 ≤ x ∧ x ≤ 57
def D2 (s : ByteArray) (k : Nat) : Prop := dgP (bt s k) ∧ dgP (bt s (k + 1))
theorem bt_drop (s : ByteArray) (k i : Nat) : bt (dropB s k) i = bt s (k + i) := by
  rw [bt_of (dropB_list s k), bt_of (rfl : s.data.toList = s.data.toList), List.getElem?_drop]
theorem dropB_dropB (s : ByteArray) (a b : Nat) : dropB (dropB s a) b = dropB s (a + b) := by
  apply ByteArray.ext
  apply Array.toList_inj.1
  rw [dropB_list, dropB_list, dropB_list, List.drop_drop]
theorem D2_drop (s : ByteArray) (a k : Nat) : D2 (dropB s a) k ↔ D2 s (a + k) := by
  unfold D2; rw [bt_drop, bt_drop, Nat.add_assoc]
theorem digs_2 (s : ByteArray) : digs s 2 ↔ D2 s 0 := by
  constructor
  · intro h; exact ⟨h 0 (by omega), h 1 (by omega)⟩
  · rintro ⟨h0, h1⟩ i hi
    have : i = 0 ∨ i = 1 := by omega
    rcases this with rfl | rfl
    · exact h0
    · exact h1
theorem digs_4 (s : ByteArray) : digs s 4 ↔ D2 s 0 ∧ D2 s 2 := by
  constructor
  · intro h; exact ⟨⟨h 0 (by omega), h 1 (by omega)⟩, ⟨h 2 (by omega), h 3 (by omega)⟩⟩
  · rintro ⟨⟨h0, h1⟩, ⟨h2, h3⟩⟩ i hi
    have : i = 0 ∨ i = 1 ∨ i = 2 ∨ i = 3 := by omega
    rcases this with rfl | rfl | rfl | rfl
    · exact h0
    · exact h1
    · exact h2
    · exact h3
theorem digs_3 (s : ByteArray) : digs s 3 ↔ D2 s 0 ∧ dgP (bt s 2) := by
  constructor
  · intro h; exact ⟨⟨h 0 (by omega), h 1 (by omega)⟩, h 2 (by omega)⟩
  · rintro ⟨⟨h0, h1⟩, h2⟩ i hi
    have : i = 0 ∨ i = 1 ∨ i = 2 := by omega
    rcases this with rfl | rfl | rfl
    · exact h0
    · exact h1
    · exact h2
theorem take_all (s : ByteArray) (n : Nat) : List.take (s.size - n) (List.drop n s.data.toList) = s.data.toList.drop n := List.take_of_length_le (by rw [List.length_drop, size_list]; omega)
theorem byte_eq {a c : UInt8} : (a.toNat : Int) = (c.toNat : Int) ↔ a = c := by
  constructor
  · intro h; exact UInt8.toNat_inj.1 (by omega)
  · rintro rfl; rfl
theorem has_one (s : ByteArray) (n : Nat) (c : UInt8) : Lib.hasPrefix (s.data.toList.drop n) [c] = true ↔ n < s.size ∧ bt s n = (c.toNat : Int) := by
  rcases Nat.lt_or_ge n s.size with h | h
  · have hl : n < s.data.toList.length := by rw [size_list]; exact h
    rw [List.drop_eq_getElem_cons hl, bt_of (rfl : s.data.toList = s.data.toList), List.getElem?_eq_getElem hl]
    simp only [Lib.hasPrefix, List.isPrefixOf, Bool.and_true, beq_iff_eq, Option.getD_some, byte_eq]
    exact ⟨fun e => ⟨h, e.symm⟩, fun e => e.2.symm⟩
  · rw [List.drop_eq_nil_of_le (by rw [size_list]; exact h)]
    simp only [Lib.hasPrefix, List.isPrefixOf]
    exact ⟨(fun e => by cases e), fun e => by omega⟩
theorem trim_yes {l : List UInt8} {c : UInt8} (h : Lib.hasPrefix l [c] = true) : Lib.trimPrefix l [c] = l.drop 1 := by
  rw [Lib.trimPrefix, if_pos h]; rfl
theorem cB_one (s : ByteArray) (n : Nat) (c : UInt8) : cB s n ⟨#[c]⟩ = true ↔ n < s.size ∧ digs s n ∧ bt s n = (c.toNat : Int) := by
  unfold cB
  by_cases h : n ≤ s.size ∧ digs s n
  · rw [if_pos h, take_all]
    exact (has_one s n c).trans ⟨fun e => ⟨e.1, h.2, e.2⟩, fun e => ⟨e.1, e.2.2⟩⟩
  · rw [if_neg h]
    exact ⟨(fun e => by cases e), fun e => absurd ⟨by omega, e.2.1⟩ h⟩
theorem cR_one {s : ByteArray} {n : Nat} {c : UInt8} (h : cB s n ⟨#[c]⟩ = true) : cR s n ⟨#[c]⟩ = dropB s (n + 1) := by
  obtain ⟨h1, h2, h3⟩ := (cB_one s n c).1 h
  rw [cR, if_pos ⟨by omega, h2⟩, take_all, show (⟨#[c]⟩ : ByteArray).data.toList = [c] from rfl, trim_yes ((has_one s n c).2 ⟨h1, h3⟩), List.drop_drop]
  rfl
theorem cB_nil (s : ByteArray) (n : Nat) : cB s n ⟨#[]⟩ = true ↔ n ≤ s.size ∧ digs s n := by
  unfold cB
  by_cases h : n ≤ s.size ∧ digs s n
  · rw [if_pos h]; exact ⟨fun _ => h, fun _ => (trim_none _).2⟩
  · rw [if_neg h]; exact ⟨(fun e => by cases e), fun e => absurd e h⟩
theorem cR_nil {s : ByteArray} {n : Nat} (h : cB s n ⟨#[]⟩ = true) : cR s n ⟨#[]⟩ = dropB s n := by
  rw [cR, if_pos ((cB_nil s n).1 h), take_all]
  show (⟨(Lib.trimPrefix _ []).toArray⟩ : ByteArray) = _
  rw [(trim_none _).1]; rfl
theorem cN_of {s : ByteArray} {n : Nat} (h1 : n ≤ s.size) (h2 : digs s n) : cN s n = num s n := by rw [cN, if_pos ⟨h1, h2⟩]

def DateHead (s : ByteArray) : Prop := 10 ≤ s.size ∧ D2 s 0 ∧ D2 s 2 ∧ bt s 4 = 45 ∧ D2 s 5 ∧ bt s 7 = 45 ∧ D2 s 8
theorem date_head {s : ByteArray} (h : dOk s = true) : DateHead s ∧ d1 s = dropB s 5 ∧ d2 s = dropB s 8 ∧ d3 s = dropB s 10 := by
  unfold dOk at h
  simp only [Bool.and_eq_true] at h
  obtain ⟨⟨h1, h2⟩, h3⟩ := h
  have e1 : d1 s = dropB s 5 := cR_one h1
  rw [e1] at h2
  have e2 : d2 s = dropB s 8 := by unfold d2; rw [e1, cR_one h2, dropB_dropB]
  rw [e2] at h3
  have e3 : d3 s = dropB s 10 := by unfold d3; rw [e2, cR_nil h3, dropB_dropB]
  obtain ⟨a1, a2, a3⟩ := (cB_one s 4 45).1 h1
  obtain ⟨b1, b2, b3⟩ := (cB_one _ 2 45).1 h2
  obtain ⟨c1, c2⟩ := (cB_nil _ 2).1 h3
  rw [dropB_size] at b1 c1
  rw [digs_2, D2_drop] at b2 c2
  rw [bt_drop] at b3
  have a4 := (digs_4 s).1 a2
  exact ⟨⟨by omega, a4.1, a4.2, a3, b2, b3, c2⟩, e1, e2, e3⟩
theorem head_date {s : ByteArray} (h : DateHead s) : dOk s = true ∧ d3 s = dropB s 10 ∧ cN s 4 = num s 4 ∧ cN (d1 s) 2 = num (dropB s 5) 2 ∧ cN (d2 s) 2 = num (dropB s 8) 2 := by
  obtain ⟨h0, h1, h2, h3, h4, h5, h6⟩ := h
  have g4 := (digs_4 s).2 ⟨h1, h2⟩
  have b1 : cB s 4 ⟨#[45]⟩ = true := (cB_one s 4 45).2 ⟨by omega, g4, h3⟩
  have e1 : d1 s = dropB s 5 := cR_one b1
  have g2 : digs (dropB s 5) 2 := (digs_2 _).2 ((D2_drop ..).2 h4)
  have b2 : cB (dropB s 5) 2 ⟨#[45]⟩ = true := (cB_one _ 2 45).2 ⟨by rw [dropB_size]; omega, g2, by rw [bt_drop]; exact h5⟩
  have e2 : d2 s = dropB s 8 := by unfold d2; rw [e1, cR_one b2, dropB_dropB]
  have g3 : digs (dropB s 8) 2 := (digs_2 _).2 ((D2_drop ..).2 h6)
  have b3 : cB (dropB s 8) 2 ⟨#[]⟩ = true := (cB_nil _ 2).2 ⟨by rw [dropB_size]; omega, g3⟩
  have e3 : d3 s = dropB s 10 := by unfold d3; rw [e2, cR_nil b3, dropB_dropB]
  refine ⟨?_, e3, cN_of (by omega) g4, by rw [e1]; exact cN_of (by rw [dropB_size]; omega) g2, by rw [e2]; exact cN_of (by rw [dropB_size]; omega) g3⟩
  unfold dOk
  rw [e1, e2, b1, b2, b3]; rfl
def ClockHead (s : ByteArray) : Prop := 8 ≤ s.size ∧ D2 s 0 ∧ bt s 2 = 58 ∧ D2 s 3 ∧ bt s 5 = 58 ∧ D2 s 6
theorem clock_head {s : ByteArray} (h : kOk s = true) : ClockHead s := by
  unfold kOk at h
  simp only [Bool.and_eq_true] at h
  obtain ⟨⟨h1, h2⟩, h3⟩ := h
  have e1 : k1 s = dropB s 3 := cR_one h1
  rw [e1] at h2
  have e2 : k2 s = dropB s 6 := by unfold k2; rw [e1, cR_one h2, dropB_dropB]
  rw [e2] at h3
  obtain ⟨a1, a2, a3⟩ := (cB_one s 2 58).1 h1
  obtain ⟨b1, b2, b3⟩ := (cB_one _ 2 58).1 h2
  obtain ⟨c1, c2⟩ := (cB_nil _ 2).1 h3
  rw [dropB_size] at b1 c1
  rw [digs_2, D2_drop] at b2 c2
  rw [bt_drop] at b3
  exact ⟨by omega, (digs_2 s).1 a2, a3, b2, b3, c2⟩
theorem head_clock {s : ByteArray} (h : ClockHead s) : kOk s = true ∧ k3 s = dropB s 8 ∧ cN s 2 = num s 2 ∧ cN (k1 s) 2 = num (dropB s 3) 2 ∧ cN (k2 s) 2 = num (dropB s 6) 2 := by
  obtain ⟨h0, h1, h3, h4, h5, h6⟩ := h
  have g4 := (digs_2 s).2 h1
  have b1 : cB s 2 ⟨#[58]⟩ = true := (cB_one s 2 58).2 ⟨by omega, g4, h3⟩
  have e1 : k1 s = dropB s 3 := cR_one b1
  have g2 : digs (dropB s 3) 2 := (digs_2 _).2 ((D2_drop ..).2 h4)
  have b2 : cB (dropB s 3) 2 ⟨#[58]⟩ = true := (cB_one _ 2 58).2 ⟨by rw [dropB_size]; omega, g2, by rw [bt_drop]; exact h5⟩
  have e2 : k2 s = dropB s 6 := by unfold k2; rw [e1, cR_one b2, dropB_dropB]
  have g3 : digs (dropB s 6) 2 := (digs_2 _).2 ((D2_drop ..).2 h6)
  have b3 : cB (dropB s 6) 2 ⟨#[]⟩ = true := (cB_nil _ 2).2 ⟨by rw [dropB_size]; omega, g3⟩
  have e3 : k3 s = dropB s 8 := by unfold k3; rw [e2, cR_nil b3, dropB_dropB]
  refine ⟨?_, e3, cN_of (by omega) g4, by rw [e1]; exact cN_of (by rw [dropB_size]; omega) g2, by rw [e2]; exact cN_of (by rw [dropB_size]; omega) g3⟩
  unfold kOk
  rw [e1, e2, b1, b2, b3]; rfl

/-! ### The patterns -/

def pat10 : ByteArray := ⟨#[48, 48, 48, 48, 45, 48, 48, 45, 48, 48]⟩
def pat20 : ByteArray := ⟨#[48, 48, 48, 48, 45, 48, 48, 45, 48, 48, 84, 48, 48, 58, 48, 48, 58, 48, 48, 90]⟩
def pat24 : ByteArray := ⟨#[48, 48, 48, 48, 45, 48, 48, 45, 48, 48, 84, 48, 48, 58, 48, 48, 58, 48, 48, 46, 48, 48, 48, 90]⟩
theorem ok_dg {s t : ByteArray} {k : Nat} (h : bt t k = 48) : okAt s t k ↔ dgP (bt s k) := by
  unfold okAt dgP; rw [h]; omega
theorem ok_ch {s t : ByteArray} {k : Nat} {c : Int} (h : bt t k = c) (hc : c ≠ 48) : okAt s t k ↔ bt s k = c := by
  unfold okAt; rw [h]; omega
theorem form10 (s : ByteArray) : formB s pat10 = true ↔ s.size = 10 ∧ DateHead s := by
  have e : (s.size = pat10.size ∧ okTo s pat10 pat10.size) ↔ s.size = 10 ∧ DateHead s := by
    rw [show pat10.size = 10 from rfl]
    constructor
    · rintro ⟨h, o⟩
      exact ⟨h, by omega, ⟨(ok_dg rfl).1 (o 0 (by decide)), (ok_dg rfl).1 (o 1 (by decide))⟩, ⟨(ok_dg rfl).1 (o 2 (by decide)), (ok_dg rfl).1 (o 3 (by decide))⟩, (ok_ch rfl (by decide)).1 (o 4 (by decide)), ⟨(ok_dg rfl).1 (o 5 (by decide)), (ok_dg rfl).1 (o 6 (by decide))⟩, (ok_ch rfl (by decide)).1 (o 7 (by decide)), ⟨(ok_dg rfl).1 (o 8 (by decide)), (ok_dg rfl).1 (o 9 (by decide))⟩⟩
    · rintro ⟨h, -, ⟨a0, a1⟩, ⟨a2, a3⟩, a4, ⟨a5, a6⟩, a7, ⟨a8, a9⟩⟩
      refine ⟨h, fun i hi => ?_⟩
      have : i = 0 ∨ i = 1 ∨ i = 2 ∨ i = 3 ∨ i = 4 ∨ i = 5 ∨ i = 6 ∨ i = 7 ∨ i = 8 ∨ i = 9 := by omega
      rcases this with rfl | rfl | rfl | rfl | rfl | rfl | rfl | rfl | rfl | rfl
      · exact (ok_dg rfl).2 a0
      · exact (ok_dg rfl).2 a1
      · exact (ok_dg rfl).2 a2
      · exact (ok_dg rfl).2 a3
      · exact (ok_ch rfl (by decide)).2 a4
      · exact (ok_dg rfl).2 a5
      · exact (ok_dg rfl).2 a6
      · exact (ok_ch rfl (by decide)).2 a7
      · exact (ok_dg rfl).2 a8
      · exact (ok_dg rfl).2 a9
  by_cases h : s.size = pat10.size ∧ okTo s pat10 pat10.size
  · rw [formB_yes h]; exact ⟨fun _ => e.1 h, fun _ => rfl⟩
  · rw [formB_no h]; exact ⟨(fun g => by cases g), fun g => absurd (e.2 g) h⟩
end Go.Proofs.YtodfajjkngjgdaaDoor
