/- CalendarSuccessors, walked. Conditions: the tables hold what the program's text lays. -/
import Derived.Test.YtodfajjkngjgdaaDoorCalH
namespace Go.Proofs.YtodfajjkngjgdaaDoor
open Go Go.RowKit Go.PlainAid

def dgt (n : Nat) : UInt8 := UInt8.ofNat (48 + n)
theorem digits_lt10 {n : Nat} (h : n < 10) : Lib.decDigits n = [dgt n] := by rw [Lib.decDigits, dif_pos h]; rfl
theorem digits_more {n : Nat} (h : ¬ n < 10) : Lib.decDigits n = Lib.decDigits (n / 10) ++ [dgt (n % 10)] := by rw [Lib.decDigits, dif_neg h]; rfl
theorem pad2 {n : Nat} (h : n < 100) : padL n 2 = [dgt (n / 10), dgt (n % 10)] := by
  unfold padL
  rw [← Lib.decDigits_length]
  by_cases h1 : n < 10
  · rw [digits_lt10 h1, show n / 10 = 0 by omega, show n % 10 = n by omega]; rfl
  · rw [digits_more h1, digits_lt10 (show n / 10 < 10 by omega)]; rfl
theorem pad4 {n : Nat} (h : n < 10000) : padL n 4 = [dgt (n / 1000), dgt (n / 100 % 10), dgt (n / 10 % 10), dgt (n % 10)] := by
  unfold padL
  rw [← Lib.decDigits_length]
  by_cases h1 : n < 10
  · rw [digits_lt10 h1, show n / 1000 = 0 by omega, show n / 100 % 10 = 0 by omega, show n / 10 % 10 = 0 by omega, show n % 10 = n by omega]; rfl
  by_cases h2 : n < 100
  · rw [digits_more h1, digits_lt10 (show n / 10 < 10 by omega), show n / 1000 = 0 by omega, show n / 100 % 10 = 0 by omega, show n / 10 % 10 = n / 10 by omega]; rfl
  by_cases h3 : n < 1000
  · rw [digits_more h1, digits_more (show ¬ n / 10 < 10 by omega), digits_lt10 (show n / 10 / 10 < 10 by omega), show n / 1000 = 0 by omega, show n / 100 % 10 = n / 10 / 10 by omega]; rfl
  · rw [digits_more h1, digits_more (show ¬ n / 10 < 10 by omega), digits_more (show ¬ n / 10 / 10 < 10 by omega), digits_lt10 (show n / 10 / 10 / 10 < 10 by omega), show n / 1000 = n / 10 / 10 / 10 by omega, show n / 100 % 10 = n / 10 / 10 % 10 by omega]; rfl
theorem dgt_lt {a b : Nat} (ha : a < 10) (hb : b < 10) : (dgt a < dgt b) ↔ a < b := by
  unfold dgt
  rw [UInt8.lt_iff_toNat_lt, UInt8.toNat_ofNat', UInt8.toNat_ofNat']; omega
theorem dgt_eq {a b : Nat} (ha : a < 10) (hb : b < 10) : (dgt a == dgt b) = decide (a = b) := by
  unfold dgt
  rw [Bool.eq_iff_iff, beq_iff_eq, decide_eq_true_eq, ← UInt8.toNat_inj, UInt8.toNat_ofNat', UInt8.toNat_ofNat']; omega

/-- the texts of dates are ordered as the dates are -/
theorem date_less {y m d y' m' d' : Nat} (hy : y < 10000) (hm : m < 100) (hd : d < 100) (gy : y' < 10000) (gm : m' < 100) (gd : d' < 100)
    (h : y < y' ∨ (y = y' ∧ (m < m' ∨ (m = m' ∧ d < d')))) : Op.bytesLess (dateL y m d) (dateL y' m' d') = true := by
  unfold dateL
  rw [pad4 hy, pad2 hm, pad2 hd, pad4 gy, pad2 gm, pad2 gd]
  simp only [List.cons_append, List.nil_append, Op.bytesLess]
  simp only [Bool.or_eq_true, Bool.and_eq_true, decide_eq_true_eq, dgt_eq (show y / 1000 < 10 by omega) (show y' / 1000 < 10 by omega), dgt_eq (show y / 100 % 10 < 10 by omega) (show y' / 100 % 10 < 10 by omega), dgt_eq (show y / 10 % 10 < 10 by omega) (show y' / 10 % 10 < 10 by omega), dgt_eq (show y % 10 < 10 by omega) (show y' % 10 < 10 by omega),
    dgt_eq (show m / 10 < 10 by omega) (show m' / 10 < 10 by omega), dgt_eq (show m % 10 < 10 by omega) (show m' % 10 < 10 by omega), dgt_eq (show d / 10 < 10 by omega) (show d' / 10 < 10 by omega), dgt_eq (show d % 10 < 10 by omega) (show d' % 10 < 10 by omega),
    dgt_lt (show y / 1000 < 10 by omega) (show y' / 1000 < 10 by omega), dgt_lt (show y / 100 % 10 < 10 by omega) (show y' / 100 % 10 < 10 by omega), dgt_lt (show y / 10 % 10 < 10 by omega) (show y' / 10 % 10 < 10 by omega), dgt_lt (show y % 10 < 10 by omega) (show y' % 10 < 10 by omega),
    dgt_lt (show m / 10 < 10 by omega) (show m' / 10 < 10 by omega), dgt_lt (show m % 10 < 10 by omega) (show m' % 10 < 10 by omega), dgt_lt (show d / 10 < 10 by omega) (show d' / 10 < 10 by omega), dgt_lt (show d % 10 < 10 by omega) (show d' % 10 < 10 by omega)]
  simp
  omega

/-- the next day's date -/
theorem next_date {y m d y' m' d' : Int} (h : isDateB y m d) (h' : isDateB y' m' d') (e : daysN y' m' d' = daysN y m d + 1) :
    (d < mlen y m → y' = y ∧ m' = m ∧ d' = d + 1) ∧ (¬ d < mlen y m → m < 12 → y' = y ∧ m' = m + 1 ∧ d' = 1) ∧ (¬ d < mlen y m → ¬ m < 12 → y' = y + 1 ∧ m' = 1 ∧ d' = 1) := by
  obtain ⟨h1, h2, h3, h4, h5, h6⟩ := h
  refine ⟨fun c => ?_, fun c c2 => ?_, fun c c2 => ?_⟩
  · have hd : isDateB y m (d + 1) := ⟨h1, h2, h3, h4, by omega, by omega⟩
    exact date_same h' hd (by rw [e]; unfold daysN; omega)
  · have hd : isDateB y (m + 1) 1 := ⟨h1, h2, by omega, by omega, by omega, by have := mlen_bd y (m + 1); omega⟩
    refine date_same h' hd ?_
    rw [e]
    obtain ⟨k, rfl⟩ : ∃ k : Nat, m = k + 1 := ⟨(m - 1).toNat, by omega⟩
    have hc : cumN y (k + 1) = cumN y k + mlen y (k + 1) := rfl
    unfold daysN
    rw [show ((k : Int) + 1).toNat - 1 = k by omega, show ((k : Int) + 1 + 1).toNat - 1 = k + 1 by omega]
    omega
  · obtain rfl : m = 12 := by omega
    have hs := fd_succ h1 h2
    have hl := cum12 y
    have hc : cumN y 12 = cumN y 11 + mlen y 12 := rfl
    have hb := daysN_bd h'
    have hdd : d = mlen y 12 := by omega
    have e2 : daysN y 12 d + 1 = firstD (y + 1) := by
      unfold daysN
      rw [show (12 : Int).toNat - 1 = 11 by decide]
      cases hp : leapB y <;> simp only [hp, if_true, if_false, Bool.false_eq_true] at hs hl <;> omega
    have hy : y ≤ 9998 := by
      by_cases c3 : y = 9999
      · subst c3
        rw [e, e2] at hb
        have : firstD (9999 + 1) = 2932897 := by decide
        omega
      · omega
    exact date_same h' (isDate_first (by omega) (by omega)) (by rw [e, e2, daysN_first])
theorem next_less {y m d y' m' d' : Nat} (h : isDateB y m d) (h' : isDateB y' m' d') (e : daysN y' m' d' = daysN y m d + 1) : Op.bytesLess (dateL y m d) (dateL y' m' d') = true := by
  have hn := next_date h h' e
  obtain ⟨h1, h2, h3, h4, h5, h6⟩ := h
  obtain ⟨g1, g2, g3, g4, g5, g6⟩ := h'
  have hb := mlen_bd y m
  have gb := mlen_bd y' m'
  refine date_less (by omega) (by omega) (by omega) (by omega) (by omega) (by omega) ?_
  by_cases c : (d : Int) < mlen y m
  · have := hn.1 c; omega
  · by_cases c2 : (m : Int) < 12
    · have := hn.2.1 c c2; omega
    · have := hn.2.2 c c2; omega

end Go.Proofs.YtodfajjkngjgdaaDoor
