/- Plain facts on the calendar: leap years, months, the number of a day. No condition. -/
import Derived.PlainAid
namespace Go.Proofs.YtodfajjkngjgdaaDoor

def leapB (y : Int) : Bool := decide (1 ≤ y) && decide (y ≤ 9999) && (y % 4 == 0 && (y % 100 != 0 || y % 400 == 0))
def mlen (y m : Int) : Int := if m = 2 then (if leapB y = true then 29 else 28) else if m = 4 ∨ m = 6 ∨ m = 9 ∨ m = 11 then 30 else 31
def lens : List Int := [31, 28, 31, 30, 31, 30, 31, 31, 30, 31, 30, 31]
/-- the days before year q + 1 -/
def fd (q : Int) : Int := q * 365 + q / 4 - q / 100 + q / 400
def firstD (y : Int) : Int := -719162 + fd (y - 1)
/-- the days of the months 1 to k -/
def cumN (y : Int) : Nat → Int
  | 0 => 0
  | k + 1 => cumN y k + mlen y (k + 1)
def daysN (y m d : Int) : Int := firstD y + cumN y (m.toNat - 1) + d - 1

theorem mlen_bd (y m : Int) : 28 ≤ mlen y m ∧ mlen y m ≤ 31 := by
  unfold mlen
  repeat' split
  all_goals omega
theorem leap_iff {y : Int} : leapB y = true ↔ 1 ≤ y ∧ y ≤ 9999 ∧ y % 4 = 0 ∧ (y % 100 ≠ 0 ∨ y % 400 = 0) := by
  simp [leapB, and_assoc]
theorem fd_succ {y : Int} (h1 : 1 ≤ y) (h2 : y ≤ 9999) : firstD (y + 1) = firstD y + 365 + (if leapB y = true then 1 else 0) := by
  unfold firstD fd
  by_cases h : leapB y = true
  · have := leap_iff.1 h
    rw [if_pos h]; omega
  · rw [if_neg h]
    have h3 : ¬ (1 ≤ y ∧ y ≤ 9999 ∧ y % 4 = 0 ∧ (y % 100 ≠ 0 ∨ y % 400 = 0)) := fun e => h (leap_iff.2 e)
    omega
theorem cum12 (y : Int) : cumN y 12 = 365 + (if leapB y = true then 1 else 0) := by
  by_cases h : leapB y = true <;> simp [cumN, mlen, h]
theorem cumN_mono (y : Int) {a b : Nat} (h : a ≤ b) : cumN y a ≤ cumN y b := by
  induction b with
  | zero => obtain rfl : a = 0 := by omega
            exact Int.le_refl _
  | succ b ih =>
    by_cases e : a = b + 1
    · subst e; exact Int.le_refl _
    · have := ih (by omega)
      have hm := mlen_bd y (b + 1)
      have : cumN y (b + 1) = cumN y b + mlen y (b + 1) := rfl
      omega
theorem cumN_bd (y : Int) (k : Nat) (h : k ≤ 12) : 0 ≤ cumN y k ∧ cumN y k ≤ 366 := by
  have h1 := cumN_mono y (Nat.zero_le k)
  have h2 := cumN_mono y h
  have h3 := cum12 y
  have h0 : cumN y 0 = 0 := rfl
  by_cases hl : leapB y = true
  · rw [if_pos hl] at h3; omega
  · rw [if_neg hl] at h3; omega

theorem fd_400 (a b : Int) : fd (400 * a + b) = 146097 * a + fd b := by unfold fd; omega
theorem fd_dev : ∀ b : Fin 400, 400 * fd (b.val : Int) < 146097 * (b.val : Int) + 400 ∧ 146097 * ((b.val : Int) + 1) ≤ 400 * fd ((b.val : Int) + 2) := by decide +kernel
theorem fd_guess {x : Int} : fd (x * 400 / 146097) ≤ x ∧ x < fd (x * 400 / 146097 + 2) := by
  generalize hq : x * 400 / 146097 = q
  have h1 : 146097 * q ≤ x * 400 := by omega
  have h2 : x * 400 < 146097 * (q + 1) := by omega
  clear hq
  obtain ⟨a, b, hb0, hb1, rfl⟩ : ∃ a b : Int, 0 ≤ b ∧ b < 400 ∧ q = 400 * a + b := ⟨q / 400, q % 400, by omega, by omega, by omega⟩
  have hd := fd_dev ⟨b.toNat, by omega⟩
  have e : ((b.toNat : Nat) : Int) = b := by omega
  simp only [e] at hd
  rw [show 400 * a + b + 2 = 400 * a + (b + 2) by omega, fd_400, fd_400]
  omega
theorem fd_bd {q : Int} (h0 : 0 ≤ q) (h1 : q ≤ 10001) : 0 ≤ fd q ∧ fd q ≤ 3652790 := by unfold fd; omega
theorem fd_9999 : fd 9999 = 3652059 := by decide

theorem date_unique {y m d y' m' d' : Int} (hy : 1 ≤ y) (hy' : y ≤ 9999) (hm : 1 ≤ m) (hm' : m ≤ 12) (hd : 1 ≤ d) (hd' : d ≤ mlen y m)
    (gy : 1 ≤ y') (gy' : y' ≤ 9999) (gm : 1 ≤ m') (gm' : m' ≤ 12) (gd : 1 ≤ d') (gd' : d' ≤ mlen y' m') (h : daysN y m d = daysN y' m' d') : y = y' ∧ m = m' ∧ d = d' := by
  have key : ∀ {y m d : Int}, 1 ≤ y → y ≤ 9999 → 1 ≤ m → m ≤ 12 → 1 ≤ d → d ≤ mlen y m → firstD y ≤ daysN y m d ∧ daysN y m d < firstD (y + 1) := by
    intro y m d a b c e f g
    have h1 := fd_succ a b
    have h2 := cum12 y
    have h3 := cumN_mono y (show m.toNat ≤ 12 by omega)
    obtain ⟨k, rfl⟩ : ∃ k : Nat, m = k + 1 := ⟨(m - 1).toNat, by omega⟩
    have e1 : ((k : Int) + 1).toNat = k + 1 := by omega
    have e2 : ((k : Int) + 1).toNat - 1 = k := by omega
    rw [e1] at h3
    have h4 : cumN y (k + 1) = cumN y k + mlen y (k + 1) := rfl
    have h5 := cumN_bd y k (by omega)
    unfold daysN
    rw [e2]
    omega
  have k1 := key hy hy' hm hm' hd hd'
  have k2 := key gy gy' gm gm' gd gd'
  have fmono : ∀ a b : Int, 1 ≤ a → a < b → b ≤ 10000 → firstD (a + 1) ≤ firstD b := by
    intro a b _ _ _
    unfold firstD fd
    omega
  have ey : y = y' := by
    rcases Int.lt_trichotomy y y' with e | e | e
    · have := fmono y y' hy e (by omega); omega
    · exact e
    · have := fmono y' y gy e (by omega); omega
  subst ey
  obtain ⟨k, rfl⟩ : ∃ k : Nat, m = k + 1 := ⟨(m - 1).toNat, by omega⟩
  obtain ⟨k', rfl⟩ : ∃ k' : Nat, m' = k' + 1 := ⟨(m' - 1).toNat, by omega⟩
  unfold daysN at h
  rw [show ((k : Int) + 1).toNat - 1 = k by omega, show ((k' : Int) + 1).toNat - 1 = k' by omega] at h
  have a1 : cumN y (k + 1) = cumN y k + mlen y (k + 1) := rfl
  have a2 : cumN y (k' + 1) = cumN y k' + mlen y (k' + 1) := rfl
  have ek : k = k' := by
    rcases Nat.lt_trichotomy k k' with e | e | e
    · have := cumN_mono y (show k + 1 ≤ k' by omega); omega
    · exact e
    · have := cumN_mono y (show k' + 1 ≤ k by omega); omega
  subst ek
  exact ⟨rfl, rfl, by omega⟩
end Go.Proofs.YtodfajjkngjgdaaDoor
