/- Long division of two words by one: what its steps come to; plain arithmetic. No condition. -/
import Derived.Test.YtcifakhpggoebabGreatDoorDecKnuth
import Derived.Lib.ItoaNum
namespace Go.Proofs.YtcifakhpggoebabGreatDoor

theorem long_div (B x y P Y u d e : Nat) (hP : 0 < P) (hy : 0 < y) (hY : Y = y * P) (h : x * P = (u * B + d) * B + e) :
    (u * B + d) / Y * B + ((u * B + d) % Y * B + e) / Y = x / y ∧ ((u * B + d) % Y * B + e) % Y / P = x % y := by
  have hY0 : 0 < Y := by rw [hY]; exact Nat.mul_pos hy hP
  have h1 := Nat.div_add_mod (u * B + d) Y
  generalize (u * B + d) / Y = q1 at *
  generalize (u * B + d) % Y = r1 at *
  have h2 := Nat.div_add_mod (r1 * B + e) Y
  have h3 := Nat.mod_lt (r1 * B + e) hY0
  generalize (r1 * B + e) / Y = q0 at *
  generalize (r1 * B + e) % Y = r at *
  have h4 : x * P = (q1 * B + q0) * Y + r := by
    rw [h, ← h1, Nat.add_mul, Nat.add_mul, Nat.mul_comm Y q1, Nat.mul_right_comm, Nat.add_assoc, Nat.add_assoc, ← h2, Nat.mul_comm Y q0]
  have h5 : x * P / Y = q1 * B + q0 := by
    rw [h4, Nat.mul_comm, Nat.mul_add_div hY0, Nat.div_eq_of_lt h3, Nat.add_zero]
  have h6 : x * P % Y = r := by
    rw [h4, Nat.mul_comm, Nat.mul_add_mod, Nat.mod_eq_of_lt h3]
  rw [hY, Nat.mul_div_mul_right _ _ hP] at h5
  rw [hY, Nat.mul_mod_mul_right] at h6
  refine ⟨h5.symm, ?_⟩
  rw [← h6, Nat.mul_div_cancel _ hP]

/-- how far a word is shifted, so that its highest bit is set -/
theorem norm_shift {y : Nat} (h0 : 0 < y) (h1 : y < 18446744073709551616) : ∃ s : Nat, Lib.bitLen y = 64 - s ∧ s ≤ 63 ∧ 9223372036854775808 ≤ y * 2 ^ s ∧ y * 2 ^ s < 18446744073709551616 := by
  obtain ⟨a, b, c⟩ := Lib.bitLenAux_bounds 64 y h1 (by omega)
  have hle : Lib.bitLen y ≤ 64 := Lib.bitLen_le y 64 (by omega) h1
  have e : Lib.bitLen y = Lib.bitLenAux 64 y := rfl
  rw [← e] at a b c
  refine ⟨64 - Lib.bitLen y, by omega, by omega, ?_, ?_⟩
  · have : 2 ^ (Lib.bitLen y - 1) * 2 ^ (64 - Lib.bitLen y) = 9223372036854775808 := by
      rw [← Nat.pow_add, show Lib.bitLen y - 1 + (64 - Lib.bitLen y) = 63 by omega]
    rw [← this]
    exact Nat.mul_le_mul_right _ b
  · have : 2 ^ Lib.bitLen y * 2 ^ (64 - Lib.bitLen y) = 18446744073709551616 := by
      rw [← Nat.pow_add, show Lib.bitLen y + (64 - Lib.bitLen y) = 64 by omega]
    rw [← this]
    exact (Nat.mul_lt_mul_right (Nat.pow_pos (by decide))).2 c
/-- the two words of a shifted double word -/
theorem shift_words {hi lo y s : Nat} (hs0 : 1 ≤ s) (hs : s ≤ 63) (hh : hi < y) (hl : lo < 18446744073709551616) :
    (hi * 18446744073709551616 + lo) * 2 ^ s = (hi * 2 ^ s + lo / 2 ^ (64 - s)) * 18446744073709551616 + lo * 2 ^ s % 18446744073709551616 ∧ hi * 2 ^ s + lo / 2 ^ (64 - s) < y * 2 ^ s ∧ lo / 2 ^ (64 - s) < 2 ^ s := by
  have hp : 2 ^ s * 2 ^ (64 - s) = 18446744073709551616 := by rw [← Nat.pow_add, show s + (64 - s) = 64 by omega]
  have h0 : 0 < 2 ^ (64 - s) := Nat.pow_pos (by decide)
  have h1 : 0 < 2 ^ s := Nat.pow_pos (by decide)
  have h2 : lo / 2 ^ (64 - s) < 2 ^ s := by rw [Nat.div_lt_iff_lt_mul h0, hp]; exact hl
  have h3 : lo * 2 ^ s / 18446744073709551616 = lo / 2 ^ (64 - s) := by rw [← hp, Nat.mul_comm lo, Nat.mul_div_mul_left _ _ h1]
  have h4 := Nat.div_add_mod (lo * 2 ^ s) 18446744073709551616
  have h5 : (hi + 1) * 2 ^ s ≤ y * 2 ^ s := Nat.mul_le_mul_right _ hh
  rw [Nat.add_mul, Nat.one_mul] at h5
  refine ⟨?_, by omega, h2⟩
  rw [h3] at h4
  rw [Nat.add_mul, Nat.add_mul, Nat.mul_right_comm]
  omega
/-- a difference that is small is computed right in a word -/
theorem word_sub {a b r : Nat} (h : a = b + r) (hr : r < 18446744073709551616) : ((a % 18446744073709551616 : Nat) : Int) - ((b % 18446744073709551616 : Nat) : Int) = (r : Int) ∨ ((a % 18446744073709551616 : Nat) : Int) - ((b % 18446744073709551616 : Nat) : Int) + 18446744073709551616 = (r : Int) := by
  omega
end Go.Proofs.YtcifakhpggoebabGreatDoor
