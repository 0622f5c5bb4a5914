/- Long division of two words by one, digit by digit of 32 bits: plain arithmetic. No condition. -/
import Lean.Elab.Tactic.Omega
namespace Go.Proofs.YtcifakhpggoebabGreatDoor

variable {B : Nat}
/-- what holds of a guess q of a digit to the base B, and of its rest r -/
structure Guess (B u d y1 y q r : Nat) : Prop where
  rest : q * y1 + r = u
  high : u * B + d < (q + 1) * y

theorem guess_start {u d y1 y0 y : Nat} (hy : y = y1 * B + y0) (h1 : 0 < y1) (hd : d < B) : Guess B u d y1 y (u / y1) (u % y1) := by
  refine ⟨by rw [Nat.mul_comm]; exact Nat.div_add_mod u y1, ?_⟩
  have h2 : u < (u / y1 + 1) * y1 := by
    have h := Nat.div_add_mod u y1
    have := Nat.mod_lt u h1
    rw [Nat.add_mul, Nat.one_mul, Nat.mul_comm]; omega
  have h4 : (u + 1) * B ≤ (u / y1 + 1) * y1 * B := Nat.mul_le_mul_right _ h2
  have h5 : (u / y1 + 1) * (y1 * B) ≤ (u / y1 + 1) * y := Nat.mul_le_mul_left _ (by omega)
  rw [← Nat.mul_assoc] at h5
  rw [Nat.add_mul, Nat.one_mul] at h4
  omega
theorem guess_down {u y1 q r : Nat} (h : q * y1 + r = u) (hq : 0 < q) : (q - 1) * y1 + (r + y1) = u := by
  obtain ⟨k, rfl⟩ : ∃ k, q = k + 1 := ⟨q - 1, by omega⟩
  rw [Nat.add_mul, Nat.one_mul] at h
  rw [Nat.add_sub_cancel]; omega
/-- a guess that is too big for a digit -/
theorem guess_big {u d y1 y q r : Nat} (hd : d < B) (hu : u < y) (hg : Guess B u d y1 y q r) (hq : B ≤ q) : Guess B u d y1 y (q - 1) (r + y1) := by
  refine ⟨guess_down hg.rest (by omega), ?_⟩
  rw [show q - 1 + 1 = q by omega]
  have h1 : B * y ≤ q * y := Nat.mul_le_mul_right _ hq
  have h2 : (u + 1) * B ≤ y * B := Nat.mul_le_mul_right _ hu
  rw [Nat.add_mul, Nat.one_mul, Nat.mul_comm y B] at h2
  omega
/-- a guess whose product is too big -/
theorem guess_over {u d y1 y0 y q r : Nat} (hy : y = y1 * B + y0) (hg : Guess B u d y1 y q r) (hq : r * B + d < q * y0) : Guess B u d y1 y (q - 1) (r + y1) := by
  have h0 : 0 < q := by
    rcases Nat.eq_zero_or_pos q with h | h
    · subst h; rw [Nat.zero_mul] at hq; omega
    · exact h
  refine ⟨guess_down hg.rest h0, ?_⟩
  rw [show q - 1 + 1 = q by omega, hy, Nat.mul_add, ← Nat.mul_assoc]
  have : (q * y1 + r) * B = u * B := by rw [hg.rest]
  rw [Nat.add_mul] at this
  omega
/-- a guess that fits is the digit -/
theorem guess_fits {u d y1 y0 y q r : Nat} (hy : y = y1 * B + y0) (hg : Guess B u d y1 y q r) (hq : q * y0 ≤ r * B + d) : q = (u * B + d) / y := by
  have h1 : q * y ≤ u * B + d := by
    rw [hy, Nat.mul_add, ← Nat.mul_assoc]
    have : (q * y1 + r) * B = u * B := by rw [hg.rest]
    rw [Nat.add_mul] at this
    omega
  exact (Nat.div_eq_of_lt_le h1 hg.high).symm
/-- a guess whose rest is big is the digit -/
theorem guess_done {u d y1 y0 y q r : Nat} (hy : y = y1 * B + y0) (h0 : y0 < B) (hu : u < y) (hg : Guess B u d y1 y q r) (hr : B ≤ r) : q = (u * B + d) / y := by
  refine guess_fits hy hg ?_
  have hq : q ≤ B := by
    rcases Nat.lt_or_ge B q with h1 | h1
    · exfalso
      have h2 : (B + 1) * y1 ≤ q * y1 := Nat.mul_le_mul_right _ h1
      have h3 := hg.rest
      rw [Nat.add_mul, Nat.one_mul, Nat.mul_comm] at h2
      omega
    · exact h1
  have h3 : q * y0 ≤ B * y0 := Nat.mul_le_mul_right _ hq
  have h4 : y0 * B ≤ r * B := Nat.mul_le_mul_right _ (by omega)
  rw [Nat.mul_comm B y0] at h3
  omega
/-- a digit is below the base -/
theorem digit_lt {u d y : Nat} (hu : u < y) (hd : d < B) : (u * B + d) / y < B := by
  rw [Nat.div_lt_iff_lt_mul (by omega)]
  have h2 : (u + 1) * B ≤ y * B := Nat.mul_le_mul_right _ hu
  rw [Nat.add_mul, Nat.one_mul, Nat.mul_comm y B] at h2
  omega
end Go.Proofs.YtcifakhpggoebabGreatDoor
