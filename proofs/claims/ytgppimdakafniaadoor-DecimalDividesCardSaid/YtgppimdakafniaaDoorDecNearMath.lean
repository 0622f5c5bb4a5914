/- The digits of a quotient, found from the first one on: plain arithmetic. No condition. -/
import Derived.Test.YtgppimdakafniaaDoorDecDiv
import Derived.Test.YtgppimdakafniaaDoorDecMul
namespace Go.Proofs.YtgppimdakafniaaDoor

/-- the digit of X / b at the place i -/
def qdig (X b i : Nat) : Nat := (10 * (X / 10 ^ (i + 1) % b) + X / 10 ^ i % 10) / b
theorem shift_digit (X i : Nat) : X / 10 ^ i = 10 * (X / 10 ^ (i + 1)) + X / 10 ^ i % 10 := by
  have : X / 10 ^ (i + 1) = X / 10 ^ i / 10 := by rw [Nat.pow_succ, Nat.div_div_eq_div_mul]
  rw [this]; omega
theorem qdig_step (X b i : Nat) (hb : 0 < b) : X / 10 ^ i / b = 10 * (X / 10 ^ (i + 1) / b) + qdig X b i ∧ X / 10 ^ i % b = (10 * (X / 10 ^ (i + 1) % b) + X / 10 ^ i % 10) % b ∧ qdig X b i ≤ 9 := by
  have h1 := shift_digit X i
  have h4 : X / 10 ^ i % 10 < 10 := Nat.mod_lt _ (by decide)
  unfold qdig
  generalize X / 10 ^ i % 10 = a at *
  generalize X / 10 ^ (i + 1) = h at *
  have h2 := Nat.div_add_mod h b
  have h3 := Nat.mod_lt h hb
  rw [h1]
  generalize h / b = q at *
  generalize h % b = r at *
  have e : 10 * h + a = b * (10 * q) + (10 * r + a) := by rw [← h2, Nat.mul_add, ← Nat.mul_assoc, ← Nat.mul_assoc, Nat.mul_comm 10 b, Nat.add_assoc]
  rw [e]
  refine ⟨?_, ?_, ?_⟩
  · rw [Nat.mul_add_div hb]
  · rw [Nat.mul_add_mod]
  · have : (10 * r + a) / b < 10 := by
      rw [Nat.div_lt_iff_lt_mul hb]
      omega
    omega
/-- half even, as the reference decides it -/
theorem he_cases (x y : Nat) (hy : 0 < y) : he x y = if y < 2 * (x % y) ∨ (2 * (x % y) = y ∧ x / y % 2 = 1) then x / y + 1 else x / y := by
  have := Nat.mod_lt x hy
  unfold he
  by_cases h : y < 2 * (x % y) ∨ (2 * (x % y) = y ∧ x / y % 2 = 1)
  · rw [if_pos h, if_pos (by omega)]
  · rw [if_neg h, if_neg (by omega)]
end Go.Proofs.YtgppimdakafniaaDoor
