/- The text of a number: what it is. No condition. -/
import Derived.Test.YtgppimdakafniaaDoorDecMul
import Derived.Test.YtgppimdakafniaaDoorDecOut
import Derived.Lib.ItoaNum
namespace Go.Proofs.YtgppimdakafniaaDoor
open Go

/-- the digits of a number, with zeros in front where the scale needs them -/
def padD (m s : Nat) : List UInt8 := List.replicate (s + 1 - (Lib.decDigits m).length) 48 ++ Lib.decDigits m
/-- the text of a number -/
def textL (n : Int) (s : Nat) : List UInt8 :=
  (if n < 0 then [45] else []) ++ (if s = 0 then Lib.decDigits n.natAbs else (padD n.natAbs s).take ((padD n.natAbs s).length - s) ++ [46] ++ (padD n.natAbs s).drop ((padD n.natAbs s).length - s))

theorem nd_le : ∀ (k m : Nat), m < 10 ^ k → 1 ≤ k → Lib.nDigits m ≤ k
  | 0, _, _, h => absurd h (by omega)
  | k + 1, m, hm, _ => by
    by_cases h : m < 10
    · rw [Lib.nDigits_small h]; omega
    · rw [Lib.nDigits_big h]
      have h1 : m / 10 < 10 ^ k := by rw [Nat.pow_succ] at hm; omega
      rcases Nat.eq_zero_or_pos k with h2 | h2
      · subst h2; simp at h1; omega
      · have := nd_le k (m / 10) h1 h2
        omega
theorem dec_len (m : Nat) (h : (m : Int) ≤ 999999999999999) : 1 ≤ (Lib.decDigits m).length ∧ (Lib.decDigits m).length ≤ 15 := by
  rw [Lib.decDigits_length]
  have e : (10 : Nat) ^ 15 = 1000000000000000 := by decide
  exact ⟨Lib.nDigits_pos m, nd_le 15 m (by omega) (by omega)⟩
end Go.Proofs.YtgppimdakafniaaDoor
