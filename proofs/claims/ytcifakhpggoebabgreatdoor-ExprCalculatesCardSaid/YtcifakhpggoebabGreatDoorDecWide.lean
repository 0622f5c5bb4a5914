/- Integers of 128 bits as two words of 64: plain arithmetic. No condition. -/
import Derived.Test.YtcifakhpggoebabGreatDoorDecMath2
namespace Go.Proofs.YtcifakhpggoebabGreatDoor

/-- the upper and the lower word of an integer in two's complement -/
def hiN (z : Int) : Nat := (z % 340282366920938463463374607431768211456).toNat / 18446744073709551616
def loN (z : Int) : Nat := (z % 340282366920938463463374607431768211456).toNat % 18446744073709551616
theorem hiN_lt (z : Int) : hiN z < 18446744073709551616 := by unfold hiN; omega
theorem loN_lt (z : Int) : loN z < 18446744073709551616 := by unfold loN; omega
/-- the borrow and the carry between the words -/
def borN (z : Int) : Nat := if 0 < loN z + 0 then 1 else 0
def carN (a b : Int) : Nat := (loN a + loN b + 0) / 18446744073709551616
/-- what is left over beyond the upper word -/
def bor2 (z : Int) : Nat := if 0 < hiN z + borN z then 1 else 0
def car2 (a b : Int) : Nat := (hiN a + hiN b + carN a b) / 18446744073709551616
theorem borN_le (z : Int) : borN z ≤ 1 := by unfold borN; split <;> omega
theorem carN_le (a b : Int) : carN a b ≤ 1 := by have := loN_lt a; have := loN_lt b; unfold carN; omega
theorem lo_opp (z : Int) : (0 + 18446744073709551616 - loN z - 0) % 18446744073709551616 = loN (-z) := by unfold loN; omega
theorem hi_opp (z : Int) : (0 + 18446744073709551616 - hiN z - borN z) % 18446744073709551616 = hiN (-z) := by
  unfold borN loN hiN
  split <;> omega
theorem lo_add (a b : Int) : (loN a + loN b + 0) % 18446744073709551616 = loN (a + b) := by unfold loN; omega
theorem hi_add (a b : Int) : (hiN a + hiN b + carN a b) % 18446744073709551616 = hiN (a + b) := by unfold carN loN hiN; omega
theorem hi_neg {z : Int} (h : -170141183460469231731687303715884105728 ≤ z) (g : z < 0) : hiN z / 9223372036854775808 = 1 := by unfold hiN; omega
theorem hi_pos {z : Int} (h : 0 ≤ z) (g : z < 170141183460469231731687303715884105728) : hiN z / 9223372036854775808 = 0 := by unfold hiN; omega
theorem hi_small {z : Int} (h : 0 ≤ z) (g : z < 18446744073709551616) : hiN z = 0 := by unfold hiN; omega
theorem lo_small {z : Int} (h : 0 ≤ z) (g : z < 18446744073709551616) : (loN z : Int) = z := by unfold loN; omega
theorem hi_big {z : Int} (h : 18446744073709551616 ≤ z) (g : z < 340282366920938463463374607431768211456) : hiN z ≠ 0 := by unfold hiN; omega
theorem hi_mul (x y : Nat) (h : x * y < 340282366920938463463374607431768211456) : x * y / 18446744073709551616 = hiN ((x * y : Nat) : Int) := by
  unfold hiN
  rw [show (((x * y : Nat) : Int) % 340282366920938463463374607431768211456).toNat = x * y by omega]
theorem lo_mul (x y : Nat) (h : x * y < 340282366920938463463374607431768211456) : x * y % 18446744073709551616 = loN ((x * y : Nat) : Int) := by
  unfold loN
  rw [show (((x * y : Nat) : Int) % 340282366920938463463374607431768211456).toNat = x * y by omega]
theorem words_zero {z : Int} (h : -170141183460469231731687303715884105728 ≤ z) (g : z < 170141183460469231731687303715884105728) : (hiN z = 0 ∧ loN z = 0) ↔ z = 0 := by
  unfold hiN loN; omega
/-- an integer that is far from the limits of 128 bits -/
def Fits (z : Int) : Prop := -1000000000000000000000000000000 ≤ z ∧ z ≤ 1000000000000000000000000000000
theorem Fits.neg {z : Int} (h : Fits z) : Fits (-z) := by unfold Fits at *; omega
theorem top_neg {z : Int} (h : Fits z) (g : z < 0) : hiN z / 9223372036854775808 = 1 := hi_neg (by unfold Fits at h; omega) g
theorem top_pos {z : Int} (h : Fits z) (g : 0 ≤ z) : hiN z / 9223372036854775808 = 0 := hi_pos g (by unfold Fits at h; omega)
theorem Fits.scaled {n s m : Int} (h : -999999999999999 ≤ n ∧ n ≤ 999999999999999) (hs : s ≤ m) (hm : m - s ≤ 12) : -1000000000000000000000000000 ≤ sca n s m ∧ sca n s m ≤ 1000000000000000000000000000 := by
  have := sca_bound hs hm h.1 h.2
  omega
end Go.Proofs.YtcifakhpggoebabGreatDoor
