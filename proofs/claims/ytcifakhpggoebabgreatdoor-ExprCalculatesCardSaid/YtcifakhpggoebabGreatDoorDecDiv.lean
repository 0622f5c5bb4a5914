/- Quotients rounded half to even: plain arithmetic. No condition. -/
import Derived.Test.YtcifakhpggoebabGreatDoorDecOut
namespace Go.Proofs.YtcifakhpggoebabGreatDoor

/-- x / y, rounded half to even -/
def he (x y : Nat) : Nat := if y - x % y < x % y ∨ (x % y = y - x % y ∧ x / y % 2 = 1) then x / y + 1 else x / y
/-- x * 10^e / y, rounded half to even -/
def quoN (x y : Nat) (e : Int) : Nat := if e < 0 then he x (y * 10 ^ (-e).toNat) else he (x * 10 ^ e.toNat) y
theorem he_le {x y : Nat} (hy : 0 < y) : he x y ≤ x := by
  unfold he
  have h1 := Nat.div_add_mod x y
  have h2 := Nat.mod_lt x hy
  have h3 : x / y ≤ y * (x / y) := Nat.le_mul_of_pos_left _ hy
  split
  · rename_i h
    have : 1 ≤ x % y := by omega
    omega
  · omega
theorem he_one (x : Nat) : he x 1 = x := by
  unfold he
  rw [Nat.mod_one, Nat.div_one, if_neg (by omega)]
/-- twice what a rounded quotient is off by -/
theorem he_near {x y : Nat} (hy : 0 < y) : (2 * x ≤ 2 * (he x y * y) + y) ∧ (2 * (he x y * y) ≤ 2 * x + y) ∧ ((2 * x = 2 * (he x y * y) + y ∨ 2 * (he x y * y) = 2 * x + y) → he x y % 2 = 0) := by
  have h1 := Nat.div_add_mod x y
  have h2 := Nat.mod_lt x hy
  rw [Nat.mul_comm] at h1
  by_cases h : y - x % y < x % y ∨ (x % y = y - x % y ∧ x / y % 2 = 1)
  · have e : he x y = x / y + 1 := by unfold he; rw [if_pos h]
    have h3 : he x y * y = x / y * y + y := by rw [e, Nat.add_mul, Nat.one_mul]
    refine ⟨by omega, by omega, fun _ => by omega⟩
  · have e : he x y = x / y := by unfold he; rw [if_neg h]
    have h3 : he x y * y = x / y * y := by rw [e]
    refine ⟨by omega, by omega, fun _ => by omega⟩
theorem he_zero {x y : Nat} (h : 2 * x < y) : he x y = 0 := by
  have h1 : x / y = 0 := Nat.div_eq_of_lt (by omega)
  have h2 : x % y = x := Nat.mod_eq_of_lt (by omega)
  unfold he
  rw [h1, h2, if_neg (by omega)]
theorem he_big {x y m : Nat} (h : m * y ≤ x) (hy : 0 < y) : m ≤ he x y := by
  have h1 : m ≤ x / y := (Nat.le_div_iff_mul_le hy).2 h
  unfold he
  split <;> omega

/-- what Div comes to, for numbers a, b with the scales sa, sb -/
def sg (a b : Int) : Int := if decide (a < 0) = decide (b < 0) then 1 else -1
def DivOut (a sa b sb scale n t e : Int) : Prop :=
  (Both a sa b sb ∧ 0 ≤ scale ∧ scale ≤ 12 ∧ b ≠ 0 ∧ NumOut (sg a b * (quoN a.natAbs b.natAbs (sb + scale - sa) : Int)) scale n t e) ∨
  (Both a sa b sb ∧ 0 ≤ scale ∧ scale ≤ 12 ∧ b = 0 ∧ n = 0 ∧ t = 0 ∧ e = 15) ∨ (¬ (Both a sa b sb ∧ 0 ≤ scale ∧ scale ≤ 12) ∧ n = 0 ∧ t = 0 ∧ e = 2)
theorem DivOut.one {a sa b sb c n t e n' t' e' : Int} (h : DivOut a sa b sb c n t e) (g : DivOut a sa b sb c n' t' e') : n = n' ∧ t = t' ∧ e = e' := by
  rcases h with ⟨hb, h1, h2, hz, h⟩ | ⟨hb, h1, h2, hz, rfl, rfl, rfl⟩ | ⟨hb, rfl, rfl, rfl⟩ <;> rcases g with ⟨gb, g1, g2, gz, g⟩ | ⟨gb, g1, g2, gz, rfl, rfl, rfl⟩ | ⟨gb, rfl, rfl, rfl⟩
  · exact h.one g
  · exact absurd gz hz
  · exact absurd ⟨hb, h1, h2⟩ gb
  · exact absurd hz gz
  · exact ⟨rfl, rfl, rfl⟩
  · exact absurd ⟨hb, h1, h2⟩ gb
  · exact absurd ⟨gb, g1, g2⟩ hb
  · exact absurd ⟨gb, g1, g2⟩ hb
  · exact ⟨rfl, rfl, rfl⟩
/-- a rounded number -/
def RndOut (a sa scale n t e : Int) : Prop := DivOut a sa 1 0 scale n t e
theorem sg_one (a : Int) : sg a 1 * (a.natAbs : Int) = a := by
  unfold sg
  by_cases h : a < 0 <;> simp [h] <;> omega
theorem RndOut.ok {a sa c n t e : Int} (h : RndOut a sa c n t e) (he0 : e = 0) : okN a sa ∧ 0 ≤ c ∧ c ≤ 12 ∧ Small n ∧ t = c ∧ n = sg a 1 * (quoN a.natAbs 1 (c - sa) : Int) := by
  rcases h with ⟨hb, h1, h2, _, h⟩ | ⟨_, _, _, _, _, _, g⟩ | ⟨_, _, _, g⟩
  · obtain ⟨s1, s2, s3⟩ := h.ok he0
    have hsm : Small n := by rw [s2]; exact s1
    rw [show (0 : Int) + c - sa = c - sa by omega, show (1 : Int).natAbs = 1 by rfl] at s2
    exact ⟨hb.1, h1, h2, hsm, s3, s2⟩
  · omega
  · omega
/-- rounding again changes nothing -/
theorem rnd_again {n c n' t' e' : Int} (hs : Small n) (h0 : 0 ≤ c) (h1 : c ≤ 12) (h : RndOut n c c n' t' e') : n' = n ∧ t' = c ∧ e' = 0 := by
  have e1 : quoN n.natAbs (1 : Int).natAbs (0 + c - c) = n.natAbs := by
    unfold quoN
    rw [show (0 : Int) + c - c = 0 by omega, if_neg (by omega), show (1 : Int).natAbs = 1 by rfl, he_one]
    simp
  rcases h with ⟨_, _, _, _, h⟩ | ⟨_, _, _, h, _⟩ | ⟨h, _⟩
  · rw [e1, sg_one] at h
    rcases h with ⟨_, a, b, c⟩ | ⟨h, _⟩
    · exact ⟨a, b, c⟩
    · exact absurd hs h
  · cases h
  · exact absurd ⟨⟨⟨hs.1, hs.2, h0, h1⟩, by decide⟩, h0, h1⟩ h
/-- a rounded number is near: twice the distance against one unit -/
theorem rnd_near {a sa c n t : Int} (h : RndOut a sa c n t 0) :
    let m := max sa c
    let d := sca a sa m + -(sca n c m)
    let z := ten (m - c)
    (2 * d ≤ z ∧ -(2 * d) ≤ z) ∧ ((2 * d = z ∨ -(2 * d) = z) → n % 2 = 0) := by
  obtain ⟨ha, h0, h1, hs, ht, hn⟩ := h.ok rfl
  intro m d z
  by_cases hc : sa ≤ c
  · have hm : m = c := by show max sa c = c; omega
    have hd : d = 0 := by
      show sca a sa m + -(sca n c m) = 0
      rw [hm, sca_self, hn]
      unfold quoN
      rw [if_neg (by omega), he_one]
      unfold sca ten
      rw [Int.natCast_mul, ← Int.mul_assoc, sg_one]
      push_cast
      omega
    have hz : z = 1 := by show ten (m - c) = 1; rw [hm, Int.sub_self]; rfl
    rw [hd, hz]
    exact ⟨by omega, by omega⟩
  · have hm : m = sa := by show max sa c = sa; omega
    obtain ⟨k, hk⟩ : ∃ k : Nat, sa - c = k := ⟨(sa - c).toNat, by omega⟩
    have hz : z = ((10 ^ k : Nat) : Int) := by
      show ten (m - c) = _
      rw [hm, hk]; unfold ten; rw [Int.toNat_natCast]; push_cast; rfl
    have hp : 0 < 10 ^ k := Nat.pow_pos (by decide)
    have hq : quoN a.natAbs 1 (c - sa) = he a.natAbs (10 ^ k) := by
      unfold quoN
      rw [if_pos (by omega), show (-(c - sa)).toNat = k by omega, Nat.one_mul]
    rw [hq] at hn
    obtain ⟨n1, n2, n3⟩ := he_near (x := a.natAbs) hp
    have hd : d = a - n * ((10 ^ k : Nat) : Int) := by
      show sca a sa m + -(sca n c m) = _
      rw [hm, sca_self]
      unfold sca ten
      rw [hk, Int.toNat_natCast]
      push_cast
      omega
    generalize hP : 10 ^ k = P at *
    generalize he a.natAbs P = q at *
    have hqp : ((q * P : Nat) : Int) = (q : Int) * (P : Int) := Int.natCast_mul _ _
    rw [hd, hz]
    unfold sg at hn
    by_cases hneg : a < 0
    · have hn' : n = -(q : Int) := by rw [hn]; simp [hneg]
      have hnp : n * (P : Int) = -((q * P : Nat) : Int) := by rw [hn', hqp, Int.neg_mul]
      rw [hnp]
      generalize q * P = r at *
      exact ⟨⟨by omega, by omega⟩, fun _ => by omega⟩
    · have hn' : n = (q : Int) := by rw [hn]; simp [hneg]
      have hnp : n * (P : Int) = ((q * P : Nat) : Int) := by rw [hn', hqp]
      rw [hnp]
      generalize q * P = r at *
      exact ⟨⟨by omega, by omega⟩, fun _ => by omega⟩
end Go.Proofs.YtcifakhpggoebabGreatDoor
