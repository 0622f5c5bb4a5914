/- What multiply and divideEven return. Condition: the upper word of what is divided is less than the divisor. -/
import Derived.Test.YtcifakhpggoebabGreatDoorDecKa
import Derived.Test.YtcifakhpggoebabGreatDoorDecDiv
import Derived.Test.YtcifakhpggoebabGreatDoorDecDiv64
import Derived.Test.YtcifakhpggoebabGreatDoorDecLift
namespace Go.Proofs.YtcifakhpggoebabGreatDoor
open Go Go.RowKit Go.PlainAid

theorem mod2 (q : Nat) : ((q : Int) % 2 == 1) = decide (q % 2 = 1) := by
  rcases Nat.mod_two_eq_zero_or_one q with h | h
  · rw [h]; simp; omega
  · rw [h]; simp; omega
theorem he_ge (x y : Nat) : x / y ≤ he x y := by unfold he; split <;> omega

theorem div64_any (hi lo y : Nat) (w : World) (hh : hi < y) (hl : lo < 18446744073709551616) (hy : y < 18446744073709551616) (hg : hi = 0 ∨ y < 9223372036854775808) :
    Calls Tryz.prog 156 #[.int .u64 hi, .int .u64 lo, .int .u64 y] w fun e w' => e = .returned (.tuple #[.int .u64 (((hi * 18446744073709551616 + lo) / y : Nat) : Int), .int .u64 (((hi * 18446744073709551616 + lo) % y : Nat) : Int)]) ∧ ∃ k, w' = w.drewN k := by
  rcases Nat.eq_zero_or_pos hi with h | h
  · subst h
    have := div64_small lo y w hl hy (by omega)
    rw [show 0 * 18446744073709551616 + lo = lo by omega]
    exact this
  · exact div64_big hi lo y w h hh hl (by omega)

/-- what divideEven returns as the quotient -/
def evV (z y : Nat) : Nat := if 999999999999999 < z / y then 0 else he z y

set_option maxHeartbeats 4000000 in
theorem even_any (hi lo y : Nat) (w : World) (hh : hi < y) (hl : lo < 18446744073709551616) (hy : y < 18446744073709551616) (hg : hi = 0 ∨ y < 9223372036854775808) :
    Calls Tryz.prog 77 #[.int .u64 hi, .int .u64 lo, .int .u64 y] w fun e w' => e = .returned (.tuple #[.int .u64 (evV (hi * 18446744073709551616 + lo) y : Int), .bool (decide (((he (hi * 18446744073709551616 + lo) y : Nat) : Int) ≤ 999999999999999))]) ∧ ∃ k, w' = w.drewN k := by
  have D : Hid (∀ W, Calls Tryz.prog 156 #[.int .u64 hi, .int .u64 lo, .int .u64 y] W fun e w' => e = .returned (.tuple #[.int .u64 (((hi * 18446744073709551616 + lo) / y : Nat) : Int), .int .u64 (((hi * 18446744073709551616 + lo) % y : Nat) : Int)]) ∧ ∃ k, w' = W.drewN k) := hide fun W => div64_any hi lo y W hh hl hy hg
  obtain ⟨z, hz⟩ : ∃ z, z = hi * 18446744073709551616 + lo := ⟨_, rfl⟩
  rw [← hz] at D ⊢
  have h0 : 0 < y := by omega
  clear hz hg hh hl
  have hge := he_ge z y
  have hlt := Nat.mod_lt z h0
  have hmod := mod2 (z / y)
  have hdef : Hid (he z y = if y - z % y < z % y ∨ (z % y = y - z % y ∧ z / y % 2 = 1) then z / y + 1 else z / y) := hide rfl
  have hev : Hid (evV z y = if 999999999999999 < z / y then 0 else he z y) := hide rfl
  obtain ⟨h, hh⟩ : ∃ h, h = he z y := ⟨_, rfl⟩
  obtain ⟨v, hv0⟩ : ∃ v, v = evV z y := ⟨_, rfl⟩
  rw [← hh] at hge hdef hev ⊢
  rw [← hv0] at hev ⊢
  have HH := hide hh
  clear hh hv0
  generalize z / y = q at *
  generalize z % y = r at *
  by_cases c0 : 999999999999999 < q
  · have q0 : decide ((999999999999999 : Int) < (q : Int)) = true := by simp; omega
    have hv : v = 0 := by rw [hev.out, if_pos c0]
    subst hv
    have hb : decide ((h : Int) ≤ 999999999999999) = false := by simp; omega
    have HB := hide hb
    clear hb hdef hev hmod hge
    go_enter Tryz.func77, Tryz.ntmps77
    go_wp2_with fail
    refine (D.out _).mono ?_
    rintro e w' ⟨rfl, k, rfl⟩
    go_wp2_with fail
    go_ret2
    exact ⟨by rw [HB.out]; simp, _, rfl⟩
  have q0 : decide ((999999999999999 : Int) < (q : Int)) = false := by simp; omega
  have hv : v = h := by rw [hev.out, if_neg c0]
  subst hv
  clear hev
  have e1 : IntKind.u64.wrap ((y : Int) - (r : Int)) = ((y - r : Nat) : Int) := by rw [IntKind.wrap_u64]; omega
  obtain ⟨l, hl⟩ : ∃ l, l = y - r := ⟨_, rfl⟩
  rw [← hl] at e1 hdef
  have e3 : IntKind.u64.wrap ((q : Int) + 1) = ((q + 1 : Nat) : Int) := by rw [IntKind.wrap_u64]; omega
  by_cases c1 : l < r
  · have hv : v = q + 1 := by rw [hdef.out, if_pos (.inl c1)]
    subst hv
    have q1 : decide ((l : Int) < (r : Int)) = true := by simpa using c1
    clear hdef hl
    go_enter Tryz.func77, Tryz.ntmps77
    go_wp2_with fail
    refine (D.out _).mono ?_
    rintro e w' ⟨rfl, k, rfl⟩
    go_wp2_with fail
    go_ret2
    exact ⟨by simp, _, rfl⟩
  have q1 : decide ((l : Int) < (r : Int)) = false := by simpa using c1
  by_cases c2 : r = l
  · have q2 : ((r : Int) == (l : Int)) = true := by simp [c2]
    by_cases c3 : q % 2 = 1
    · have hv : v = q + 1 := by rw [hdef.out, if_pos (.inr ⟨c2, c3⟩)]
      subst hv
      have q3 : ((q : Int) % 2 == 1) = true := by rw [hmod]; simpa using c3
      clear hdef hl c2 hmod
      go_enter Tryz.func77, Tryz.ntmps77
      go_wp2_with fail
      refine (D.out _).mono ?_
      rintro e w' ⟨rfl, k, rfl⟩
      go_wp2_with fail
      go_ret2
      exact ⟨by simp, _, rfl⟩
    · have hv : v = q := by rw [hdef.out, if_neg (by omega)]
      subst hv
      have q3 : ((v : Int) % 2 == 1) = false := by rw [hmod]; simpa using c3
      clear hdef hl c2 hmod e3
      go_enter Tryz.func77, Tryz.ntmps77
      go_wp2_with fail
      refine (D.out _).mono ?_
      rintro e w' ⟨rfl, k, rfl⟩
      go_wp2_with fail
      go_ret2
      exact ⟨rfl, _, rfl⟩
  · have q2 : ((r : Int) == (l : Int)) = false := by simp; omega
    have hv : v = q := by rw [hdef.out, if_neg (by omega)]
    subst hv
    clear hdef hl c2 hmod e3
    go_enter Tryz.func77, Tryz.ntmps77
    go_wp2_with fail
    refine (D.out _).mono ?_
    rintro e w' ⟨rfl, k, rfl⟩
    go_wp2_with fail
    go_ret2
    exact ⟨rfl, _, rfl⟩

theorem words_mul (hi lo f : Nat) :
    (hi * 18446744073709551616 + lo) * f % 18446744073709551616 = lo * f % 18446744073709551616 ∧
    (hi * 18446744073709551616 + lo) * f / 18446744073709551616 % 18446744073709551616 = (hi * f % 18446744073709551616 + lo * f / 18446744073709551616 + 0) % 18446744073709551616 ∧
    decide ((hi * 18446744073709551616 + lo) * f < 340282366920938463463374607431768211456) = (decide (hi * f / 18446744073709551616 = 0) && decide ((hi * f % 18446744073709551616 + lo * f / 18446744073709551616 + 0) / 18446744073709551616 = 0)) := by
  have e : (hi * 18446744073709551616 + lo) * f = hi * f * 18446744073709551616 + lo * f := by
    rw [Nat.add_mul, Nat.mul_assoc, Nat.mul_comm 18446744073709551616 f, ← Nat.mul_assoc]
  rw [e]
  generalize hi * f = p
  generalize lo * f = s
  refine ⟨by omega, by omega, ?_⟩
  rw [← Bool.decide_and]
  exact decide_eq_decide.2 (by omega)

set_option maxHeartbeats 4000000 in
theorem multiply_any (hi lo f : Nat) (w : World) (hh : hi < 18446744073709551616) (hl : lo < 18446744073709551616) (hf : f < 18446744073709551616) :
    Calls Tryz.prog 78 #[.int .u64 hi, .int .u64 lo, .int .u64 f] w fun e w' => e = .returned (.tuple #[.int .u64 (((hi * 18446744073709551616 + lo) * f / 18446744073709551616 % 18446744073709551616 : Nat) : Int), .int .u64 (((hi * 18446744073709551616 + lo) * f % 18446744073709551616 : Nat) : Int), .bool (decide ((hi * 18446744073709551616 + lo) * f < 340282366920938463463374607431768211456))]) ∧ w' = w := by
  obtain ⟨g1, g2, g3⟩ := words_mul hi lo f
  rw [g1, g2, g3]
  clear g1 g2 g3
  have M1 := fun W => Tryz.bits_Mul64 hi f hh hf W
  have M2 := fun W => Tryz.bits_Mul64 lo f hl hf W
  have A := fun W => Tryz.bits_Add64 (hi * f % 18446744073709551616) (lo * f / 18446744073709551616) 0 (by omega) W
  generalize hi * f / 18446744073709551616 = o at *
  generalize hi * f % 18446744073709551616 = m at *
  generalize lo * f / 18446744073709551616 = c at *
  generalize lo * f % 18446744073709551616 = l at *
  generalize (m + c + 0) % 18446744073709551616 = mm at *
  generalize (m + c + 0) / 18446744073709551616 = cc at *
  have A' : ∀ W, (callFunc 75 #[.int .u64 (m : Int), .int .u64 (c : Int), .int .u64 0]).run Tryz.prog W = .ok (.value (.tuple #[.int .u64 (mm : Int), .int .u64 (cc : Int)])) W := A
  have H1 := hide M1
  have H2 := hide M2
  clear M1 M2 A
  rcases Nat.eq_zero_or_pos o with h | h
  · subst h
    have b2 : Hid (((cc : Int) == 0) = decide (cc = 0)) := hide (by
      by_cases h : cc = 0
      · subst h; rfl
      · rw [decide_eq_false h]; simp; omega)
    go_enter Tryz.func78, Tryz.ntmps78
    go_wp2_with fail
    refine (H1.out _).mono ?_
    rintro e w' ⟨rfl, rfl⟩
    go_wp2_with fail
    refine (H2.out _).mono ?_
    rintro e w' ⟨rfl, rfl⟩
    go_wp2_with fail
    go_ret3
    exact ⟨by rw [← b2.out]; simp, rfl⟩
  · have b1 : ((o : Int) == 0) = false := by simp; omega
    have b2 : Hid (decide (o = 0) = false) := hide (by simp; omega)
    go_enter Tryz.func78, Tryz.ntmps78
    go_wp2_with fail
    refine (H1.out _).mono ?_
    rintro e w' ⟨rfl, rfl⟩
    go_wp2_with fail
    refine (H2.out _).mono ?_
    rintro e w' ⟨rfl, rfl⟩
    go_wp2_with fail
    go_ret3
    exact ⟨by rw [b2.out]; simp, rfl⟩
end Go.Proofs.YtcifakhpggoebabGreatDoor
