/- What quotient returns. Condition: the table of the powers of ten holds what the program's text lays; both arguments are at most the greatest number, and the divisor is not 0. -/
import Derived.Test.YtcifakhpggoebabGreatDoorDecQuoA
namespace Go.Proofs.YtcifakhpggoebabGreatDoor
open Go Go.RowKit Go.PlainAid

/-- what is divided by what -/
def qn (x : Nat) (e : Int) : Nat := if e < 0 then x else x * 10 ^ e.toNat
def qd (y : Nat) (e : Int) : Nat := if e < 0 then y * 10 ^ (-e).toNat else y
theorem quoN_eq (x y : Nat) (e : Int) : quoN x y e = he (qn x e) (qd y e) := by unfold quoN qn qd; split <;> rfl
/-- what quotient returns -/
def quoV (x y : Nat) (e : Int) : Nat := evV (qn x e) (qd y e)
def quoB (x y : Nat) (e : Int) : Bool := decide ((quoN x y e : Int) ≤ 999999999999999)
theorem quoV_yes {x y : Nat} {e : Int} (h : quoB x y e = true) : quoV x y e = quoN x y e := by
  have h := of_decide_eq_true h
  rw [quoN_eq] at *
  unfold quoV evV
  have := he_ge (qn x e) (qd y e)
  rw [if_neg (by omega)]
def QuoPost (x y : Nat) (e : Int) (w : World) (E : Ending) (w' : World) : Prop :=
  E = .returned (.tuple #[.int .u64 (quoV x y e : Int), .bool (quoB x y e)]) ∧ ∃ k, w' = w.drewN k

set_option maxHeartbeats 4000000 in
theorem quot_neg (x y k : Nat) (w : World) (hP : Pows w) (hx : (x : Int) ≤ 999999999999999) (hy : (y : Int) ≤ 999999999999999) (hy0 : 0 < y) (hk1 : 1 ≤ k) (hk : k ≤ 12) :
    Calls Tryz.prog 29 #[.int .u64 x, .int .u64 y, .int .i64 (-(k : Int))] w (QuoPost x y (-(k : Int)) w) := by
  have hcell := hP.at_ (pow_at hk)
  have hten := ten_le hk
  have hmul := mul_le (x := y) (a := 999999999999999) (by omega) hten
  have hp0 : 0 < y * 10 ^ k := Nat.mul_pos hy0 (Nat.pow_pos (by decide))
  have hn : qn x (-(k : Int)) = x := by unfold qn; rw [if_pos (by omega)]
  have hd : qd y (-(k : Int)) = y * 10 ^ k := by unfold qd; rw [if_pos (by omega), show (- -(k : Int)).toNat = k by omega]
  unfold QuoPost quoV quoB
  rw [quoN_eq, hn, hd]
  have i0 : (0 : Int) ≤ (k : Int) := by omega
  have i1 : (k : Int) < 13 := by omega
  have i2 : ((k : Int)).toNat = k := by omega
  have i3 : -(k : Int) < 0 := by omega
  have i4 : IntKind.i64.wrap (k : Int) = (k : Int) := IntWalk.i64_in _ (by omega)
  clear hP hn hd
  have M := mul_words y (10 ^ k) w (by omega) (by omega) (by omega)
  generalize 10 ^ k = p at *
  obtain ⟨z, hz⟩ : ∃ z, z = y * p := ⟨_, rfl⟩
  rw [← hz] at M hmul hp0 ⊢
  have hzlt : (z : Int) < 340282366920938463463374607431768211456 := by omega
  have e1 : (hiN (z : Int) : Int) * 18446744073709551616 + (loN (z : Int) : Int) = (z : Int) := by unfold hiN loN; omega
  have llt := loN_lt (z : Int)
  have HM := hide M
  generalize hiN (z : Int) = hi at *
  generalize loN (z : Int) = lo at *
  clear M hz hzlt
  rcases Nat.eq_zero_or_pos hi with h | h
  · subst h
    obtain rfl : lo = z := by omega
    have E := fun W => even_any 0 x lo W hp0 (by omega) llt (.inl rfl)
    rw [show 0 * 18446744073709551616 + x = x by omega] at E
    have HE := hide E
    clear E e1 hmul
    go_enter Tryz.func29, Tryz.ntmps29
    go_wp2_with fail
    refine HM.out.mono ?_
    rintro e w' ⟨rfl, rfl⟩
    go_wp2_with fail
    refine (HE.out _).mono ?_
    rintro e w' ⟨rfl, m, rfl⟩
    go_wp2_with fail
    go_ret2
    exact ⟨rfl, _, rfl⟩
  · have h9 : he x z = 0 := he_zero (by omega)
    have h8 : x / z = 0 := Nat.div_eq_of_lt (by omega)
    have hb : decide ((0 : Int) < (hi : Int)) = true := by simp; omega
    have H9 := hide h9
    have H8 := hide h8
    clear h9 h8 e1 hmul hp0
    go_enter Tryz.func29, Tryz.ntmps29
    go_wp2_with fail
    refine HM.out.mono ?_
    rintro e w' ⟨rfl, rfl⟩
    go_wp2_with fail
    go_ret2
    refine ⟨?_, 0, rfl⟩
    unfold evV
    rw [H8.out, H9.out]
    simp

theorem pow_split (x a b : Nat) : x * 10 ^ a * 10 ^ b = x * 10 ^ (a + b) := by rw [Nat.mul_assoc, ← Nat.pow_add]
theorem big_he {z y : Nat} (hy : 0 < y) (h : 18446744073709551616 * y ≤ z) : evV z y = 0 ∧ decide (((he z y : Nat) : Int) ≤ 999999999999999) = false := by
  have h1 : 18446744073709551616 ≤ z / y := (Nat.le_div_iff_mul_le hy).2 h
  have := he_ge z y
  refine ⟨by unfold evV; rw [if_pos (by omega)], by simp; omega⟩

set_option maxHeartbeats 8000000 in
theorem quot_pos (x y a b : Nat) (w : World) (hP : Pows w) (hx : (x : Int) ≤ 999999999999999) (hy : (y : Int) ≤ 999999999999999) (hy0 : 0 < y) (ha : a ≤ 12) (hb : b ≤ 12) (hab : (min ((a + b : Nat) : Int) 12) = (a : Int)) :
    Calls Tryz.prog 29 #[.int .u64 x, .int .u64 y, .int .i64 ((a + b : Nat) : Int)] w (QuoPost x y ((a + b : Nat) : Int) w) := by
  have hcell := hP.at_ (pow_at ha)
  have hcell0 := hP.at_ (pow_at hb)
  have htenA := ten_le ha
  have htenB := ten_le hb
  have hmul := mul_le (x := x) (a := 999999999999999) (by omega) htenA
  have hn : qn x ((a + b : Nat) : Int) = x * 10 ^ a * 10 ^ b := by unfold qn; rw [if_neg (by omega), Int.toNat_natCast, pow_split]
  have hd : qd y ((a + b : Nat) : Int) = y := by unfold qd; rw [if_neg (by omega)]
  unfold QuoPost quoV quoB
  rw [quoN_eq, hn, hd]
  have i0 : (0 : Int) ≤ (a : Int) := by omega
  have i1 : (a : Int) < 13 := by omega
  have i2 : ((a : Int)).toNat = a := by omega
  have j0 : (0 : Int) ≤ (b : Int) := by omega
  have j1 : (b : Int) < 13 := by omega
  have j2 : ((b : Int)).toNat = b := by omega
  have i5 : decide (((a + b : Nat) : Int) < 0) = false := by simp; omega
  have i7 : IntKind.i64.wrap (((a + b : Nat) : Int) - (a : Int)) = (b : Int) := by rw [IntWalk.i64_in _ (by omega)]; omega
  obtain ⟨s, hs⟩ : ∃ s : Int, s = ((a + b : Nat) : Int) := ⟨_, rfl⟩
  rw [← hs] at i5 i7 hab ⊢
  clear hP hn hd hs
  have M := mul_words x (10 ^ a) w (by omega) (by omega) (by omega)
  generalize 10 ^ a = p at *
  generalize 10 ^ b = f at *
  obtain ⟨z, hzz⟩ : ∃ z, z = x * p := ⟨_, rfl⟩
  rw [← hzz] at M hmul ⊢
  have hzlt : (z : Int) < 340282366920938463463374607431768211456 := by omega
  have e1 : (hiN (z : Int) : Int) * 18446744073709551616 + (loN (z : Int) : Int) = (z : Int) := by unfold hiN loN; omega
  have hlt := hiN_lt (z : Int)
  have llt := loN_lt (z : Int)
  have HM := hide M
  generalize hiN (z : Int) = hi at *
  generalize loN (z : Int) = lo at *
  have e2 : z = hi * 18446744073709551616 + lo := by omega
  have L1 := fun W => multiply_any hi lo f W hlt llt (by omega)
  rw [← e2] at L1
  clear M hzz hmul hzlt e1 e2 hlt llt
  generalize z * f = N at *
  have n1 : N / 18446744073709551616 % 18446744073709551616 < 18446744073709551616 := Nat.mod_lt _ (by decide)
  have n2 : N % 18446744073709551616 < 18446744073709551616 := Nat.mod_lt _ (by decide)
  have n3 : N < 340282366920938463463374607431768211456 → N = N / 18446744073709551616 % 18446744073709551616 * 18446744073709551616 + N % 18446744073709551616 := by intro h; omega
  obtain ⟨H, hH⟩ : ∃ H, H = N / 18446744073709551616 % 18446744073709551616 := ⟨_, rfl⟩
  obtain ⟨L, hL⟩ : ∃ L, L = N % 18446744073709551616 := ⟨_, rfl⟩
  rw [← hH, ← hL] at L1 n3
  rw [← hH] at n1
  rw [← hL] at n2
  clear hH hL
  have HL := hide L1
  have N3 := hide n3
  clear L1 n3
  by_cases h1 : N < 340282366920938463463374607431768211456
  · have b1 : decide (N < 340282366920938463463374607431768211456) = true := by simpa using h1
    have e3 := N3.out h1
    rw [b1] at HL
    by_cases h2 : H < y
    · have b2 : decide ((y : Int) ≤ (H : Int)) = false := by simp; omega
      have b2n : decide (y ≤ H) = false := by simp; omega
      have ev := fun W => even_any H L y W h2 n2 (by omega) (.inr (by omega))
      rw [← e3] at ev
      have HV := hide ev
      clear ev e3 h1 h2 b1 N3
      go_enter Tryz.func29, Tryz.ntmps29
      go_wp2_with fail
      refine HM.out.mono ?_
      rintro e w' ⟨rfl, rfl⟩
      go_wp2_with fail
      refine (HL.out _).mono ?_
      rintro e w' ⟨rfl, rfl⟩
      go_wp2_with fail
      refine (HV.out _).mono ?_
      rintro e w' ⟨rfl, m, rfl⟩
      go_wp2_with fail
      go_ret2
      exact ⟨rfl, _, rfl⟩
    · have b2 : decide ((y : Int) ≤ (H : Int)) = true := by simp; omega
      have b2n : decide (y ≤ H) = true := by simp; omega
      obtain ⟨g1, g2⟩ := big_he (z := N) hy0 (by
        have : y * 18446744073709551616 ≤ H * 18446744073709551616 := Nat.mul_le_mul_right _ (by omega)
        omega)
      have G1 := hide g1
      have G2 := hide g2
      clear g1 g2 e3 h1 h2 b1 N3
      go_enter Tryz.func29, Tryz.ntmps29
      go_wp2_with fail
      refine HM.out.mono ?_
      rintro e w' ⟨rfl, rfl⟩
      go_wp2_with fail
      refine (HL.out _).mono ?_
      rintro e w' ⟨rfl, rfl⟩
      go_wp2_with fail
      go_ret2
      exact ⟨by rw [G1.out, G2.out]; simp, 0, rfl⟩
  · have b1 : decide (N < 340282366920938463463374607431768211456) = false := by simpa using h1
    rw [b1] at HL
    obtain ⟨g1, g2⟩ := big_he (z := N) hy0 (by omega)
    have G1 := hide g1
    have G2 := hide g2
    clear g1 g2 h1 b1 N3
    go_enter Tryz.func29, Tryz.ntmps29
    go_wp2_with fail
    refine HM.out.mono ?_
    rintro e w' ⟨rfl, rfl⟩
    go_wp2_with fail
    refine (HL.out _).mono ?_
    rintro e w' ⟨rfl, rfl⟩
    go_wp2_with fail
    go_ret2
    exact ⟨by rw [G1.out, G2.out]; simp, 0, rfl⟩

theorem quot_any (x y : Nat) (e : Int) (w : World) (hP : Pows w) (hx : (x : Int) ≤ 999999999999999) (hy : (y : Int) ≤ 999999999999999) (hy0 : 0 < y) (h1 : -12 ≤ e) (h2 : e ≤ 24) :
    Calls Tryz.prog 29 #[.int .u64 x, .int .u64 y, .int .i64 e] w (QuoPost x y e w) := by
  rcases Int.lt_or_le e 0 with h | h
  · obtain ⟨k, rfl⟩ : ∃ k : Nat, e = -(k : Int) := ⟨e.natAbs, by omega⟩
    exact quot_neg x y k w hP hx hy hy0 (by omega) (by omega)
  · obtain ⟨k, rfl⟩ : ∃ k : Nat, e = (k : Int) := ⟨e.toNat, by omega⟩
    obtain ⟨a, b, rfl, h3, h4, h5⟩ : ∃ a b : Nat, k = a + b ∧ a ≤ 12 ∧ b ≤ 12 ∧ min ((a + b : Nat) : Int) 12 = (a : Int) := ⟨min k 12, k - min k 12, by omega, by omega, by omega, by omega⟩
    exact quot_pos x y a b w hP hx hy hy0 h3 h4 h5
end Go.Proofs.YtcifakhpggoebabGreatDoor
