/- What divideEven, quotient, Div and Round return where the divisor is 1. Condition: the table of the powers of ten holds what the program's text lays. -/
import Derived.Test.YtjjkekfbnenonaaDoorDecK
import Derived.Test.YtjjkekfbnenonaaDoorDecDiv
import Derived.Test.YtjjkekfbnenonaaDoorDecLift
namespace Go.Proofs.YtjjkekfbnenonaaDoor
open Go Go.RowKit Go.PlainAid

theorem mul_small (x y : Nat) (w : World) (h : x * y < 18446744073709551616) (hx : x < 18446744073709551616) (hy : y < 18446744073709551616) :
    Calls Tryd.prog 49 #[.int .u64 x, .int .u64 y] w fun e w' => e = .returned (.tuple #[.int .u64 0, .int .u64 ((x * y : Nat) : Int)]) ∧ w' = w := by
  have := Tryd.bits_Mul64 x y hx hy w
  rw [Nat.div_eq_of_lt h, Nat.mod_eq_of_lt h] at this
  exact this
theorem mod2 (q : Nat) : ((q : Int) % 2 == 1) = decide (q % 2 = 1) := by
  rcases Nat.mod_two_eq_zero_or_one q with h | h
  · rw [h]; simp; omega
  · rw [h]; simp; omega

set_option maxHeartbeats 4000000 in
theorem even_small (x y : Nat) (w : World) (hx : x < 18446744073709551616) (hy : y < 18446744073709551616) (h0 : 0 < y) :
    Calls Tryd.prog 63 #[.int .u64 0, .int .u64 x, .int .u64 y] w fun e w' => e = .returned (.tuple #[.int .u64 (he x y : Int), .bool (decide (((he x y : Nat) : Int) ≤ 999999999999999))]) ∧ ∃ k, w' = w.drewN k := by
  have hle := he_le (x := x) h0
  have hlt := Nat.mod_lt x h0
  have hq : x / y ≤ x := Nat.div_le_self _ _
  have hmod := mod2 (x / y)
  have hdef : Hid (he x y = if y - x % y < x % y ∨ (x % y = y - x % y ∧ x / y % 2 = 1) then x / y + 1 else x / y) := hide rfl
  have D : Hid (∀ W, Calls Tryd.prog 74 #[.int .u64 0, .int .u64 x, .int .u64 y] W fun e w' => e = .returned (.tuple #[.int .u64 ((x / y : Nat) : Int), .int .u64 ((x % y : Nat) : Int)]) ∧ ∃ k, w' = W.drewN k) := hide fun W => div64_small x y W hx hy h0
  obtain ⟨h, hh⟩ : ∃ h, h = he x y := ⟨_, rfl⟩
  rw [← hh] at hle hdef ⊢
  have HH := hide hh
  clear hh
  generalize x / y = q at *
  generalize x % y = r at *
  have e1 : IntKind.u64.wrap ((y : Int) - (r : Int)) = ((y - r : Nat) : Int) := by rw [IntKind.wrap_u64]; omega
  obtain ⟨l, hl⟩ : ∃ l, l = y - r := ⟨_, rfl⟩
  rw [← hl] at e1 hdef
  have e2 : IntKind.u64.wrap ((q : Int) + 1) = ((q + 1 : Nat) : Int) ∨ q = 18446744073709551615 := by
    by_cases h9 : q = 18446744073709551615
    · exact .inr h9
    · left; rw [IntKind.wrap_u64]; omega
  by_cases c1 : l < r
  · have hv : h = q + 1 := by rw [hdef.out, if_pos (.inl c1)]
    have e3 : IntKind.u64.wrap ((q : Int) + 1) = ((q + 1 : Nat) : Int) := by rcases e2 with h9 | h9; exact h9; omega
    subst hv
    have q1 : decide ((l : Int) < (r : Int)) = true := by simpa using c1
    clear e2 hdef hl
    go_enter Tryd.func63, Tryd.ntmps63
    go_wp2_with fail
    refine (D.out _).mono ?_
    rintro e w' ⟨rfl, k, rfl⟩
    go_wp2_with fail
    go_ret2
    exact ⟨by simp, _, rfl⟩
  have q1 : decide ((l : Int) < (r : Int)) = false := by simpa using c1
  by_cases c2 : r = l
  · have q2 : ((r : Int) == (l : Int)) = true := by simp [c2]
    by_cases c3 : q % 2 = 1
    · have hv : h = q + 1 := by rw [hdef.out, if_pos (.inr ⟨c2, c3⟩)]
      have e3 : IntKind.u64.wrap ((q : Int) + 1) = ((q + 1 : Nat) : Int) := by rcases e2 with h9 | h9; exact h9; omega
      subst hv
      have q3 : ((q : Int) % 2 == 1) = true := by rw [hmod]; simpa using c3
      clear e2 hdef hl c2 hmod
      go_enter Tryd.func63, Tryd.ntmps63
      go_wp2_with fail
      refine (D.out _).mono ?_
      rintro e w' ⟨rfl, k, rfl⟩
      go_wp2_with fail
      go_ret2
      exact ⟨by simp, _, rfl⟩
    · have hv : h = q := by rw [hdef.out, if_neg (by omega)]
      subst hv
      have q3 : ((h : Int) % 2 == 1) = false := by rw [hmod]; simpa using c3
      clear e2 hdef hl c2 hmod
      go_enter Tryd.func63, Tryd.ntmps63
      go_wp2_with fail
      refine (D.out _).mono ?_
      rintro e w' ⟨rfl, k, rfl⟩
      go_wp2_with fail
      go_ret2
      exact ⟨rfl, _, rfl⟩
  · have q2 : ((r : Int) == (l : Int)) = false := by simp; omega
    have hv : h = q := by rw [hdef.out, if_neg (by omega)]
    subst hv
    clear e2 hdef hl c2 hmod
    go_enter Tryd.func63, Tryd.ntmps63
    go_wp2_with fail
    refine (D.out _).mono ?_
    rintro e w' ⟨rfl, k, rfl⟩
    go_wp2_with fail
    go_ret2
    exact ⟨rfl, _, rfl⟩

/-- what quotient returns, for the divisor 1 -/
def quoV (x : Nat) (e : Int) : Nat := if 0 ≤ e ∧ 18446744073709551616 ≤ x * 10 ^ e.toNat then 0 else quoN x 1 e
def quoB (x : Nat) (e : Int) : Bool := decide ((quoN x 1 e : Int) ≤ 999999999999999)
theorem quoV_yes {x : Nat} {e : Int} (h : quoB x e = true) : quoV x e = quoN x 1 e := by
  have h := of_decide_eq_true h
  unfold quoV
  by_cases c : 0 ≤ e ∧ 18446744073709551616 ≤ x * 10 ^ e.toNat
  · exfalso
    unfold quoN at h
    rw [if_neg (by omega), he_one] at h
    omega
  · rw [if_neg c]
def QuoPost (x : Nat) (e : Int) (w : World) (E : Ending) (w' : World) : Prop :=
  E = .returned (.tuple #[.int .u64 (quoV x e : Int), .bool (quoB x e)]) ∧ ∃ k, w' = w.drewN k

set_option maxHeartbeats 4000000 in
theorem quot_neg (x k : Nat) (w : World) (hP : Pows w) (hx : (x : Int) ≤ 999999999999999) (hk1 : 1 ≤ k) (hk : k ≤ 12) :
    Calls Tryd.prog 53 #[.int .u64 x, .int .u64 1, .int .i64 (-(k : Int))] w (QuoPost x (-(k : Int)) w) := by
  have hcell := hP.at_ (pow_at hk)
  have hten := ten_le hk
  have hp0 : 0 < 10 ^ k := Nat.pow_pos (by decide)
  have hq : Hid (quoN x 1 (-(k : Int)) = he x (10 ^ k)) := hide (by
    unfold quoN
    rw [if_pos (by omega), show (- -(k : Int)).toNat = k by omega, Nat.one_mul])
  have i0 : (0 : Int) ≤ (k : Int) := by omega
  have i1 : (k : Int) < 13 := by omega
  have i2 : ((k : Int)).toNat = k := by omega
  have i3 : -(k : Int) < 0 := by omega
  have i4 : IntKind.i64.wrap (k : Int) = (k : Int) := IntWalk.i64_in _ (by omega)
  clear hP
  generalize 10 ^ k = p at *
  have M : Hid (∀ W, Calls Tryd.prog 49 #[.int .u64 1, .int .u64 p] W fun e w' => e = .returned (.tuple #[.int .u64 0, .int .u64 (p : Int)]) ∧ w' = W) := hide fun W => by
    have := mul_small 1 p W (by omega) (by decide) (by omega)
    rwa [Nat.one_mul] at this
  have E : Hid (∀ W, Calls Tryd.prog 63 #[.int .u64 0, .int .u64 x, .int .u64 p] W fun e w' => e = .returned (.tuple #[.int .u64 (he x p : Int), .bool true]) ∧ ∃ k, w' = W.drewN k) := hide fun W => by
    have h1 := he_le (x := x) hp0
    have := even_small x p W (by omega) (by omega) hp0
    rwa [decide_eq_true (show ((he x p : Nat) : Int) ≤ 999999999999999 by omega)] at this
  have hb := hide (he_le (x := x) hp0)
  go_enter Tryd.func53, Tryd.ntmps53
  go_wp2_with fail
  refine (M.out _).mono ?_
  rintro e w' ⟨rfl, rfl⟩
  go_wp2_with fail
  refine (E.out _).mono ?_
  rintro e w' ⟨rfl, m, rfl⟩
  go_wp2_with fail
  go_ret2
  have h9 : quoB x (-(k : Int)) = true := by unfold quoB; rw [hq.out]; have := hb.out; simp; omega
  refine ⟨?_, _, rfl⟩
  rw [quoV_yes h9, hq.out, h9]; rfl

set_option maxHeartbeats 4000000 in
theorem mult_one (hi lo : Nat) (w : World) (h : hi < 18446744073709551616) (g : lo < 18446744073709551616) :
    Calls Tryd.prog 64 #[.int .u64 hi, .int .u64 lo, .int .u64 1] w fun e w' => e = .returned (.tuple #[.int .u64 hi, .int .u64 lo, .bool true]) ∧ w' = w := by
  have M1 : Hid (∀ W, Calls Tryd.prog 49 #[.int .u64 hi, .int .u64 1] W fun e w' => e = .returned (.tuple #[.int .u64 0, .int .u64 (hi : Int)]) ∧ w' = W) := hide fun W => by
    have := mul_small hi 1 W (by omega) h (by decide)
    rwa [Nat.mul_one] at this
  have M2 : Hid (∀ W, Calls Tryd.prog 49 #[.int .u64 lo, .int .u64 1] W fun e w' => e = .returned (.tuple #[.int .u64 0, .int .u64 (lo : Int)]) ∧ w' = W) := hide fun W => by
    have := mul_small lo 1 W (by omega) g (by decide)
    rwa [Nat.mul_one] at this
  have A : ∀ W, (callFunc 61 #[.int .u64 (hi : Int), .int .u64 0, .int .u64 0]).run Tryd.prog W = .ok (.value (.tuple #[.int .u64 (hi : Int), .int .u64 0])) W := fun W => by
    have := Tryd.bits_Add64 hi 0 0 (by omega) W
    rw [show (hi + 0 + 0) % 18446744073709551616 = hi by omega, show (hi + 0 + 0) / 18446744073709551616 = 0 by omega] at this
    exact this
  go_enter Tryd.func64, Tryd.ntmps64
  go_wp2_with fail
  refine (M1.out _).mono ?_
  rintro e w' ⟨rfl, rfl⟩
  go_wp2_with fail
  refine (M2.out _).mono ?_
  rintro e w' ⟨rfl, rfl⟩
  go_wp2_with fail
  go_ret3
  exact ⟨rfl, rfl⟩

set_option maxHeartbeats 4000000 in
theorem quot_pos (x k : Nat) (w : World) (hP : Pows w) (hx : (x : Int) ≤ 999999999999999) (hk : k ≤ 12) :
    Calls Tryd.prog 53 #[.int .u64 x, .int .u64 1, .int .i64 (k : Int)] w (QuoPost x (k : Int) w) := by
  have hcell := hP.at_ (pow_at hk)
  have hcell0 := hP.at_ (i := 0) rfl
  have hten := ten_le hk
  have hmul := mul_le (x := x) (a := 999999999999999) (by omega) hten
  have hq : Hid (quoN x 1 (k : Int) = x * 10 ^ k) := hide (by
    unfold quoN
    rw [if_neg (by omega), he_one, Int.toNat_natCast])
  have i0 : (0 : Int) ≤ (k : Int) := by omega
  have i1 : (k : Int) < 13 := by omega
  have i2 : ((k : Int)).toNat = k := by omega
  have i3 : ¬ ((k : Int) < 0) := by omega
  have i5 : decide ((k : Int) < 0) = false := by simp
  have i6 : (min (k : Int) 12) = (k : Int) := by omega
  have i7 : IntKind.i64.wrap ((k : Int) - (k : Int)) = 0 := by rw [Int.sub_self]; rfl
  clear hP
  have M := mul_words x (10 ^ k) w (by omega) (by omega) (by omega)
  generalize hz : 10 ^ k = p at *
  have HZ := hide hz
  obtain ⟨z, hzz⟩ : ∃ z, z = x * p := ⟨_, rfl⟩
  have HZZ := hide hzz
  rw [← hzz] at M hq hmul
  have hzlt : (z : Int) < 340282366920938463463374607431768211456 := by omega
  have e1 : (hiN (z : Int) : Int) * 18446744073709551616 + (loN (z : Int) : Int) = (z : Int) := by unfold hiN loN; omega
  have hlt := hiN_lt (z : Int)
  have llt := loN_lt (z : Int)
  have HM := hide M
  generalize hiN (z : Int) = hi at *
  generalize loN (z : Int) = lo at *
  have HE := hide e1
  have L1 := mult_one hi lo w hlt llt
  have HL := hide L1
  clear L1 M hzz hmul hzlt hz e1
  go_enter Tryd.func53, Tryd.ntmps53
  go_wp2_with fail
  refine HM.out.mono ?_
  rintro e w' ⟨rfl, rfl⟩
  go_wp2_with fail
  refine HL.out.mono ?_
  rintro e w' ⟨rfl, rfl⟩
  by_cases h1 : 1 ≤ hi
  · go_wp2_with fail
    go_ret2
    have h9 : quoB x (k : Int) = false := by unfold quoB; rw [hq.out]; have := HE.out; simp; omega
    have h8 : quoV x (k : Int) = 0 := by unfold quoV; rw [Int.toNat_natCast, HZ.out, ← HZZ.out, if_pos ⟨by omega, by have := HE.out; omega⟩]
    refine ⟨?_, 0, rfl⟩
    rw [h8, h9]; rfl
  · obtain rfl : hi = 0 := by omega
    have hlz : lo = z := by have := HE.out; omega
    subst hlz
    have ev := even_small lo 1 w' llt (by decide) (by decide)
    rw [he_one] at ev
    have HV := hide ev
    clear ev
    go_wp2_with fail
    refine HV.out.mono ?_
    rintro e w' ⟨rfl, m, rfl⟩
    go_wp2_with fail
    go_ret2
    have h8 : quoV x (k : Int) = lo := by unfold quoV; rw [Int.toNat_natCast, HZ.out, ← HZZ.out, if_neg (by omega)]; exact hq.out
    have h9 : quoB x (k : Int) = decide ((lo : Int) ≤ 999999999999999) := by unfold quoB; rw [hq.out]
    refine ⟨?_, _, rfl⟩
    rw [h8, h9]; rfl

theorem quot_any (x : Nat) (e : Int) (w : World) (hP : Pows w) (hx : (x : Int) ≤ 999999999999999) (h1 : -12 ≤ e) (h2 : e ≤ 12) :
    Calls Tryd.prog 53 #[.int .u64 x, .int .u64 1, .int .i64 e] w (QuoPost x e w) := by
  rcases Int.lt_or_le e 0 with h | h
  · obtain ⟨k, rfl⟩ : ∃ k : Nat, e = -(k : Int) := ⟨e.natAbs, by omega⟩
    exact quot_neg x k w hP hx (by omega) (by omega)
  · obtain ⟨k, rfl⟩ : ∃ k : Nat, e = (k : Int) := ⟨e.toNat, by omega⟩
    exact quot_pos x k w hP hx (by omega)

/-- what Round comes to -/
def RndPost (a sa c : Int) (w : World) (e : Ending) (w' : World) : Prop := ∃ n t x : Int, e = .returned (.tuple #[(.agg #[.int .i64 (n), .int .i64 (t)]), .int .i64 x]) ∧ RndOut a sa c n t x ∧ Below w.heap.size w w'

set_option maxHeartbeats 8000000 in
theorem div_one (a sa c : Int) (w : World) (hP : Pows w) :
    Calls Tryd.prog 27 #[(.agg #[.int .i64 (a), .int .i64 (sa)]), (.agg #[.int .i64 (1), .int .i64 (0)]), .int .i64 c] w (RndPost a sa c w) := by
  have PH := hide hP
  have hlt := hP.lt
  clear hP
  have one1 : okN 1 0 := by unfold okN; decide
  by_cases ha : okN a sa
  · have hb : Both a sa 1 0 := ⟨ha, one1⟩
    have HB := hide hb
    by_cases hc : 0 ≤ c ∧ c ≤ 12
    · obtain ⟨c0, c1⟩ := hc
      have a1 := ha.1
      have a2 := ha.2.1
      have a3 := ha.2.2.1
      have a4 := ha.2.2.2
      have w1 : IntKind.i64.wrap (0 + c) = c := by rw [Int.zero_add]; exact IntWalk.i64_in _ (by omega)
      have w2 : IntKind.i64.wrap (c - sa) = c - sa := IntWalk.i64_in _ (by omega)
      have w3 : Pows w → ∀ W, Below w.heap.size w W → Calls Tryd.prog 53 #[.int .u64 (a.natAbs : Int), .int .u64 1, .int .i64 (c - sa)] W (QuoPost a.natAbs (c - sa) W) := fun h W hW => quot_any _ _ W (h.below hW) (by omega) (by omega) (by omega)
      have MA : Hid (∀ W, Calls Tryd.prog 50 #[.int .i64 a] W fun e w' => e = .returned (.int .u64 (a.natAbs : Int)) ∧ w' = W) := hide fun W => magnitude_q a W a1 a2
      have M1 : Hid (∀ W, Calls Tryd.prog 50 #[.int .i64 1] W fun e w' => e = .returned (.int .u64 1) ∧ w' = W) := hide fun W => magnitude_q 1 W (by decide) (by decide)
      have QQ := hide (w3 PH.out)
      obtain ⟨v, hv⟩ : ∃ v, v = quoV a.natAbs (c - sa) := ⟨_, rfl⟩
      obtain ⟨b, hbb⟩ : ∃ b, b = quoB a.natAbs (c - sa) := ⟨_, rfl⟩
      have HV := hide hv
      have HBB := hide hbb
      unfold QuoPost at QQ
      rw [← hv, ← hbb] at QQ
      generalize hm : a.natAbs = m at *
      have HM := hide hm
      clear w3 hv hbb ha hb hm
      go_enter Tryd.func27, Tryd.ntmps27
      go_wp2_with fail
      refine (both_ok _ _ _ _ _ HB.out).mono ?_
      rintro e w1 ⟨rfl, hb1⟩
      obtain ⟨hc1, hf1⟩ := bcell hb1
      have z1 : w.heap.size + 1 + 1 < w1.heap.size := by have := hb1.size; simp at this; omega
      have r0w : w1.cell? ⟨w.heap.size + 1 + 1, 0, none⟩ = some (.int .i64 0) := by rw [hc1 _ _ (by simp)]; simp [go_sem]
      have r1w : w1.cell? ⟨w.heap.size + 1 + 1, 1, none⟩ = some (.int .i64 0) := by rw [hc1 _ _ (by simp)]; simp [go_sem]
      have f0w : w1.frozen? ⟨w.heap.size + 1 + 1, 0, none⟩ = false := by rw [hf1 _ _ (by simp)]; simp [go_sem]
      have f1w : w1.frozen? ⟨w.heap.size + 1 + 1, 1, none⟩ = false := by rw [hf1 _ _ (by simp)]; simp [go_sem]
      have P1 := hide (show Below w.heap.size w w1 by repeat (first | (refine below_set ?_ ?hsz _; case hsz => (first | omega | (simp; done) | (simp; omega) | (have hs0 := hb.size; simp at hs0 ⊢; omega) | (have hs1 := hb1.size; simp at hs1 ⊢; omega) | (have hs1 := hb1.size; have hs2 := hb2.size; simp at hs1 hs2 ⊢; omega))) | exact Below.refl _ _ | refine below_alloc ?_ _ | refine below_drew ?_ | refine below_drewn ?_ _ | refine below_step ?_ hb | refine below_step ?_ hb0 | refine below_step ?_ hb1 | refine below_step ?_ hb2 | refine below_step ?_ hb3 | refine below_step ?_ hb4 | refine below_step ?_ hb5 | refine below_step ?_ hb6 | refine below_step ?_ hb7))
      have B0w := P1.out
      go_wp2_with fail
      refine (scale_yes _ _ c0 c1).mono ?_
      rintro e w' ⟨rfl, rfl⟩
      go_wp2_with fail
      go_quiet ((first | (go_at_call 50; with_reducible exact Calls.quiet_of_same (MA.out _)) | (go_at_call 50; with_reducible exact Calls.quiet_of_same (M1.out _)) | (go_at_call 53; with_reducible exact quiet_ex (QQ.out _ (below_drewN P1.out _)))))
      cases b with
      | true =>
        have hvq : Hid (v = quoN m 1 (c - sa)) := hide (by rw [HV.out]; exact quoV_yes HBB.out.symm)
        have hvm : (v : Int) ≤ 999999999999999 := by
          have := of_decide_eq_true HBB.out.symm
          rw [← hvq.out] at this
          exact this
        by_cases hneg : a < 0
        · have S : ∀ W, Calls Tryd.prog 51 #[(.agg #[.int .u64 (0), .int .u64 ((v : Int))]), .bool true] W fun e w' => e = .returned (.agg #[.int .u64 ((hiN (-(v : Int)) : Int)), .int .u64 ((loN (-(v : Int)) : Int))]) ∧ Below W.heap.size W w' := fun W => by
            have := signed_yes (v : Int) W
            rw [hi_small (z := (v : Int)) (by omega) (by omega), lo_small (z := (v : Int)) (by omega) (by omega)] at this
            exact this
          have SS := hide S
          clear S
          go_wp2_with fail
          refine (SS.out _).mono ?_
          rintro e w2 ⟨rfl, hb2⟩
          go_wp2_with fail
          refine (number_any _ _ _ (show Fits (-(v : Int)) by unfold Fits; omega)).mono ?_
          rintro e w5 ⟨n, t, x, rfl, hN, hb5⟩
          have HN := hide hN
          clear hN
          have hW : Below w1.heap.size w1 w5 := by repeat (first | (refine below_set ?_ ?hsz _; case hsz => (first | omega | (simp; done) | (simp; omega) | (have hs0 := hb.size; simp at hs0 ⊢; omega) | (have hs1 := hb1.size; simp at hs1 ⊢; omega) | (have hs1 := hb1.size; have hs2 := hb2.size; simp at hs1 hs2 ⊢; omega))) | exact Below.refl _ _ | refine below_alloc ?_ _ | refine below_drew ?_ | refine below_drewn ?_ _ | refine below_step ?_ hb | refine below_step ?_ hb0 | refine below_step ?_ hb1 | refine below_step ?_ hb2 | refine below_step ?_ hb3 | refine below_step ?_ hb4 | refine below_step ?_ hb5 | refine below_step ?_ hb6 | refine below_step ?_ hb7)
          have r0 := (hW.cell (p := ⟨w.heap.size + 1 + 1, 0, none⟩) z1).trans r0w
          have r1 := (hW.cell (p := ⟨w.heap.size + 1 + 1, 1, none⟩) z1).trans r1w
          have f0 := (hW.frozen (p := ⟨w.heap.size + 1 + 1, 0, none⟩) z1).trans f0w
          have f1 := (hW.frozen (p := ⟨w.heap.size + 1 + 1, 1, none⟩) z1).trans f1w
          go_wp2_with fail
          exact bodyPost_ret (v := .tuple #[(.agg #[.int .i64 (n), .int .i64 (t)]), .int .i64 x]) (by simp [results, Tryd.results27, go_sem, r0, r1]) rfl ⟨n, t, x, rfl, .inl ⟨HB.out, c0, c1, by decide, by
            rw [show (0 : Int) + c - sa = c - sa by omega, show (1 : Int).natAbs = 1 from rfl, HM.out, ← hvq.out]
            have hs : sg a 1 = -1 := by unfold sg; simp [hneg]
            rw [hs]
            have := HN.out
            simpa using this⟩, (below_step P1.out hW).setCell (by simp; omega) _ |>.setCell (by simp; omega) _⟩
        · have hneg' : decide (a < 0) = false := by simpa using hneg
          have S : ∀ W, Calls Tryd.prog 51 #[(.agg #[.int .u64 (0), .int .u64 ((v : Int))]), .bool false] W fun e w' => e = .returned (.agg #[.int .u64 ((hiN ((v : Int)) : Int)), .int .u64 ((loN ((v : Int)) : Int))]) ∧ Below W.heap.size W w' := fun W => by
            have := signed_no (v : Int) W
            rw [hi_small (z := (v : Int)) (by omega) (by omega), lo_small (z := (v : Int)) (by omega) (by omega)] at this
            rw [hi_small (z := (v : Int)) (by omega) (by omega), lo_small (z := (v : Int)) (by omega) (by omega)]; exact this
          have SS := hide S
          clear S
          go_wp2_with fail
          refine (SS.out _).mono ?_
          rintro e w2 ⟨rfl, hb2⟩
          go_wp2_with fail
          refine (number_any _ _ _ (show Fits ((v : Int)) by unfold Fits; omega)).mono ?_
          rintro e w5 ⟨n, t, x, rfl, hN, hb5⟩
          have HN := hide hN
          clear hN
          have hW : Below w1.heap.size w1 w5 := by repeat (first | (refine below_set ?_ ?hsz _; case hsz => (first | omega | (simp; done) | (simp; omega) | (have hs0 := hb.size; simp at hs0 ⊢; omega) | (have hs1 := hb1.size; simp at hs1 ⊢; omega) | (have hs1 := hb1.size; have hs2 := hb2.size; simp at hs1 hs2 ⊢; omega))) | exact Below.refl _ _ | refine below_alloc ?_ _ | refine below_drew ?_ | refine below_drewn ?_ _ | refine below_step ?_ hb | refine below_step ?_ hb0 | refine below_step ?_ hb1 | refine below_step ?_ hb2 | refine below_step ?_ hb3 | refine below_step ?_ hb4 | refine below_step ?_ hb5 | refine below_step ?_ hb6 | refine below_step ?_ hb7)
          have r0 := (hW.cell (p := ⟨w.heap.size + 1 + 1, 0, none⟩) z1).trans r0w
          have r1 := (hW.cell (p := ⟨w.heap.size + 1 + 1, 1, none⟩) z1).trans r1w
          have f0 := (hW.frozen (p := ⟨w.heap.size + 1 + 1, 0, none⟩) z1).trans f0w
          have f1 := (hW.frozen (p := ⟨w.heap.size + 1 + 1, 1, none⟩) z1).trans f1w
          go_wp2_with fail
          exact bodyPost_ret (v := .tuple #[(.agg #[.int .i64 (n), .int .i64 (t)]), .int .i64 x]) (by simp [results, Tryd.results27, go_sem, r0, r1]) rfl ⟨n, t, x, rfl, .inl ⟨HB.out, c0, c1, by decide, by
            rw [show (0 : Int) + c - sa = c - sa by omega, show (1 : Int).natAbs = 1 from rfl, HM.out, ← hvq.out]
            have hs : sg a 1 = 1 := by unfold sg; simp [hneg]
            rw [hs]
            have := HN.out
            simpa using this⟩, (below_step P1.out hW).setCell (by simp; omega) _ |>.setCell (by simp; omega) _⟩
      | false =>
        have hbig : Hid (999999999999999 < (quoN m 1 (c - sa) : Int)) := hide (by
          have := of_decide_eq_false HBB.out.symm
          omega)
        have hBx := below_drewN P1.out
        go_wp2_with fail
        exact bodyPost_ret (v := .tuple #[(.agg #[.int .i64 (0), .int .i64 (0)]), .int .i64 14]) (by simp [results, Tryd.results27, go_sem, r0w, r1w]) rfl ⟨0, 0, 14, rfl, .inl ⟨HB.out, c0, c1, by decide, .inr ⟨by
          rw [show (0 : Int) + c - sa = c - sa by omega, show (1 : Int).natAbs = 1 from rfl, HM.out]
          have := hbig.out
          unfold Small sg
          intro hs
          split at hs <;> omega, rfl, rfl, rfl⟩⟩, ((hBx _).setCell (by simp; omega) _).setCell (by simp; omega) _⟩
    · have hc' : ¬ (Both a sa 1 0 ∧ 0 ≤ c ∧ c ≤ 12) := fun h => hc h.2
      have HC := hide hc'
      have HC2 := hide hc
      clear hc' hc ha hb
      go_enter Tryd.func27, Tryd.ntmps27
      go_wp2_with fail
      refine (both_ok _ _ _ _ _ HB.out).mono ?_
      rintro e w1 ⟨rfl, hb1⟩
      obtain ⟨hc1, hf1⟩ := bcell hb1
      have z1 : w.heap.size + 1 + 1 < w1.heap.size := by have := hb1.size; simp at this; omega
      have r0w : w1.cell? ⟨w.heap.size + 1 + 1, 0, none⟩ = some (.int .i64 0) := by rw [hc1 _ _ (by simp)]; simp [go_sem]
      have r1w : w1.cell? ⟨w.heap.size + 1 + 1, 1, none⟩ = some (.int .i64 0) := by rw [hc1 _ _ (by simp)]; simp [go_sem]
      have f0w : w1.frozen? ⟨w.heap.size + 1 + 1, 0, none⟩ = false := by rw [hf1 _ _ (by simp)]; simp [go_sem]
      have f1w : w1.frozen? ⟨w.heap.size + 1 + 1, 1, none⟩ = false := by rw [hf1 _ _ (by simp)]; simp [go_sem]
      have P1 : Below w.heap.size w w1 := by repeat (first | (refine below_set ?_ ?hsz _; case hsz => (first | omega | (simp; done) | (simp; omega) | (have hs0 := hb.size; simp at hs0 ⊢; omega) | (have hs1 := hb1.size; simp at hs1 ⊢; omega) | (have hs1 := hb1.size; have hs2 := hb2.size; simp at hs1 hs2 ⊢; omega))) | exact Below.refl _ _ | refine below_alloc ?_ _ | refine below_drew ?_ | refine below_drewn ?_ _ | refine below_step ?_ hb | refine below_step ?_ hb0 | refine below_step ?_ hb1 | refine below_step ?_ hb2 | refine below_step ?_ hb3 | refine below_step ?_ hb4 | refine below_step ?_ hb5 | refine below_step ?_ hb6 | refine below_step ?_ hb7)
      clear hc1 hf1 hb1
      go_wp2_with fail
      refine (scale_no _ _ HC2.out).mono ?_
      rintro e w' ⟨rfl, rfl⟩
      go_wp2_with fail
      exact bodyPost_ret (v := .tuple #[(.agg #[.int .i64 (0), .int .i64 (0)]), .int .i64 2]) (by simp [results, Tryd.results27, go_sem, r0w, r1w]) rfl ⟨0, 0, 2, rfl, .inr (.inr ⟨HC.out, rfl, rfl, rfl⟩), (P1.setCell (by simp; omega) _).setCell (by simp; omega) _⟩
  · have hb : ¬ Both a sa 1 0 := fun h => ha h.1
    have HB := hide hb
    clear ha hb
    go_enter Tryd.func27, Tryd.ntmps27
    go_wp2_with fail
    refine (both_no _ _ _ _ _ HB.out).mono ?_
    rintro e w1 ⟨rfl, hb1⟩
    obtain ⟨hc1, hf1⟩ := bcell hb1
    have z1 : w.heap.size + 1 + 1 < w1.heap.size := by have := hb1.size; simp at this; omega
    have r0w : w1.cell? ⟨w.heap.size + 1 + 1, 0, none⟩ = some (.int .i64 0) := by rw [hc1 _ _ (by simp)]; simp [go_sem]
    have r1w : w1.cell? ⟨w.heap.size + 1 + 1, 1, none⟩ = some (.int .i64 0) := by rw [hc1 _ _ (by simp)]; simp [go_sem]
    have f0w : w1.frozen? ⟨w.heap.size + 1 + 1, 0, none⟩ = false := by rw [hf1 _ _ (by simp)]; simp [go_sem]
    have f1w : w1.frozen? ⟨w.heap.size + 1 + 1, 1, none⟩ = false := by rw [hf1 _ _ (by simp)]; simp [go_sem]
    have P1 : Below w.heap.size w w1 := by repeat (first | (refine below_set ?_ ?hsz _; case hsz => (first | omega | (simp; done) | (simp; omega) | (have hs0 := hb.size; simp at hs0 ⊢; omega) | (have hs1 := hb1.size; simp at hs1 ⊢; omega) | (have hs1 := hb1.size; have hs2 := hb2.size; simp at hs1 hs2 ⊢; omega))) | exact Below.refl _ _ | refine below_alloc ?_ _ | refine below_drew ?_ | refine below_drewn ?_ _ | refine below_step ?_ hb | refine below_step ?_ hb0 | refine below_step ?_ hb1 | refine below_step ?_ hb2 | refine below_step ?_ hb3 | refine below_step ?_ hb4 | refine below_step ?_ hb5 | refine below_step ?_ hb6 | refine below_step ?_ hb7)
    clear hc1 hf1 hb1
    go_wp2_with fail
    exact bodyPost_ret (v := .tuple #[(.agg #[.int .i64 (0), .int .i64 (0)]), .int .i64 2]) (by simp [results, Tryd.results27, go_sem, r0w, r1w]) rfl ⟨0, 0, 2, rfl, .inr (.inr ⟨fun h => HB.out h.1, rfl, rfl, rfl⟩), (P1.setCell (by simp; omega) _).setCell (by simp; omega) _⟩

set_option maxHeartbeats 2000000 in
theorem round_any (a sa c : Int) (w : World) (hP : Pows w) :
    Calls Tryd.prog 29 #[(.agg #[.int .i64 (a), .int .i64 (sa)]), .int .i64 c] w (RndPost a sa c w) := by
  have PH := hide hP
  clear hP
  go_enter Tryd.func29, Tryd.ntmps29
  go_wp2_with fail
  refine (div_one a sa c _ (PH.out.below (below2 _ _ _))).mono ?_
  rintro e w1 ⟨n, t, x, rfl, hN, hb1⟩
  have HN := hide hN
  clear hN
  obtain ⟨hc1, hf1⟩ := bcell hb1
  have z1 : w.heap.size + 1 < w1.heap.size := by have := hb1.size; simp at this; omega
  have r0w : w1.cell? ⟨w.heap.size + 1, 0, none⟩ = some (.int .i64 0) := by rw [hc1 _ _ (by simp)]; simp [go_sem]
  have r1w : w1.cell? ⟨w.heap.size + 1, 1, none⟩ = some (.int .i64 0) := by rw [hc1 _ _ (by simp)]; simp [go_sem]
  have f0w : w1.frozen? ⟨w.heap.size + 1, 0, none⟩ = false := by rw [hf1 _ _ (by simp)]; simp [go_sem]
  have f1w : w1.frozen? ⟨w.heap.size + 1, 1, none⟩ = false := by rw [hf1 _ _ (by simp)]; simp [go_sem]
  have P1 : Below w.heap.size w w1 := by repeat (first | (refine below_set ?_ ?hsz _; case hsz => (first | omega | (simp; done) | (simp; omega) | (have hs0 := hb.size; simp at hs0 ⊢; omega) | (have hs1 := hb1.size; simp at hs1 ⊢; omega) | (have hs1 := hb1.size; have hs2 := hb2.size; simp at hs1 hs2 ⊢; omega))) | exact Below.refl _ _ | refine below_alloc ?_ _ | refine below_drew ?_ | refine below_drewn ?_ _ | refine below_step ?_ hb | refine below_step ?_ hb0 | refine below_step ?_ hb1 | refine below_step ?_ hb2 | refine below_step ?_ hb3 | refine below_step ?_ hb4 | refine below_step ?_ hb5 | refine below_step ?_ hb6 | refine below_step ?_ hb7)
  clear hc1 hf1 hb1
  go_wp2_with fail
  exact bodyPost_ret (v := .tuple #[(.agg #[.int .i64 (n), .int .i64 (t)]), .int .i64 x]) (by simp [results, Tryd.results29, go_sem, r0w, r1w]) rfl ⟨n, t, x, rfl, HN.out, (P1.setCell (by simp) _).setCell (by simp) _⟩
end Go.Proofs.YtjjkekfbnenonaaDoor
