/- math/bits.Div64 where the upper word is not zero. Condition: the divisor has at most 63 bits. -/
import Derived.Test.YtcifakhpggoebabGreatDoorDecKa
import Derived.Test.YtcifakhpggoebabGreatDoorDecLong
namespace Go.Proofs.YtcifakhpggoebabGreatDoor
open Go Go.RowKit Go.PlainAid

theorem nat_dec {a b : Nat} {v : Bool} (h : decide ((a : Int) < (b : Int)) = v) : decide (a < b) = v := by rw [← h]; exact decide_eq_decide.2 (by omega)
theorem nat_dec_le {b : Nat} {v : Bool} (h : decide ((4294967296 : Int) ≤ (b : Int)) = v) : decide (4294967296 ≤ b) = v := by rw [← h]; exact decide_eq_decide.2 (by omega)
/-- what a round of a digit's loop comes to -/
theorem loop_facts {U d Y1 Y0 Y q r : Nat} (hYY : Y = Y1 * 4294967296 + Y0) (hU : U < Y) (hd : d < 4294967296) (hy0 : Y0 < 4294967296) (hy1 : Y1 < 4294967296) (hr : r < 4294967296) (hq : q ≤ 4294967297) (hG : Guess 4294967296 U d Y1 Y q r) :
    ∃ p m md r2 qd : Nat, IntKind.u64.wrap ((q : Int) * (Y0 : Int)) = (p : Int) ∧ IntKind.u64.wrap ((4294967296 : Int) * (r : Int)) = (m : Int) ∧ IntKind.u64.wrap ((m : Int) + (d : Int)) = (md : Int) ∧ IntKind.u64.wrap ((r : Int) + (Y1 : Int)) = (r2 : Int) ∧
      (decide ((4294967296 : Int) ≤ (q : Int)) = true → IntKind.u64.wrap ((q : Int) - 1) = (qd : Int) ∧ Guess 4294967296 U d Y1 Y qd r2 ∧ qd ≤ 4294967297 ∧ qd < q) ∧
      (decide ((4294967296 : Int) ≤ (q : Int)) = false → decide ((md : Int) < (p : Int)) = true → IntKind.u64.wrap ((q : Int) - 1) = (qd : Int) ∧ Guess 4294967296 U d Y1 Y qd r2 ∧ qd ≤ 4294967297 ∧ qd < q) ∧
      (decide ((4294967296 : Int) ≤ (q : Int)) = false → decide ((md : Int) < (p : Int)) = false → q = (U * 4294967296 + d) / Y) ∧
      (Guess 4294967296 U d Y1 Y qd r2 → decide ((4294967296 : Int) ≤ (r2 : Int)) = true → qd = (U * 4294967296 + d) / Y) ∧
      (decide ((4294967296 : Int) ≤ (r2 : Int)) = false → r2 < 4294967296) := by
  have hqy : q * Y0 ≤ 4294967297 * Y0 := Nat.mul_le_mul_right _ hq
  refine ⟨q * Y0, 4294967296 * r, 4294967296 * r + d, r + Y1, q - 1, ?_, ?_, ?_, ?_, ?_, ?_, ?_, ?_, ?_⟩
  · rw [← Int.natCast_mul, IntKind.wrap_u64]
    generalize q * Y0 = p at *
    omega
  · rw [IntKind.wrap_u64]; omega
  · rw [IntKind.wrap_u64]; omega
  · rw [IntKind.wrap_u64]; omega
  · intro h
    have h := of_decide_eq_true h
    have h' : 4294967296 ≤ q := by omega
    exact ⟨by rw [IntKind.wrap_u64]; omega, guess_big hd hU hG h', by omega, by omega⟩
  · intro h1 h2
    have h1 := of_decide_eq_false h1
    have h2 := of_decide_eq_true h2
    have h2' : r * 4294967296 + d < q * Y0 := by omega
    have h0 : 0 < q := by
      rcases Nat.eq_zero_or_pos q with h | h
      · subst h; rw [Nat.zero_mul] at h2'; omega
      · exact h
    exact ⟨by rw [IntKind.wrap_u64]; omega, guess_over hYY hG h2', by omega, by omega⟩
  · intro _ h2
    have h2 := of_decide_eq_false h2
    exact guess_fits hYY hG (by omega)
  · intro G h
    have h := of_decide_eq_true h
    exact guess_done hYY hy0 hU G (by omega)
  · intro h
    have h := of_decide_eq_false h
    omega

set_option maxRecDepth 100000 in
set_option maxHeartbeats 16000000 in
theorem div64_big (hi lo y : Nat) (w : World) (h0 : 0 < hi) (hh : hi < y) (hl : lo < 18446744073709551616) (hy : y < 9223372036854775808) :
    Calls Tryz.prog 156 #[.int .u64 hi, .int .u64 lo, .int .u64 y] w fun e w' => e = .returned (.tuple #[.int .u64 (((hi * 18446744073709551616 + lo) / y : Nat) : Int), .int .u64 (((hi * 18446744073709551616 + lo) % y : Nat) : Int)]) ∧ ∃ k, w' = w.drewN k := by
  obtain ⟨s, hb, hs, n1, n2⟩ := norm_shift (y := y) (by omega) (by omega)
  have hs1 : 1 ≤ s := by
    rcases Nat.eq_zero_or_pos s with h | h
    · subst h; rw [Nat.pow_zero, Nat.mul_one] at n1; omega
    · exact h
  have LZ : Hid (∀ W, Calls Tryz.prog 227 #[.int .u64 y] W fun e w' => e = .returned (.int .i64 s) ∧ w' = W) := hide fun W => by
    have := Tryz.bits_LeadingZeros64 (y : Int) W (by omega) (by omega)
    rw [Int.toNat_natCast, hb, show (64 : Int) - ((64 - s : Nat) : Int) = (s : Int) by omega] at this
    exact this
  have q1 : ((y : Int) == 0) = false := by simp; omega
  have q2 : decide ((y : Int) ≤ (hi : Int)) = false := by simp; omega
  have q3 : ((hi : Int) == 0) = false := by simp; omega
  have e1 : IntKind.u64.wrap (s : Int) = (s : Int) := by rw [IntKind.wrap_u64]; omega
  obtain ⟨sw1, sw2, sw3⟩ := shift_words hs1 hs hh hl
  have hps : 0 < 2 ^ s := Nat.pow_pos (by decide)
  have hld := fun (B : Nat) (u d e : Nat) (h : (hi * 18446744073709551616 + lo) * 2 ^ s = (u * B + d) * B + e) => long_div B (hi * 18446744073709551616 + lo) y (2 ^ s) (y * 2 ^ s) u d e hps (by omega) rfl h
  have fy : (y : Int) * 2 ^ s = ((y * 2 ^ s : Nat) : Int) := by push_cast; rfl
  have fh : (hi : Int) * 2 ^ s = ((hi * 2 ^ s : Nat) : Int) := by push_cast; rfl
  have fl : (lo : Int) * 2 ^ s = ((lo * 2 ^ s : Nat) : Int) := by push_cast; rfl
  have fq : (lo : Int) / 2 ^ (64 - s) = ((lo / 2 ^ (64 - s) : Nat) : Int) := by push_cast; rfl
  have hor : hi * 2 ^ s ||| lo / 2 ^ (64 - s) = hi * 2 ^ s + lo / 2 ^ (64 - s) := by
    have := Nat.shiftLeft_add_eq_or_of_lt sw3 hi
    rw [Nat.shiftLeft_eq] at this
    exact this.symm
  have hsr : ∀ z : Nat, (z : Int) / 2 ^ s = ((z / 2 ^ s : Nat) : Int) := fun z => by push_cast; rfl
  obtain ⟨Y, hY⟩ : ∃ Y, Y = y * 2 ^ s := ⟨_, rfl⟩
  obtain ⟨H, hH⟩ : ∃ H, H = hi * 2 ^ s := ⟨_, rfl⟩
  obtain ⟨Lq, hLq⟩ : ∃ L, L = lo / 2 ^ (64 - s) := ⟨_, rfl⟩
  obtain ⟨Lm, hLm⟩ : ∃ L, L = lo * 2 ^ s := ⟨_, rfl⟩
  rw [← hY] at n1 n2 sw2 fy hld
  rw [← hH, ← hLq] at sw1 sw2 hor
  rw [← hLm] at sw1 fl
  rw [← hH] at fh
  rw [← hLq] at fq
  obtain ⟨U, hU⟩ : ∃ U, U = H + Lq := ⟨_, rfl⟩
  obtain ⟨Lw, hLw⟩ : ∃ L, L = Lm % 18446744073709551616 := ⟨_, rfl⟩
  rw [← hU] at sw1 sw2 hor
  rw [← hLw] at sw1
  have hLwl : Lw < 18446744073709551616 := by omega
  obtain ⟨Y1, hY1⟩ : ∃ Y1, Y1 = Y / 4294967296 := ⟨_, rfl⟩
  obtain ⟨Y0, hY0⟩ : ∃ Y0, Y0 = Y % 4294967296 := ⟨_, rfl⟩
  obtain ⟨d1, hd1⟩ : ∃ d, d = Lw / 4294967296 := ⟨_, rfl⟩
  obtain ⟨d0, hd0⟩ : ∃ d, d = Lw % 4294967296 := ⟨_, rfl⟩
  have hYY : Y = Y1 * 4294967296 + Y0 := by omega
  have y1lo : 2147483648 ≤ Y1 := by omega
  have y1hi : Y1 < 4294967296 := by omega
  have y0hi : Y0 < 4294967296 := by omega
  have d1hi : d1 < 4294967296 := by omega
  have d0hi : d0 < 4294967296 := by omega
  have LD := hide (hld 4294967296 U d1 d0 (by rw [sw1]; omega))
  have f1 : IntKind.u64.wrap ((y : Int) * 2 ^ s) = (Y : Int) := by rw [fy, IntKind.wrap_u64]; omega
  have f2 : (Y : Int) / 4294967296 = (Y1 : Int) := by omega
  have f3 : bits .and .u64 (Y : Int) 4294967295 = (Y0 : Int) := by rw [Go.Proofs.Mul64.maskN Y n2, ← hY0]
  have f4 : IntKind.u64.wrap ((hi : Int) * 2 ^ s) = (H : Int) := by rw [fh, IntKind.wrap_u64]; omega
  have f6 : bits .or .u64 (H : Int) (Lq : Int) = (U : Int) := by rw [bits_or_u64_nat H Lq (by omega) (by omega), hor]
  have f7 : IntKind.u64.wrap ((lo : Int) * 2 ^ s) = (Lw : Int) := by rw [fl, IntKind.wrap_u64]; omega
  have f8 : (Lw : Int) / 4294967296 = (d1 : Int) := by omega
  have f9 : bits .and .u64 (Lw : Int) 4294967295 = (d0 : Int) := by rw [Go.Proofs.Mul64.maskN Lw hLwl, ← hd0]
  have z1 : ((Y1 : Int) == 0) = false := by simp; omega
  have z2 : (0 : Int) < (Y1 : Int) := by omega
  obtain ⟨qa, hqa⟩ : ∃ q, q = U / Y1 := ⟨_, rfl⟩
  obtain ⟨ra, hra⟩ : ∃ r, r = U % Y1 := ⟨_, rfl⟩
  have hqr : qa * Y1 + ra = U := by rw [hqa, hra, Nat.mul_comm]; exact Nat.div_add_mod U Y1
  have hral : ra < Y1 := by rw [hra]; exact Nat.mod_lt _ (by omega)
  have hqal : qa ≤ 4294967297 := by
    rcases Nat.lt_or_ge 4294967297 qa with h | h
    · have : 4294967298 * Y1 ≤ qa * Y1 := Nat.mul_le_mul_right _ h
      omega
    · exact h
  have g10 : (U : Int) / (Y1 : Int) = (qa : Int) := by rw [hqa]; exact (Int.natCast_ediv U Y1).symm
  have g10w : IntKind.u64.wrap (qa : Int) = (qa : Int) := by rw [IntKind.wrap_u64]; omega
  have g11 : IntKind.u64.wrap ((qa : Int) * (Y1 : Int)) = ((qa * Y1 : Nat) : Int) := by
    rw [← Int.natCast_mul, IntKind.wrap_u64]; omega
  obtain ⟨pa, hpa⟩ : ∃ p, p = qa * Y1 := ⟨_, rfl⟩
  rw [← hpa] at g11 hqr
  have g12 : IntKind.u64.wrap ((U : Int) - (pa : Int)) = (ra : Int) := by rw [IntKind.wrap_u64]; omega
  have aG : Hid (Guess 4294967296 U d1 Y1 Y qa ra) := hide (by rw [hqa, hra]; exact guess_start hYY (by omega) d1hi)
  have aq := hide hqal
  have ar : Hid (ra < 4294967296) := hide (by omega)
  obtain ⟨D1, hD1⟩ : ∃ D, D = (U * 4294967296 + d1) / Y := ⟨_, rfl⟩
  obtain ⟨R1, hR1⟩ : ∃ R, R = (U * 4294967296 + d1) % Y := ⟨_, rfl⟩
  have D1D := hide hD1
  have hDR : D1 * Y + R1 = U * 4294967296 + d1 := by rw [hD1, hR1, Nat.mul_comm]; exact Nat.div_add_mod _ _
  have hR1l : R1 < Y := by rw [hR1]; exact Nat.mod_lt _ (by omega)
  have hD1l : D1 < 4294967296 := by rw [hD1]; exact digit_lt sw2 d1hi
  -- the second digit
  obtain ⟨qb, hqb⟩ : ∃ q, q = R1 / Y1 := ⟨_, rfl⟩
  obtain ⟨rb, hrb⟩ : ∃ r, r = R1 % Y1 := ⟨_, rfl⟩
  have hqrb : qb * Y1 + rb = R1 := by rw [hqb, hrb, Nat.mul_comm]; exact Nat.div_add_mod R1 Y1
  have hrbl : rb < Y1 := by rw [hrb]; exact Nat.mod_lt _ (by omega)
  have bq' : qb ≤ 4294967297 := by
    rcases Nat.lt_or_ge 4294967297 qb with h | h
    · have : 4294967298 * Y1 ≤ qb * Y1 := Nat.mul_le_mul_right _ h
      omega
    · exact h
  have bq := hide bq'
  have k10 : (R1 : Int) / (Y1 : Int) = (qb : Int) := by rw [hqb]; exact (Int.natCast_ediv R1 Y1).symm
  have k10w : IntKind.u64.wrap (qb : Int) = (qb : Int) := by rw [IntKind.wrap_u64]; omega
  have k11 : IntKind.u64.wrap ((qb : Int) * (Y1 : Int)) = ((qb * Y1 : Nat) : Int) := by
    rw [← Int.natCast_mul, IntKind.wrap_u64]; omega
  obtain ⟨pb, hpb⟩ : ∃ p, p = qb * Y1 := ⟨_, rfl⟩
  rw [← hpb] at k11 hqrb
  have k12 : IntKind.u64.wrap ((R1 : Int) - (pb : Int)) = (rb : Int) := by rw [IntKind.wrap_u64]; omega
  have bG : Hid (Guess 4294967296 R1 d0 Y1 Y qb rb) := hide (by rw [hqb, hrb]; exact guess_start hYY (by omega) d0hi)
  have br : Hid (rb < 4294967296) := hide (by omega)
  obtain ⟨D0, hD0⟩ : ∃ D, D = (R1 * 4294967296 + d0) / Y := ⟨_, rfl⟩
  obtain ⟨R0, hR0⟩ : ∃ R, R = (R1 * 4294967296 + d0) % Y := ⟨_, rfl⟩
  have D0D := hide hD0
  have hDR0 : D0 * Y + R0 = R1 * 4294967296 + d0 := by rw [hD0, hR0, Nat.mul_comm]; exact Nat.div_add_mod _ _
  have hR0l : R0 < Y := by rw [hR0]; exact Nat.mod_lt _ (by omega)
  have hD0l : D0 < 4294967296 := by rw [hD0]; exact digit_lt hR1l d0hi
  have m1 : IntKind.u64.wrap ((U : Int) * 4294967296) = ((U * 4294967296 % 18446744073709551616 : Nat) : Int) := by rw [IntKind.wrap_u64]; omega
  obtain ⟨a1, ha1⟩ : ∃ a, a = U * 4294967296 % 18446744073709551616 := ⟨_, rfl⟩
  have m2 : IntKind.u64.wrap ((a1 : Int) + (d1 : Int)) = (((a1 + d1) % 18446744073709551616 : Nat) : Int) := by rw [IntKind.wrap_u64]; omega
  obtain ⟨a2, ha2⟩ : ∃ a, a = (a1 + d1) % 18446744073709551616 := ⟨_, rfl⟩
  have m3 : IntKind.u64.wrap ((D1 : Int) * (Y : Int)) = ((D1 * Y % 18446744073709551616 : Nat) : Int) := by rw [← Int.natCast_mul, IntKind.wrap_u64]; omega
  obtain ⟨a3, ha3⟩ : ∃ a, a = D1 * Y % 18446744073709551616 := ⟨_, rfl⟩
  have m4 : IntKind.u64.wrap ((a2 : Int) - (a3 : Int)) = (R1 : Int) := by
    rw [IntKind.wrap_u64]
    generalize D1 * Y = p at *
    omega
  rw [← ha1] at m1
  rw [← ha2] at m2
  rw [← ha3] at m3
  have o1 : IntKind.u64.wrap ((D1 : Int) * 4294967296) = ((D1 * 4294967296 : Nat) : Int) := by rw [IntKind.wrap_u64]; omega
  obtain ⟨b1, hb1⟩ : ∃ a, a = D1 * 4294967296 := ⟨_, rfl⟩
  have o2 : IntKind.u64.wrap ((b1 : Int) + (D0 : Int)) = ((b1 + D0 : Nat) : Int) := by rw [IntKind.wrap_u64]; omega
  have o3 : IntKind.u64.wrap ((R1 : Int) * 4294967296) = ((R1 * 4294967296 % 18446744073709551616 : Nat) : Int) := by rw [IntKind.wrap_u64]; omega
  obtain ⟨b2, hb2⟩ : ∃ a, a = R1 * 4294967296 % 18446744073709551616 := ⟨_, rfl⟩
  have o4 : IntKind.u64.wrap ((b2 : Int) + (d0 : Int)) = (((b2 + d0) % 18446744073709551616 : Nat) : Int) := by rw [IntKind.wrap_u64]; omega
  obtain ⟨b3, hb3⟩ : ∃ a, a = (b2 + d0) % 18446744073709551616 := ⟨_, rfl⟩
  have o5 : IntKind.u64.wrap ((D0 : Int) * (Y : Int)) = ((D0 * Y % 18446744073709551616 : Nat) : Int) := by rw [← Int.natCast_mul, IntKind.wrap_u64]; omega
  obtain ⟨b4, hb4⟩ : ∃ a, a = D0 * Y % 18446744073709551616 := ⟨_, rfl⟩
  have o6 : IntKind.u64.wrap ((b3 : Int) - (b4 : Int)) = (R0 : Int) := by
    rw [IntKind.wrap_u64]
    generalize D0 * Y = p at *
    omega
  rw [← hb1] at o1
  rw [← hb2] at o3
  rw [← hb3] at o4
  rw [← hb4] at o5
  have HB1 := hide hb1
  have L1 : Hid (D1 * 4294967296 + D0 = (hi * 18446744073709551616 + lo) / y) := hide (by rw [hD1, hD0, hR1]; exact LD.out.1)
  have L2 : Hid (R0 / 2 ^ s = (hi * 18446744073709551616 + lo) % y) := hide (by rw [hR0, hR1]; exact LD.out.2)
  clear hsr hqb hrb hpb ha1 ha2 ha3 hb1 hb2 hb3 hb4 hD1 hR1 hD0 hR0 hDR hDR0 hqrb LD
  clear hY hH hLq hLm hU hLw hY1 hY0 hd1 hd0 hqa hra hpa sw1 sw3 fy fh fl hor hld n1 hb hps
  have HYY := hide hYY
  have UH := hide sw2
  have D1H := hide d1hi
  have D0H := hide d0hi
  have Y0H := hide y0hi
  have Y1H := hide y1hi
  have R1H := hide hR1l
  clear hYY sw2 d1hi d0hi y0hi y1hi hR1l hqr n2 y1lo hral hqal hrbl bq' hR0l hLwl hD1l hD0l hl
  go_enter Tryz.func156, Tryz.ntmps156
  go_wp2_with fail
  refine (LZ.out _).mono ?_
  rintro e w' ⟨rfl, rfl⟩
  go_wp2_with fail
  go_loopw [15, 16] (fun a b wx => ∃ q r : Nat, a = .int .u64 q ∧ b = .int .u64 r ∧ Hid (r < 4294967296) ∧ Hid (q ≤ 4294967297) ∧ Hid (Guess 4294967296 U d1 Y1 Y q r) ∧ wx = w') (fun a _ _ => (intOf a).toNat)
  case atStart => exact ⟨_, _, rfl, rfl, ar, aq, aG, rfl⟩
  case round =>
    obtain ⟨q, r, rfl, rfl, hr, hq, hG, hwr⟩ := hrel
    rw [hwr]
    clear hwr
    obtain ⟨p, m, md, r2, qd, t1, t2, t3, t4, F1, F2, F3, F4, F5⟩ := loop_facts HYY.out UH.out D1H.out Y0H.out Y1H.out hr.out hq.out hG.out
    have HF1 := hide F1
    have HF2 := hide F2
    have HF3 := hide F3
    have HF4 := hide F4
    have HF5 := hide F5
    clear F1 F2 F3 F4 F5
    cases c1 : decide ((4294967296 : Int) ≤ (q : Int)) with
    | true =>
      have c1n := nat_dec_le c1
      obtain ⟨t5, G2, g1, g2⟩ := HF1.out c1
      have HG2 := hide G2
      have HQ1 := hide g1
      have HQ2 := hide g2
      clear G2 g1 g2
      cases c2 : decide ((4294967296 : Int) ≤ (r2 : Int)) with
      | true =>
        have c2n := nat_dec_le c2
        obtain rfl : qd = D1 := (HF4.out HG2.out c2).trans D1D.out.symm
        go_wp2_with fail
        go_loopw [18, 16] (fun a b wx => ∃ q r : Nat, a = .int .u64 q ∧ b = .int .u64 r ∧ Hid (r < 4294967296) ∧ Hid (q ≤ 4294967297) ∧ Hid (Guess 4294967296 R1 d0 Y1 Y q r) ∧ wx = w') (fun a _ _ => (intOf a).toNat)
        case atStart => exact ⟨_, _, rfl, rfl, br, bq, bG, rfl⟩
        case round =>
          obtain ⟨q, r, rfl, rfl, hr, hq, hG, hwr⟩ := hrel
          rw [hwr]
          clear hwr
          obtain ⟨p, m, md, r2, qd, t1, t2, t3, t4, F1, F2, F3, F4, F5⟩ := loop_facts HYY.out R1H.out D0H.out Y0H.out Y1H.out hr.out hq.out hG.out
          have HF1 := hide F1
          have HF2 := hide F2
          have HF3 := hide F3
          have HF4 := hide F4
          have HF5 := hide F5
          clear F1 F2 F3 F4 F5
          cases c1 : decide ((4294967296 : Int) ≤ (q : Int)) with
          | true =>
            have c1n := nat_dec_le c1
            obtain ⟨t5, G2, g1, g2⟩ := HF1.out c1
            have HG2 := hide G2
            have HQ1 := hide g1
            have HQ2 := hide g2
            clear G2 g1 g2
            cases c2 : decide ((4294967296 : Int) ≤ (r2 : Int)) with
            | true =>
              have c2n := nat_dec_le c2
              obtain rfl : qd = D0 := (HF4.out HG2.out c2).trans D0D.out.symm
              go_wp2_with fail
              go_ret2
              refine ⟨?_, 0, rfl⟩
              rw [← L1.out, ← L2.out, ← HB1.out]
              simp
            | false =>
              have c2n := nat_dec_le c2
              have hr3 := hide (HF5.out c2)
              go_wp2_with fail
              go_roundw
              case rel => exact ⟨qd, r2, rfl, rfl, hr3, HQ1, HG2, by first | rfl | trivial⟩
              case measure => have := HQ2.out; simp [intOf]; omega
          | false =>
            have c1n := nat_dec_le c1
            cases c3 : decide ((md : Int) < (p : Int)) with
            | true =>
              have c3n := nat_dec c3
              obtain ⟨t5, G2, g1, g2⟩ := HF2.out c1 c3
              have HG2 := hide G2
              have HQ1 := hide g1
              have HQ2 := hide g2
              clear G2 g1 g2
              cases c2 : decide ((4294967296 : Int) ≤ (r2 : Int)) with
              | true =>
                have c2n := nat_dec_le c2
                obtain rfl : qd = D0 := (HF4.out HG2.out c2).trans D0D.out.symm
                go_wp2_with fail
                go_ret2
                refine ⟨?_, 0, rfl⟩
                rw [← L1.out, ← L2.out, ← HB1.out]
                simp
              | false =>
                have c2n := nat_dec_le c2
                have hr3 := hide (HF5.out c2)
                go_wp2_with fail
                go_roundw
                case rel => exact ⟨qd, r2, rfl, rfl, hr3, HQ1, HG2, by first | rfl | trivial⟩
                case measure => have := HQ2.out; simp [intOf]; omega
            | false =>
              have c3n := nat_dec c3
              obtain rfl : q = D0 := (HF3.out c1 c3).trans D0D.out.symm
              go_wp2_with fail
              go_ret2
              refine ⟨?_, 0, rfl⟩
              rw [← L1.out, ← L2.out, ← HB1.out]
              simp
      | false =>
        have c2n := nat_dec_le c2
        have hr3 := hide (HF5.out c2)
        go_wp2_with fail
        go_roundw
        case rel => exact ⟨qd, r2, rfl, rfl, hr3, HQ1, HG2, by first | rfl | trivial⟩
        case measure => have := HQ2.out; simp [intOf]; omega
    | false =>
      have c1n := nat_dec_le c1
      cases c3 : decide ((md : Int) < (p : Int)) with
      | true =>
        have c3n := nat_dec c3
        obtain ⟨t5, G2, g1, g2⟩ := HF2.out c1 c3
        have HG2 := hide G2
        have HQ1 := hide g1
        have HQ2 := hide g2
        clear G2 g1 g2
        cases c2 : decide ((4294967296 : Int) ≤ (r2 : Int)) with
        | true =>
          have c2n := nat_dec_le c2
          obtain rfl : qd = D1 := (HF4.out HG2.out c2).trans D1D.out.symm
          go_wp2_with fail
          go_loopw [18, 16] (fun a b wx => ∃ q r : Nat, a = .int .u64 q ∧ b = .int .u64 r ∧ Hid (r < 4294967296) ∧ Hid (q ≤ 4294967297) ∧ Hid (Guess 4294967296 R1 d0 Y1 Y q r) ∧ wx = w') (fun a _ _ => (intOf a).toNat)
          case atStart => exact ⟨_, _, rfl, rfl, br, bq, bG, rfl⟩
          case round =>
            obtain ⟨q, r, rfl, rfl, hr, hq, hG, hwr⟩ := hrel
            rw [hwr]
            clear hwr
            obtain ⟨p, m, md, r2, qd, t1, t2, t3, t4, F1, F2, F3, F4, F5⟩ := loop_facts HYY.out R1H.out D0H.out Y0H.out Y1H.out hr.out hq.out hG.out
            have HF1 := hide F1
            have HF2 := hide F2
            have HF3 := hide F3
            have HF4 := hide F4
            have HF5 := hide F5
            clear F1 F2 F3 F4 F5
            cases c1 : decide ((4294967296 : Int) ≤ (q : Int)) with
            | true =>
              have c1n := nat_dec_le c1
              obtain ⟨t5, G2, g1, g2⟩ := HF1.out c1
              have HG2 := hide G2
              have HQ1 := hide g1
              have HQ2 := hide g2
              clear G2 g1 g2
              cases c2 : decide ((4294967296 : Int) ≤ (r2 : Int)) with
              | true =>
                have c2n := nat_dec_le c2
                obtain rfl : qd = D0 := (HF4.out HG2.out c2).trans D0D.out.symm
                go_wp2_with fail
                go_ret2
                refine ⟨?_, 0, rfl⟩
                rw [← L1.out, ← L2.out, ← HB1.out]
                simp
              | false =>
                have c2n := nat_dec_le c2
                have hr3 := hide (HF5.out c2)
                go_wp2_with fail
                go_roundw
                case rel => exact ⟨qd, r2, rfl, rfl, hr3, HQ1, HG2, by first | rfl | trivial⟩
                case measure => have := HQ2.out; simp [intOf]; omega
            | false =>
              have c1n := nat_dec_le c1
              cases c3 : decide ((md : Int) < (p : Int)) with
              | true =>
                have c3n := nat_dec c3
                obtain ⟨t5, G2, g1, g2⟩ := HF2.out c1 c3
                have HG2 := hide G2
                have HQ1 := hide g1
                have HQ2 := hide g2
                clear G2 g1 g2
                cases c2 : decide ((4294967296 : Int) ≤ (r2 : Int)) with
                | true =>
                  have c2n := nat_dec_le c2
                  obtain rfl : qd = D0 := (HF4.out HG2.out c2).trans D0D.out.symm
                  go_wp2_with fail
                  go_ret2
                  refine ⟨?_, 0, rfl⟩
                  rw [← L1.out, ← L2.out, ← HB1.out]
                  simp
                | false =>
                  have c2n := nat_dec_le c2
                  have hr3 := hide (HF5.out c2)
                  go_wp2_with fail
                  go_roundw
                  case rel => exact ⟨qd, r2, rfl, rfl, hr3, HQ1, HG2, by first | rfl | trivial⟩
                  case measure => have := HQ2.out; simp [intOf]; omega
              | false =>
                have c3n := nat_dec c3
                obtain rfl : q = D0 := (HF3.out c1 c3).trans D0D.out.symm
                go_wp2_with fail
                go_ret2
                refine ⟨?_, 0, rfl⟩
                rw [← L1.out, ← L2.out, ← HB1.out]
                simp
        | false =>
          have c2n := nat_dec_le c2
          have hr3 := hide (HF5.out c2)
          go_wp2_with fail
          go_roundw
          case rel => exact ⟨qd, r2, rfl, rfl, hr3, HQ1, HG2, by first | rfl | trivial⟩
          case measure => have := HQ2.out; simp [intOf]; omega
      | false =>
        have c3n := nat_dec c3
        obtain rfl : q = D1 := (HF3.out c1 c3).trans D1D.out.symm
        go_wp2_with fail
        go_loopw [18, 16] (fun a b wx => ∃ q r : Nat, a = .int .u64 q ∧ b = .int .u64 r ∧ Hid (r < 4294967296) ∧ Hid (q ≤ 4294967297) ∧ Hid (Guess 4294967296 R1 d0 Y1 Y q r) ∧ wx = w') (fun a _ _ => (intOf a).toNat)
        case atStart => exact ⟨_, _, rfl, rfl, br, bq, bG, rfl⟩
        case round =>
          obtain ⟨q, r, rfl, rfl, hr, hq, hG, hwr⟩ := hrel
          rw [hwr]
          clear hwr
          obtain ⟨p, m, md, r2, qd, t1, t2, t3, t4, F1, F2, F3, F4, F5⟩ := loop_facts HYY.out R1H.out D0H.out Y0H.out Y1H.out hr.out hq.out hG.out
          have HF1 := hide F1
          have HF2 := hide F2
          have HF3 := hide F3
          have HF4 := hide F4
          have HF5 := hide F5
          clear F1 F2 F3 F4 F5
          cases c1 : decide ((4294967296 : Int) ≤ (q : Int)) with
          | true =>
            have c1n := nat_dec_le c1
            obtain ⟨t5, G2, g1, g2⟩ := HF1.out c1
            have HG2 := hide G2
            have HQ1 := hide g1
            have HQ2 := hide g2
            clear G2 g1 g2
            cases c2 : decide ((4294967296 : Int) ≤ (r2 : Int)) with
            | true =>
              have c2n := nat_dec_le c2
              obtain rfl : qd = D0 := (HF4.out HG2.out c2).trans D0D.out.symm
              go_wp2_with fail
              go_ret2
              refine ⟨?_, 0, rfl⟩
              rw [← L1.out, ← L2.out, ← HB1.out]
              simp
            | false =>
              have c2n := nat_dec_le c2
              have hr3 := hide (HF5.out c2)
              go_wp2_with fail
              go_roundw
              case rel => exact ⟨qd, r2, rfl, rfl, hr3, HQ1, HG2, by first | rfl | trivial⟩
              case measure => have := HQ2.out; simp [intOf]; omega
          | false =>
            have c1n := nat_dec_le c1
            cases c3 : decide ((md : Int) < (p : Int)) with
            | true =>
              have c3n := nat_dec c3
              obtain ⟨t5, G2, g1, g2⟩ := HF2.out c1 c3
              have HG2 := hide G2
              have HQ1 := hide g1
              have HQ2 := hide g2
              clear G2 g1 g2
              cases c2 : decide ((4294967296 : Int) ≤ (r2 : Int)) with
              | true =>
                have c2n := nat_dec_le c2
                obtain rfl : qd = D0 := (HF4.out HG2.out c2).trans D0D.out.symm
                go_wp2_with fail
                go_ret2
                refine ⟨?_, 0, rfl⟩
                rw [← L1.out, ← L2.out, ← HB1.out]
                simp
              | false =>
                have c2n := nat_dec_le c2
                have hr3 := hide (HF5.out c2)
                go_wp2_with fail
                go_roundw
                case rel => exact ⟨qd, r2, rfl, rfl, hr3, HQ1, HG2, by first | rfl | trivial⟩
                case measure => have := HQ2.out; simp [intOf]; omega
            | false =>
              have c3n := nat_dec c3
              obtain rfl : q = D0 := (HF3.out c1 c3).trans D0D.out.symm
              go_wp2_with fail
              go_ret2
              refine ⟨?_, 0, rfl⟩
              rw [← L1.out, ← L2.out, ← HB1.out]
              simp
end Go.Proofs.YtcifakhpggoebabGreatDoor
