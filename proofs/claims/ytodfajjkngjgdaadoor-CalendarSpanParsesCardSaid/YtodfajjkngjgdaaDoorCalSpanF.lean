/- The reference's parser of durations, walked. Condition: at most 32 bytes. -/
import Derived.Test.YtodfajjkngjgdaaDoorCalSpanE
import Derived.Deep.CutBlock
namespace Go.Proofs.YtodfajjkngjgdaaDoor
open Go Go.RowKit Go.PlainAid

/-- what the reference's parser returns: the duration whose text s is, or a syntax error -/
def RefSpan (s : ByteArray) (w : World) (e : Ending) (w' : World) : Prop :=
  ∃ (n x : Int), e = .returned (.tuple #[.int .i64 n, .int .i64 x]) ∧ (∀ m : Nat, m ≤ 17592186044416 → s.data.toList = spanT m → n = m ∧ x = 0) ∧ ((∀ m : Nat, m ≤ 17592186044416 → s.data.toList ≠ spanT m) → n = 0 ∧ x = 13) ∧ Below w.heap.size w w'

def SumLe (a b : Nat) : Prop := a ≤ b * 17592186044416
set_option maxRecDepth 100000 in
set_option maxHeartbeats 16000000 in
theorem refParseSpan_any (s : ByteArray) (w : World) (hz : s.size ≤ 32) :
    Calls Tryd.prog 43 #[.string s] w (RefSpan s w) := by
  have hb := get_bt s
  have hb0 := bt_nonneg s
  have hb1 := bt_le s
  go_enter Tryd.func43, Tryd.ntmps43
  go_wp2_with fail
  go_loopg [4, 5] s.size (fun gk a b wr => ∃ (i sum : Nat), a = .int .i64 sum ∧ b = .int .i64 i ∧ i ≤ s.size ∧ gk = s.size - i ∧ sum ≤ i * 17592186044416 ∧ Hid (Good s i sum) ∧ wr = w)
  case atStart => exact ⟨0, 0, rfl, rfl, Nat.zero_le _, rfl, Nat.zero_le _, hide (good_start s), rfl⟩
  case round =>
    obtain ⟨i, sum, rfl, rfl, hi, hgk, hsum, hG, hwr⟩ := hrel
    subst hwr
    by_cases hlt : i < s.size
    · go_upto_block 2 with fail
      go_cut [6] (fun v w0 => ∃ wx : World, wx = w0 ∧ wx = wr ∧ ∃ k : Nat, v = .int .i64 k ∧ Run s i k)
      case first =>
        go_wp2_with fail
        go_loopg [6] (s.size - i) (fun gk v wx => ∃ k : Nat, v = .int .i64 k ∧ gk = s.size - k ∧ i ≤ k ∧ k ≤ s.size ∧ k ≤ i + 13 ∧ Hid (∀ j, i ≤ j → j < k → 48 ≤ bt s j ∧ bt s j ≤ 57) ∧ wx = wr)
        case atStart => exact ⟨i, rfl, rfl, Nat.le_refl _, hi, by omega, hide fun j h1 h2 => by omega, rfl⟩
        case round =>
          rename_i gk'
          obtain ⟨k, rfl, hgk', h1, h2, h3, hD, hwx⟩ := hrel
          subst hwx
          have hc : s.size ≤ k ∨ (k < s.size ∧ i + 13 ≤ k) ∨ (k < s.size ∧ k < i + 13 ∧ ¬ 48 ≤ bt s k) ∨ (k < s.size ∧ k < i + 13 ∧ 48 ≤ bt s k ∧ ¬ bt s k ≤ 57) ∨ (k < s.size ∧ k < i + 13 ∧ 48 ≤ bt s k ∧ bt s k ≤ 57) := by omega
          rcases hc with c1 | ⟨c1, c2⟩ | ⟨c1, c2, c3⟩ | ⟨c1, c2, c3, c4⟩ | ⟨c1, c2, c3, c4⟩
          · have R : Hid (Run s i k) := hide ⟨h1, h2, hD.out, h3, fun _ h => by omega⟩
            go_wp2_with fail
            go_meet
            exact ⟨_, rfl, rfl, k, rfl, R.out⟩
          · have R : Hid (Run s i k) := hide ⟨h1, h2, hD.out, h3, fun h => by omega⟩
            go_wp2_with fail
            go_meet
            exact ⟨_, rfl, rfl, k, rfl, R.out⟩
          · have R : Hid (Run s i k) := hide ⟨h1, h2, hD.out, h3, fun _ _ h => c3 h.1⟩
            go_wp2_with fail
            go_meet
            exact ⟨_, rfl, rfl, k, rfl, R.out⟩
          · have R : Hid (Run s i k) := hide ⟨h1, h2, hD.out, h3, fun _ _ h => c4 h.2⟩
            go_wp2_with fail
            go_meet
            exact ⟨_, rfl, rfl, k, rfl, R.out⟩
          · have HG := hide hgk'
            have HD2 : Hid (∀ j, i ≤ j → j < k + 1 → 48 ≤ bt s j ∧ bt s j ≤ 57) := hide fun j a b => by
              by_cases e : j = k
              · subst e; exact ⟨c3, c4⟩
              · exact hD.out j a (by omega)
            clear hgk'
            go_wp2_with fail
            go_roundg (s.size - (k + 1))
            case measure => rw [HG.out]; omega
            case rel => exact ⟨k + 1, by go_num, rfl, by omega, by omega, by omega, HD2, rfl⟩
      case rest =>
        obtain ⟨wx, hwx, hwr, k, rfl, hR⟩ := hcut
        subst hwx
        subst hwr
        have RD := hide hR
        obtain ⟨h1, h2, -, h3, -⟩ := hR
        obtain ⟨t, ht⟩ : ∃ t, t = s.extract i k := ⟨_, rfl⟩
        have htz : t.size = k - i := by rw [ht]; exact ext_size h1 h2
        have hdg : digs t (k - i) := by rw [ht]; exact RD.out.digs
        obtain ⟨hn0, hn1⟩ := num_le (e := 13) hdg (by omega)
        rw [show ((10 ^ 13 : Nat) : Int) = 10000000000000 by decide] at hn1
        obtain ⟨n, hn⟩ := Int.eq_ofNat_of_zero_le hn0
        rw [hn] at hn1
        have CN : Hid (∀ W, Calls Tryd.prog 55 #[.string (s.extract i k)] W fun e w' => e = .returned (.int .i64 n) ∧ w' = W) := hide fun W => by
          have := refNumber_13 t (k - i) W htz (by omega) hdg
          rwa [hn, ht] at this
        have HN : Hid (num (s.extract i k) (k - i) = n) := hide (by rw [← ht]; exact hn)
        have HT := hide ht
        clear hn hn0 ht htz hdg
        have i0 : (0 : Int) ≤ (i : Int) := by omega
        have i1 : (i : Int) ≤ (k : Int) := by omega
        have i2 : (k : Int) ≤ (s.size : Int) := by omega
        have HS := hide hsum
        have HK := hide hgk
        have HN1 := hide hn1
        clear hsum hgk hn1 hb hb0 hb1 h3
        go_wp2_with fail
        refine (CN.out _).mono ?_
        rintro e w2 ⟨rfl, rfl⟩
        obtain ⟨j, hj⟩ : ∃ j, j = headU (s.data.toList.drop k) := ⟨_, rfl⟩
        have jle : j ≤ 5 := by rw [hj]; exact headU_le _
        have HJ := hide hj
        go_upto_block 4 with fail
        go_cut [8, 9] (fun v u w0 => ∃ wx : World, wx = w0 ∧ wx = w2 ∧ v = .int .i64 (szU j) ∧ u = .int .i64 (ulU j))
        case first =>
          go_upto_region 11 with fail
          obtain ⟨B, hB⟩ : ∃ B : Bool, B = decide (j = 4) := ⟨_, rfl⟩
          have HBB := hide hB
          clear hB hj
          go_cut [47] (fun v w0 => ∃ wx : World, wx = w0 ∧ wx = w2 ∧ v = .bool B)
          case first =>
            by_cases c : k + 1 < s.size
            · have j0 : (k : Int) + 1 < (s.size : Int) := by omega
              have j1 : (0 : Int) ≤ (k : Int) := by omega
              have j2 : (k : Int) + 2 ≤ (s.size : Int) := by omega
              go_wp2_with fail
              go_meet
              refine ⟨_, rfl, rfl, congrArg Value.bool ?_⟩
              rw [HBB.out, Bool.eq_iff_iff, decide_eq_true_iff, HJ.out, headU_4, ByteArray.toList_eq, ext_list, show k + 2 - k = 2 by omega]
              simp
            · have j0 : ¬ (k : Int) + 1 < (s.size : Int) := by omega
              go_wp2_with fail
              go_meet
              refine ⟨_, rfl, rfl, congrArg Value.bool ?_⟩
              rw [HBB.out, eq_comm, decide_eq_false_iff_not, HJ.out, headU_4]
              intro h
              have := congrArg List.length h
              rw [List.length_take, List.length_drop, size_list] at this
              simp at this; omega
          case rest =>
            obtain ⟨wy, hwy, hwy2, hv⟩ := hcut
            subst hwy
            subst hv
            subst hwy2
            cases hb4 : B with
            | true =>
              have j4 : j = 4 := by have := HBB.out; rw [hb4] at this; exact of_decide_eq_true this.symm
              have J4 := hide j4
              clear hb4 j4
              go_wp2_with fail
              go_meet
              exact ⟨_, rfl, rfl, by rw [J4.out]; rfl, by rw [J4.out]; rfl⟩
            | false =>
              have j4 : j ≠ 4 := by have := HBB.out; rw [hb4] at this; exact of_decide_eq_false this.symm
              have hb := get_bt s
              by_cases c : k < s.size
              · have hjb : j = byteU (bt s k) := by rw [HJ.out]; exact headU_at c (by rw [← HJ.out]; exact j4)
                have J4 := hide hjb
                have j0 : (k : Int) < (s.size : Int) := by omega
                clear hb4 j4 hjb
                by_cases d0 : bt s k = 100
                · have q0 : (bt s k == 100) = true := by rw [d0]; rfl
                  have D0 := hide d0
                  clear d0
                  go_wp2_with fail
                  go_meet
                  exact ⟨_, rfl, rfl, by rw [J4.out, D0.out]; rfl, by rw [J4.out, D0.out]; rfl⟩
                · have q0 : (bt s k == 100) = false := by simpa using d0
                  by_cases d1 : bt s k = 104
                  · have q1 : (bt s k == 104) = true := by rw [d1]; rfl
                    have D0 := hide d1
                    clear d0 d1
                    go_wp2_with fail
                    go_meet
                    exact ⟨_, rfl, rfl, by rw [J4.out, D0.out]; rfl, by rw [J4.out, D0.out]; rfl⟩
                  · have q1 : (bt s k == 104) = false := by simpa using d1
                    by_cases d2 : bt s k = 109
                    · have q2 : (bt s k == 109) = true := by rw [d2]; rfl
                      have D0 := hide d2
                      clear d0 d1 d2
                      go_wp2_with fail
                      go_meet
                      exact ⟨_, rfl, rfl, by rw [J4.out, D0.out]; rfl, by rw [J4.out, D0.out]; rfl⟩
                    · have q2 : (bt s k == 109) = false := by simpa using d2
                      by_cases d3 : bt s k = 115
                      · have q3 : (bt s k == 115) = true := by rw [d3]; rfl
                        have D0 := hide d3
                        clear d0 d1 d2 d3
                        go_wp2_with fail
                        go_meet
                        exact ⟨_, rfl, rfl, by rw [J4.out, D0.out]; rfl, by rw [J4.out, D0.out]; rfl⟩
                      · have q3 : (bt s k == 115) = false := by simpa using d3
                        have D0 : Hid (byteU (bt s k) = 5) := hide (by unfold byteU; rw [if_neg d0, if_neg d1, if_neg d2, if_neg d3])
                        clear d0 d1 d2 d3
                        go_wp2_with fail
                        go_meet
                        exact ⟨_, rfl, rfl, by rw [J4.out, D0.out]; rfl, by rw [J4.out, D0.out]; rfl⟩
              · have hj5 : j = 5 := by
                  rw [HJ.out, List.drop_eq_nil_of_le (by rw [size_list]; omega)]; rfl
                have J5 := hide hj5
                have j0 : ¬ (k : Int) < (s.size : Int) := by omega
                clear hb4 j4 hj5 hb
                go_wp2_with fail
                go_meet
                exact ⟨_, rfl, rfl, by rw [J5.out]; rfl, by rw [J5.out]; rfl⟩
        case rest =>
          obtain ⟨wy, hwy, hwy2, hv, hu⟩ := hcut
          subst hwy
          subst hwy2
          have hj6 : j = 0 ∨ j = 1 ∨ j = 2 ∨ j = 3 ∨ j = 4 ∨ j = 5 := by omega
          rcases hj6 with rfl | rfl | rfl | rfl | rfl | rfl
          · have LN := hide (headU_len hj.symm (by decide))
            have GS := hide (good_step hlt RD.out HN.out hj.symm hG.out)
            clear hj HJ jle
            simp only [szU] at hv
            simp only [ulU] at hu
            subst hv
            subst hu
            have hl2 : k + 1 ≤ s.size := by
              have := LN.out
              rw [List.length_drop, size_list] at this
              simp [unitB] at this
              omega
            by_cases hnq : n ≤ 203613
            · obtain ⟨x, hx⟩ : ∃ x, x = n * 86400000 := ⟨_, rfl⟩
              have ex : (n : Int) * 86400000 = (x : Int) := by omega
              have hx2 : x ≤ 17592186044416 := by omega
              have hs2 : sum ≤ 562949953421312 := by have := HS.out; omega
              have hnq' : (n : Int) ≤ 203613 := by omega
              have G1 : Hid (Good s (k + 1) (sum + x)) := hide (by rw [hx]; exact GS.out.1)
              have S1 : SumLe (sum + x) (k + 1) := by unfold SumLe; have := HS.out; omega
              have K1 : Hid (s.size - (k + 1) < gk) := hide (by rw [HK.out]; omega)
              clear hx hnq GS LN hG HS HK HN1 RD CN HN
              go_wp2_with fail
              go_roundg (s.size - (k + 1))
              case measure => exact K1.out
              case rel => exact ⟨k + 1, sum + x, by go_num, by go_num, hl2, rfl, S1, G1, rfl⟩
            · have BAD := hide (GS.out.2 (.inr (by show 17592186044416 / 86400000 < n; omega)))
              have hnq' : (203613 : Int) < (n : Int) := by omega
              clear hnq GS LN
              go_wp2_with fail
              go_ret2
              exact ⟨_, _, rfl, fun m hm h => absurd h (BAD.out m hm), fun _ => ⟨rfl, rfl⟩, Below.refl _ _⟩
          · have LN := hide (headU_len hj.symm (by decide))
            have GS := hide (good_step hlt RD.out HN.out hj.symm hG.out)
            clear hj HJ jle
            simp only [szU] at hv
            simp only [ulU] at hu
            subst hv
            subst hu
            have hl2 : k + 1 ≤ s.size := by
              have := LN.out
              rw [List.length_drop, size_list] at this
              simp [unitB] at this
              omega
            by_cases hnq : n ≤ 4886718
            · obtain ⟨x, hx⟩ : ∃ x, x = n * 3600000 := ⟨_, rfl⟩
              have ex : (n : Int) * 3600000 = (x : Int) := by omega
              have hx2 : x ≤ 17592186044416 := by omega
              have hs2 : sum ≤ 562949953421312 := by have := HS.out; omega
              have hnq' : (n : Int) ≤ 4886718 := by omega
              have G1 : Hid (Good s (k + 1) (sum + x)) := hide (by rw [hx]; exact GS.out.1)
              have S1 : SumLe (sum + x) (k + 1) := by unfold SumLe; have := HS.out; omega
              have K1 : Hid (s.size - (k + 1) < gk) := hide (by rw [HK.out]; omega)
              clear hx hnq GS LN hG HS HK HN1 RD CN HN
              go_wp2_with fail
              go_roundg (s.size - (k + 1))
              case measure => exact K1.out
              case rel => exact ⟨k + 1, sum + x, by go_num, by go_num, hl2, rfl, S1, G1, rfl⟩
            · have BAD := hide (GS.out.2 (.inr (by show 17592186044416 / 3600000 < n; omega)))
              have hnq' : (4886718 : Int) < (n : Int) := by omega
              clear hnq GS LN
              go_wp2_with fail
              go_ret2
              exact ⟨_, _, rfl, fun m hm h => absurd h (BAD.out m hm), fun _ => ⟨rfl, rfl⟩, Below.refl _ _⟩
          · have LN := hide (headU_len hj.symm (by decide))
            have GS := hide (good_step hlt RD.out HN.out hj.symm hG.out)
            clear hj HJ jle
            simp only [szU] at hv
            simp only [ulU] at hu
            subst hv
            subst hu
            have hl2 : k + 1 ≤ s.size := by
              have := LN.out
              rw [List.length_drop, size_list] at this
              simp [unitB] at this
              omega
            by_cases hnq : n ≤ 293203100
            · obtain ⟨x, hx⟩ : ∃ x, x = n * 60000 := ⟨_, rfl⟩
              have ex : (n : Int) * 60000 = (x : Int) := by omega
              have hx2 : x ≤ 17592186044416 := by omega
              have hs2 : sum ≤ 562949953421312 := by have := HS.out; omega
              have hnq' : (n : Int) ≤ 293203100 := by omega
              have G1 : Hid (Good s (k + 1) (sum + x)) := hide (by rw [hx]; exact GS.out.1)
              have S1 : SumLe (sum + x) (k + 1) := by unfold SumLe; have := HS.out; omega
              have K1 : Hid (s.size - (k + 1) < gk) := hide (by rw [HK.out]; omega)
              clear hx hnq GS LN hG HS HK HN1 RD CN HN
              go_wp2_with fail
              go_roundg (s.size - (k + 1))
              case measure => exact K1.out
              case rel => exact ⟨k + 1, sum + x, by go_num, by go_num, hl2, rfl, S1, G1, rfl⟩
            · have BAD := hide (GS.out.2 (.inr (by show 17592186044416 / 60000 < n; omega)))
              have hnq' : (293203100 : Int) < (n : Int) := by omega
              clear hnq GS LN
              go_wp2_with fail
              go_ret2
              exact ⟨_, _, rfl, fun m hm h => absurd h (BAD.out m hm), fun _ => ⟨rfl, rfl⟩, Below.refl _ _⟩
          · have LN := hide (headU_len hj.symm (by decide))
            have GS := hide (good_step hlt RD.out HN.out hj.symm hG.out)
            clear hj HJ jle
            simp only [szU] at hv
            simp only [ulU] at hu
            subst hv
            subst hu
            have hl2 : k + 1 ≤ s.size := by
              have := LN.out
              rw [List.length_drop, size_list] at this
              simp [unitB] at this
              omega
            by_cases hnq : n ≤ 17592186044
            · obtain ⟨x, hx⟩ : ∃ x, x = n * 1000 := ⟨_, rfl⟩
              have ex : (n : Int) * 1000 = (x : Int) := by omega
              have hx2 : x ≤ 17592186044416 := by omega
              have hs2 : sum ≤ 562949953421312 := by have := HS.out; omega
              have hnq' : (n : Int) ≤ 17592186044 := by omega
              have G1 : Hid (Good s (k + 1) (sum + x)) := hide (by rw [hx]; exact GS.out.1)
              have S1 : SumLe (sum + x) (k + 1) := by unfold SumLe; have := HS.out; omega
              have K1 : Hid (s.size - (k + 1) < gk) := hide (by rw [HK.out]; omega)
              clear hx hnq GS LN hG HS HK HN1 RD CN HN
              go_wp2_with fail
              go_roundg (s.size - (k + 1))
              case measure => exact K1.out
              case rel => exact ⟨k + 1, sum + x, by go_num, by go_num, hl2, rfl, S1, G1, rfl⟩
            · have BAD := hide (GS.out.2 (.inr (by show 17592186044416 / 1000 < n; omega)))
              have hnq' : (17592186044 : Int) < (n : Int) := by omega
              clear hnq GS LN
              go_wp2_with fail
              go_ret2
              exact ⟨_, _, rfl, fun m hm h => absurd h (BAD.out m hm), fun _ => ⟨rfl, rfl⟩, Below.refl _ _⟩
          · have LN := hide (headU_len hj.symm (by decide))
            have GS := hide (good_step hlt RD.out HN.out hj.symm hG.out)
            clear hj HJ jle
            simp only [szU] at hv
            simp only [ulU] at hu
            subst hv
            subst hu
            have hl2 : k + 2 ≤ s.size := by
              have := LN.out
              rw [List.length_drop, size_list] at this
              simp [unitB] at this
              omega
            by_cases hnq : n ≤ 17592186044416
            · obtain ⟨x, hx⟩ : ∃ x, x = n * 1 := ⟨_, rfl⟩
              have ex : (n : Int) * 1 = (x : Int) := by omega
              have hx2 : x ≤ 17592186044416 := by omega
              have hs2 : sum ≤ 562949953421312 := by have := HS.out; omega
              have hnq' : (n : Int) ≤ 17592186044416 := by omega
              have G1 : Hid (Good s (k + 2) (sum + x)) := hide (by rw [hx]; exact GS.out.1)
              have S1 : SumLe (sum + x) (k + 2) := by unfold SumLe; have := HS.out; omega
              have K1 : Hid (s.size - (k + 2) < gk) := hide (by rw [HK.out]; omega)
              clear hx hnq GS LN hG HS HK HN1 RD CN HN
              go_wp2_with fail
              go_roundg (s.size - (k + 2))
              case measure => exact K1.out
              case rel => exact ⟨k + 2, sum + x, by go_num, by go_num, hl2, rfl, S1, G1, rfl⟩
            · have BAD := hide (GS.out.2 (.inr (by show 17592186044416 / 1 < n; omega)))
              have hnq' : (17592186044416 : Int) < (n : Int) := by omega
              clear hnq GS LN
              go_wp2_with fail
              go_ret2
              exact ⟨_, _, rfl, fun m hm h => absurd h (BAD.out m hm), fun _ => ⟨rfl, rfl⟩, Below.refl _ _⟩
          · have GS := hide (good_step hlt RD.out HN.out hj.symm hG.out)
            clear hj HJ jle
            simp only [szU] at hv
            simp only [ulU] at hu
            subst hv
            subst hu
            have BAD := hide (GS.out.2 (.inl rfl))
            clear GS
            go_wp2_with fail
            go_ret2
            exact ⟨_, _, rfl, fun m hm h => absurd h (BAD.out m hm), fun _ => ⟨rfl, rfl⟩, Below.refl _ _⟩
    · have hie : i = s.size := by omega
      subst hie
      have GE := hide (good_end hG.out)
      clear hgk hb hb0 hb1
      by_cases hs2 : sum ≤ 17592186044416
      · have q0 : decide ((17592186044416 : Int) < (sum : Int)) = false := by simp; omega
        have hs3 : ¬ (17592186044416 : Int) < (sum : Int) := by omega
        go_wp2_with fail
        refine (refSpanText_any sum _ hs2).mono ?_
        rintro e w2 ⟨t, rfl, ht, hb2⟩
        have HT := hide ht
        have HB2 := hide hb2
        clear ht hb2
        by_cases hts : t = s
        · subst hts
          have GE2 := hide (fun (m : Nat) (hm : m ≤ 17592186044416) (h : t.data.toList = spanT m) => GE.out m hm h)
          have q : (t.toList == t.toList) = true := by simp
          go_wp2_with fail
          go_ret2
          exact ⟨_, _, rfl, fun m hm h => ⟨by rw [GE2.out m hm h], rfl⟩, fun h => absurd HT.out (h sum hs2), HB2.out⟩
        · have q : (t.toList == s.toList) = false := by
            simp only [beq_eq_false_iff_ne, ne_eq]
            rw [ByteArray.toList_eq, ByteArray.toList_eq]
            exact fun h => hts (ByteArray.ext (Array.toList_inj.1 h))
          have HTS := hide hts
          clear hts
          go_wp2_with fail
          go_ret2
          exact ⟨_, _, rfl, fun m hm h => absurd (ByteArray.ext (Array.toList_inj.1 (by rw [HT.out, h, GE.out m hm h]))) HTS.out, fun _ => ⟨rfl, rfl⟩, HB2.out⟩
      · have q0 : decide ((17592186044416 : Int) < (sum : Int)) = true := by simp; omega
        have hs3 : (17592186044416 : Int) < (sum : Int) := by omega
        go_wp2_with fail
        go_ret2
        exact ⟨_, _, rfl, fun m hm h => by have := GE.out m hm h; omega, fun _ => ⟨rfl, rfl⟩, Below.refl _ _⟩
theorem refParseSpan_long (s : ByteArray) (w : World) (hz : 32 < s.size) :
    Calls Tryd.prog 43 #[.string s] w fun e w' => e = .returned (.tuple #[.int .i64 0, .int .i64 5]) ∧ w' = w := by
  go_enter Tryd.func43, Tryd.ntmps43
  go_wp2_with fail
  go_ret2
  exact ⟨rfl, rfl⟩
end Go.Proofs.YtodfajjkngjgdaaDoor
