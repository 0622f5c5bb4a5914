/- What charset.decode returns: the code point at an offset and its number of bytes. Condition: the table of the forms holds what the program's text lays. -/
import Derived.Test.YtmmigpncoojobacDoorChA
namespace Go.Proofs.YtmmigpncoojobacDoor
open Go Go.RowKit Go.PlainAid

theorem t128 {b : Int} (h0 : 0 ≤ b) (h1 : b ≤ 255) : (bits BinOp.and IntKind.u8 b 128 == 0) = decide (b < 128) :=
  all_u8 (P := fun b => (bits BinOp.and IntKind.u8 b 128 == 0) = decide (b < 128)) (by decide +kernel) h0 h1
theorem t224 {b : Int} (h0 : 0 ≤ b) (h1 : b ≤ 255) : (bits BinOp.and IntKind.u8 b 224 == 192) = (decide (192 ≤ b) && decide (b < 224)) :=
  all_u8 (P := fun b => (bits BinOp.and IntKind.u8 b 224 == 192) = (decide (192 ≤ b) && decide (b < 224))) (by decide +kernel) h0 h1
theorem t240 {b : Int} (h0 : 0 ≤ b) (h1 : b ≤ 255) : (bits BinOp.and IntKind.u8 b 240 == 224) = (decide (224 ≤ b) && decide (b < 240)) :=
  all_u8 (P := fun b => (bits BinOp.and IntKind.u8 b 240 == 224) = (decide (224 ≤ b) && decide (b < 240))) (by decide +kernel) h0 h1
theorem t248 {b : Int} (h0 : 0 ≤ b) (h1 : b ≤ 255) : (bits BinOp.and IntKind.u8 b 248 == 240) = (decide (240 ≤ b) && decide (b < 248)) :=
  all_u8 (P := fun b => (bits BinOp.and IntKind.u8 b 248 == 240) = (decide (240 ≤ b) && decide (b < 248))) (by decide +kernel) h0 h1
theorem Forms.drewN {w : World} (h : Forms w) (n : Nat) : Forms (w.drewN n) := h

theorem fol_iff {b : Int} : fol b = true ↔ 128 ≤ b ∧ b < 192 := by simp [fol]
theorem df1_eq {s : ByteArray} {k : Nat} (h1 : 192 ≤ bt s k) (h2 : bt s k < 224) (hk : k < s.size) : df1 s k = (cp s k, (siz s k : Int)) := by
  have hd := cp_two hk h1 h2
  unfold df1 p1
  by_cases hf : fol (bt s (k + 1)) = true
  · have hf' := fol_iff.1 hf
    have e : bt s k % 32 * 64 + bt s (k + 1) % 64 = (bt s k - 192) * 64 + (bt s (k + 1) - 128) := by omega
    rw [e]
    by_cases hc : k + 1 < s.size ∧ 128 ≤ (bt s k - 192) * 64 + (bt s (k + 1) - 128)
    · have hp : isPt ((bt s k - 192) * 64 + (bt s (k + 1) - 128)) = true := by simp [isPt]; omega
      rw [if_pos ⟨by omega, hf, hc.2⟩, Prod.mk.injEq] at hd
      rw [if_pos ⟨hc.1, hf, hc.2, hp⟩, hd.1, hd.2]; rfl
    · rw [if_neg (fun h => hc ⟨by omega, h.2.2⟩), Prod.mk.injEq] at hd
      rw [if_neg (fun h => hc ⟨h.1, h.2.2.1⟩), hd.1, hd.2]; rfl
  · rw [if_neg (fun h => hf h.2.1), Prod.mk.injEq] at hd
    rw [if_neg (fun h => hf h.2.1), hd.1, hd.2]; rfl
theorem df2_eq {s : ByteArray} {k : Nat} (h1 : 224 ≤ bt s k) (h2 : bt s k < 240) (hk : k < s.size) : df2 s k = (cp s k, (siz s k : Int)) := by
  have hd := cp_three hk h1 h2
  unfold df2 p2
  by_cases hf : fol (bt s (k + 1)) = true ∧ fol (bt s (k + 2)) = true
  · have hf1 := fol_iff.1 hf.1
    have hf2 := fol_iff.1 hf.2
    have e : (bt s k % 16 * 64 + bt s (k + 1) % 64) * 64 + bt s (k + 2) % 64 = ((bt s k - 224) * 64 + (bt s (k + 1) - 128)) * 64 + (bt s (k + 2) - 128) := by omega
    rw [e]
    generalize ((bt s k - 224) * 64 + (bt s (k + 1) - 128)) * 64 + (bt s (k + 2) - 128) = p at *
    by_cases hc : k + 2 < s.size ∧ 2048 ≤ p ∧ isPt p = true
    · rw [if_pos ⟨by omega, hf.1, hf.2, hc.2.1, hc.2.2⟩, Prod.mk.injEq] at hd
      rw [if_pos ⟨hc.1, hf.1, hf.2, hc.2.1, hc.2.2⟩, hd.1, hd.2]; rfl
    · rw [if_neg (fun h => hc ⟨by omega, h.2.2.2⟩), Prod.mk.injEq] at hd
      rw [if_neg (fun h => hc ⟨h.1, h.2.2.2⟩), hd.1, hd.2]; rfl
  · rw [if_neg (fun h => hf ⟨h.2.1, h.2.2.1⟩), Prod.mk.injEq] at hd
    rw [if_neg (fun h => hf ⟨h.2.1, h.2.2.1⟩), hd.1, hd.2]; rfl
theorem df3_eq {s : ByteArray} {k : Nat} (h1 : 240 ≤ bt s k) (h2 : bt s k < 248) (hk : k < s.size) : df3 s k = (cp s k, (siz s k : Int)) := by
  have hd := cp_four hk h1 h2
  unfold df3 p3
  by_cases hf : fol (bt s (k + 1)) = true ∧ fol (bt s (k + 2)) = true ∧ fol (bt s (k + 3)) = true
  · have hf1 := fol_iff.1 hf.1
    have hf2 := fol_iff.1 hf.2.1
    have hf3 := fol_iff.1 hf.2.2
    have e : ((bt s k % 8 * 64 + bt s (k + 1) % 64) * 64 + bt s (k + 2) % 64) * 64 + bt s (k + 3) % 64 = (((bt s k - 240) * 64 + (bt s (k + 1) - 128)) * 64 + (bt s (k + 2) - 128)) * 64 + (bt s (k + 3) - 128) := by omega
    rw [e]
    generalize (((bt s k - 240) * 64 + (bt s (k + 1) - 128)) * 64 + (bt s (k + 2) - 128)) * 64 + (bt s (k + 3) - 128) = p at *
    by_cases hc : k + 3 < s.size ∧ 65536 ≤ p ∧ isPt p = true
    · rw [if_pos ⟨by omega, hf.1, hf.2.1, hf.2.2, hc.2.1, hc.2.2⟩, Prod.mk.injEq] at hd
      rw [if_pos ⟨hc.1, hf.1, hf.2.1, hf.2.2, hc.2.1, hc.2.2⟩, hd.1, hd.2]; rfl
    · rw [if_neg (fun h => hc ⟨by omega, h.2.2.2.2⟩), Prod.mk.injEq] at hd
      rw [if_neg (fun h => hc ⟨h.1, h.2.2.2.2⟩), hd.1, hd.2]; rfl
  · rw [if_neg (fun h => hf ⟨h.2.1, h.2.2.1, h.2.2.2.1⟩), Prod.mk.injEq] at hd
    rw [if_neg (fun h => hf ⟨h.2.1, h.2.2.1, h.2.2.2.1⟩), hd.1, hd.2]; rfl

set_option maxHeartbeats 2000000 in
theorem decode_f0 (s : ByteArray) (k : Nat) (w : World) (hF : Forms w) (hs : s.size ≤ maxLen) (hk : k < s.size) (h2 : bt s k < 128) :
    Calls Tryd.prog 37 #[.string s, .int .i64 k] w fun e w' => e = .returned (.tuple #[.int .i64 (cp s k), .int .i64 (siz s k)]) ∧ ∃ n, w' = w.drewN n := by
  have hm := hs
  unfold maxLen at hs
  have hb := get_bt s
  have b0 := bt_nonneg s k
  have b1 := bt_le s k
  have q0 : (bits BinOp.and IntKind.u8 (bt s k) 128 == 0) = true := by rw [t128 b0 b1]; simp; omega
  have m0 := hF.at_ (i := 0) rfl
  have n0 := hF.at_ (i := 1) rfl
  have hv := cp_one hk h2
  rw [hv.1, hv.2, show bt s k = bt s k % 128 by omega]
  clear hv
  go_enter Tryd.func37, Tryd.ntmps37
  go_wp2_with fail
  refine wp_loop_rounds 5 ?_
  rw [rounds_succ]
  go_wp2_with fail
  go_quiet (fail)
  go_wp2_with fail
  refine (decodeForm0 _ _ _ (hF.drewN _) hm hk).mono ?_
  rintro e w' ⟨rfl, n, rfl⟩
  go_wp2_with fail
  go_ret2
  exact ⟨rfl, _, rfl⟩

set_option maxHeartbeats 2000000 in
theorem decode_f1 (s : ByteArray) (k : Nat) (w : World) (hF : Forms w) (hs : s.size ≤ maxLen) (hk : k < s.size) (h1 : 192 ≤ bt s k) (h2 : bt s k < 224) :
    Calls Tryd.prog 37 #[.string s, .int .i64 k] w fun e w' => e = .returned (.tuple #[.int .i64 (cp s k), .int .i64 (siz s k)]) ∧ ∃ n, w' = w.drewN n := by
  have hm := hs
  unfold maxLen at hs
  have hb := get_bt s
  have b0 := bt_nonneg s k
  have b1 := bt_le s k
  have q0 : (bits BinOp.and IntKind.u8 (bt s k) 128 == 0) = false := by rw [t128 b0 b1]; simp; omega
  have q1 : (bits BinOp.and IntKind.u8 (bt s k) 224 == 192) = true := by rw [t224 b0 b1]; simp; omega
  have m0 := hF.at_ (i := 0) rfl
  have n0 := hF.at_ (i := 1) rfl
  have m1 := hF.at_ (i := 3) rfl
  have n1 := hF.at_ (i := 4) rfl
  rw [show cp s k = (df1 s k).1 by rw [df1_eq h1 h2 hk], show (siz s k : Int) = (df1 s k).2 by rw [df1_eq h1 h2 hk]]
  go_enter Tryd.func37, Tryd.ntmps37
  go_wp2_with fail
  refine wp_loop_rounds 5 ?_
  rw [rounds_succ]
  go_wp2_with fail
  go_quiet (fail)
  go_wp2_with fail
  rw [rounds_succ]
  go_wp2_with fail
  go_quiet (fail)
  go_wp2_with fail
  refine (decodeForm1 _ _ _ (hF.drewN _) hm hk).mono ?_
  rintro e w' ⟨rfl, n, rfl⟩
  go_wp2_with fail
  go_ret2
  exact ⟨rfl, _, rfl⟩

set_option maxHeartbeats 2000000 in
theorem decode_f2 (s : ByteArray) (k : Nat) (w : World) (hF : Forms w) (hs : s.size ≤ maxLen) (hk : k < s.size) (h1 : 224 ≤ bt s k) (h2 : bt s k < 240) :
    Calls Tryd.prog 37 #[.string s, .int .i64 k] w fun e w' => e = .returned (.tuple #[.int .i64 (cp s k), .int .i64 (siz s k)]) ∧ ∃ n, w' = w.drewN n := by
  have hm := hs
  unfold maxLen at hs
  have hb := get_bt s
  have b0 := bt_nonneg s k
  have b1 := bt_le s k
  have q0 : (bits BinOp.and IntKind.u8 (bt s k) 128 == 0) = false := by rw [t128 b0 b1]; simp; omega
  have q1 : (bits BinOp.and IntKind.u8 (bt s k) 224 == 192) = false := by rw [t224 b0 b1]; simp; omega
  have q2 : (bits BinOp.and IntKind.u8 (bt s k) 240 == 224) = true := by rw [t240 b0 b1]; simp; omega
  have m0 := hF.at_ (i := 0) rfl
  have n0 := hF.at_ (i := 1) rfl
  have m1 := hF.at_ (i := 3) rfl
  have n1 := hF.at_ (i := 4) rfl
  have m2 := hF.at_ (i := 6) rfl
  have n2 := hF.at_ (i := 7) rfl
  rw [show cp s k = (df2 s k).1 by rw [df2_eq h1 h2 hk], show (siz s k : Int) = (df2 s k).2 by rw [df2_eq h1 h2 hk]]
  go_enter Tryd.func37, Tryd.ntmps37
  go_wp2_with fail
  refine wp_loop_rounds 5 ?_
  rw [rounds_succ]
  go_wp2_with fail
  go_quiet (fail)
  go_wp2_with fail
  rw [rounds_succ]
  go_wp2_with fail
  go_quiet (fail)
  go_wp2_with fail
  rw [rounds_succ]
  go_wp2_with fail
  go_quiet (fail)
  go_wp2_with fail
  refine (decodeForm2 _ _ _ (hF.drewN _) hm hk).mono ?_
  rintro e w' ⟨rfl, n, rfl⟩
  go_wp2_with fail
  go_ret2
  exact ⟨rfl, _, rfl⟩

set_option maxHeartbeats 2000000 in
theorem decode_f3 (s : ByteArray) (k : Nat) (w : World) (hF : Forms w) (hs : s.size ≤ maxLen) (hk : k < s.size) (h1 : 240 ≤ bt s k) (h2 : bt s k < 248) :
    Calls Tryd.prog 37 #[.string s, .int .i64 k] w fun e w' => e = .returned (.tuple #[.int .i64 (cp s k), .int .i64 (siz s k)]) ∧ ∃ n, w' = w.drewN n := by
  have hm := hs
  unfold maxLen at hs
  have hb := get_bt s
  have b0 := bt_nonneg s k
  have b1 := bt_le s k
  have q0 : (bits BinOp.and IntKind.u8 (bt s k) 128 == 0) = false := by rw [t128 b0 b1]; simp; omega
  have q1 : (bits BinOp.and IntKind.u8 (bt s k) 224 == 192) = false := by rw [t224 b0 b1]; simp; omega
  have q2 : (bits BinOp.and IntKind.u8 (bt s k) 240 == 224) = false := by rw [t240 b0 b1]; simp; omega
  have q3 : (bits BinOp.and IntKind.u8 (bt s k) 248 == 240) = true := by rw [t248 b0 b1]; simp; omega
  have m0 := hF.at_ (i := 0) rfl
  have n0 := hF.at_ (i := 1) rfl
  have m1 := hF.at_ (i := 3) rfl
  have n1 := hF.at_ (i := 4) rfl
  have m2 := hF.at_ (i := 6) rfl
  have n2 := hF.at_ (i := 7) rfl
  have m3 := hF.at_ (i := 9) rfl
  have n3 := hF.at_ (i := 10) rfl
  rw [show cp s k = (df3 s k).1 by rw [df3_eq h1 h2 hk], show (siz s k : Int) = (df3 s k).2 by rw [df3_eq h1 h2 hk]]
  go_enter Tryd.func37, Tryd.ntmps37
  go_wp2_with fail
  refine wp_loop_rounds 5 ?_
  rw [rounds_succ]
  go_wp2_with fail
  go_quiet (fail)
  go_wp2_with fail
  rw [rounds_succ]
  go_wp2_with fail
  go_quiet (fail)
  go_wp2_with fail
  rw [rounds_succ]
  go_wp2_with fail
  go_quiet (fail)
  go_wp2_with fail
  rw [rounds_succ]
  go_wp2_with fail
  go_quiet (fail)
  go_wp2_with fail
  refine (decodeForm3 _ _ _ (hF.drewN _) hm hk).mono ?_
  rintro e w' ⟨rfl, n, rfl⟩
  go_wp2_with fail
  go_ret2
  exact ⟨rfl, _, rfl⟩

set_option maxHeartbeats 2000000 in
theorem decode_none (s : ByteArray) (k : Nat) (w : World) (hF : Forms w) (hk : k < s.size) (h : 128 ≤ bt s k ∧ bt s k < 192 ∨ 248 ≤ bt s k) :
    Calls Tryd.prog 37 #[.string s, .int .i64 k] w fun e w' => e = .returned (.tuple #[.int .i64 (cp s k), .int .i64 (siz s k)]) ∧ ∃ n, w' = w.drewN n := by
  have hb := get_bt s
  have b0 := bt_nonneg s k
  have b1 := bt_le s k
  have q0 : (bits BinOp.and IntKind.u8 (bt s k) 128 == 0) = false := by rw [t128 b0 b1]; simp; omega
  have q1 : (bits BinOp.and IntKind.u8 (bt s k) 224 == 192) = false := by rw [t224 b0 b1]; simp; omega
  have q2 : (bits BinOp.and IntKind.u8 (bt s k) 240 == 224) = false := by rw [t240 b0 b1]; simp; omega
  have q3 : (bits BinOp.and IntKind.u8 (bt s k) 248 == 240) = false := by rw [t248 b0 b1]; simp; omega
  have m0 := hF.at_ (i := 0) rfl
  have n0 := hF.at_ (i := 1) rfl
  have m1 := hF.at_ (i := 3) rfl
  have n1 := hF.at_ (i := 4) rfl
  have m2 := hF.at_ (i := 6) rfl
  have n2 := hF.at_ (i := 7) rfl
  have m3 := hF.at_ (i := 9) rfl
  have n3 := hF.at_ (i := 10) rfl
  clear hF
  have hv := cp_none h
  rw [hv.1, hv.2]
  clear hv h
  go_enter Tryd.func37, Tryd.ntmps37
  go_wp2_with fail
  refine wp_loop_rounds 5 ?_
  rw [rounds_succ]
  go_wp2_with fail
  go_quiet (fail)
  go_wp2_with fail
  rw [rounds_succ]
  go_wp2_with fail
  go_quiet (fail)
  go_wp2_with fail
  rw [rounds_succ]
  go_wp2_with fail
  go_quiet (fail)
  go_wp2_with fail
  rw [rounds_succ]
  go_wp2_with fail
  go_quiet (fail)
  go_wp2_with fail
  rw [rounds_succ]
  go_wp2_with fail
  go_ret2
  exact ⟨rfl, _, rfl⟩

theorem decode_any (s : ByteArray) (k : Nat) (w : World) (hF : Forms w) (hs : s.size ≤ maxLen) (hk : k < s.size) :
    Calls Tryd.prog 37 #[.string s, .int .i64 k] w fun e w' => e = .returned (.tuple #[.int .i64 (cp s k), .int .i64 (siz s k)]) ∧ ∃ n, w' = w.drewN n := by
  by_cases h1 : bt s k < 128
  · exact decode_f0 s k w hF hs hk h1
  by_cases h2 : bt s k < 192
  · exact decode_none s k w hF hk (.inl ⟨by omega, h2⟩)
  by_cases h3 : bt s k < 224
  · exact decode_f1 s k w hF hs hk (by omega) h3
  by_cases h4 : bt s k < 240
  · exact decode_f2 s k w hF hs hk (by omega) h4
  by_cases h5 : bt s k < 248
  · exact decode_f3 s k w hF hs hk (by omega) h5
  exact decode_none s k w hF hk (.inr (by omega))

end Go.Proofs.YtmmigpncoojobacDoor
