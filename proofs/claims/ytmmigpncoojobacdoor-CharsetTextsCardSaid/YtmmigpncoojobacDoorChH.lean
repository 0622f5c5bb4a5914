/- What the reference's First and the statements' cut return. Condition: the text is one. -/
import Derived.Test.YtmmigpncoojobacDoorChG5
import Derived.Lib.Strings
namespace Go.Proofs.YtmmigpncoojobacDoor
open Go Go.RowKit Go.PlainAid

theorem ext_list (s : ByteArray) (k : Nat) : (s.extract k s.size).data.toList = s.data.toList.drop k := by
  rw [Lib.extract_data]
  rw [List.take_of_length_le]
  rw [List.length_drop, size_list]; exact Nat.le_refl _
theorem ext_size (s : ByteArray) (k : Nat) : (s.extract k s.size).size = s.size - k := by
  rw [← size_list, ext_list, List.length_drop, size_list]
theorem ext_bt (s : ByteArray) (k i : Nat) : bt (s.extract k s.size) i = bt s (k + i) := by
  rw [bt_list, bt_list, ext_list, List.getElem?_drop]
theorem ext_cp (s : ByteArray) (k : Nat) : cp (s.extract k s.size) 0 = cp s k ∧ siz (s.extract k s.size) 0 = siz s k := by
  have e : from_ (s.extract k s.size) 0 = from_ s k := by
    funext i
    unfold from_
    rw [ext_bt, Nat.zero_add]
  unfold cp siz
  rw [e, ext_size, Nat.sub_zero]
  exact ⟨rfl, rfl⟩
theorem refDec_at (s : ByteArray) (k : Nat) (w : World) (hs : s.size ≤ maxLen) :
    Calls Tryd.prog 20 #[.string (s.extract k s.size)] w fun e w' => e = .returned (.tuple #[.int .i64 (cp s k), .int .i64 (siz s k)]) ∧ Below w.heap.size w w' := by
  have := refDec_any (s.extract k s.size) w (by rw [ext_size]; omega)
  unfold RefDec at this
  rw [(ext_cp s k).1, (ext_cp s k).2] at this
  exact this
theorem below_step {w a b : World} (h : Below w.heap.size w a) (k : Below a.heap.size a b) : Below w.heap.size w b := h.trans (k.mono h.size)

set_option maxHeartbeats 1000000 in
theorem refFirst_any (s : ByteArray) (w : World) (hs : s.size ≤ maxLen) :
    Calls Tryd.prog 17 #[.string s] w fun e w' => e = .returned (.int .i64 (first s 0)) ∧ Below w.heap.size w w' := by
  have hm := hide hs
  unfold maxLen at hs
  go_enter Tryd.func17, Tryd.ntmps17
  go_wp2_with fail
  go_loopw [3] (fun v wr => ∃ k : Nat, k ≤ s.size ∧ v = .int .i64 k ∧ Below w.heap.size w wr ∧ Hid (first s 0 = first s k)) (fun v _ => s.size - (intOf v).toNat)
  case atStart => exact ⟨0, Nat.zero_le _, rfl, Below.refl _ _, rfl⟩
  case round =>
    obtain ⟨k, hk, rfl, hb, hf⟩ := hrel
    by_cases hlt : k < s.size
    · have hz := siz_le s k
      by_cases h0 : siz s k = 0
      · have ht : ((siz s k : Int) == 0) = true := by simp [h0]
        have hr := hide (first_bad hlt h0)
        clear h0
        go_wp2_with (go_at_call 20; refine (refDec_at _ _ _ hm).mono ?_; rintro e w1 ⟨rfl, hb1⟩)
        go_ret
        exact ⟨ret_int (by rw [hf.out, hr.out]), below_step hb hb1⟩
      · have ht : ((siz s k : Int) == 0) = false := by simp [h0]
        have hr := hide (first_more hlt h0)
        go_wp2_with (go_at_call 20; refine (refDec_at _ _ _ hm).mono ?_; rintro e w1 ⟨rfl, hb1⟩)
        go_roundw
        case rel => exact ⟨k + siz s k, by omega, by go_num, below_step hb hb1, by rw [hf.out, hr.out]; rfl⟩
        case measure => simp [intOf]; omega
    · have hr := hide (first_end (s := s) (k := k) (by omega))
      go_wp2_with fail
      go_ret
      exact ⟨ret_int (by rw [hf.out, hr.out]), hb⟩

set_option maxHeartbeats 400000 in
theorem cut_any (s : ByteArray) (w : World) (hs : s.size ≤ maxLen) :
    Calls Tryd.prog 14 #[.string s] w fun e w' => ∃ t : ByteArray, e = .returned (.string t) ∧ t.size ≤ 300 ∧ w = w' := by
  unfold maxLen at hs
  by_cases h : s.size ≤ 300
  · go_enter Tryd.func14, Tryd.ntmps14
    go_wp2_with fail
    all_goals
      go_ret
      exact ⟨_, rfl, by first | omega | (simp; omega), rfl⟩
  · go_enter Tryd.func14, Tryd.ntmps14
    go_wp2_with fail
    all_goals
      go_ret
      exact ⟨_, rfl, by first | omega | (simp; omega), rfl⟩

theorem decodeX_out (s : ByteArray) (at_ : Int) (w : World) (hF : Forms w) (hs : s.size ≤ maxLen) (h : at_ < 0 ∨ s.size ≤ at_) :
    Calls Tryd.prog 19 #[.string s, .int .i64 at_] w fun e w' => e = .returned (.tuple #[.int .i64 0, .int .i64 0, .int .i64 2]) ∧ ∃ n, w' = w.drewN n := by
  have := decodeX_any s at_ w hF hs
  rwa [show decodeV s at_ = .tuple #[.int .i64 0, .int .i64 0, .int .i64 2] from if_pos h] at this
theorem decodeX_bad (s : ByteArray) (k : Nat) (w : World) (hF : Forms w) (hs : s.size ≤ maxLen) (h : k < s.size) (hz : siz s k = 0) :
    Calls Tryd.prog 19 #[.string s, .int .i64 k] w fun e w' => e = .returned (.tuple #[.int .i64 0, .int .i64 0, .int .i64 16]) ∧ ∃ n, w' = w.drewN n := by
  have := decodeX_any s k w hF hs
  rwa [show decodeV s k = .tuple #[.int .i64 0, .int .i64 0, .int .i64 16] by unfold decodeV; rw [if_neg (by omega), Int.toNat_natCast, if_pos hz]] at this
theorem decodeX_ok (s : ByteArray) (k : Nat) (w : World) (hF : Forms w) (hs : s.size ≤ maxLen) (h : k < s.size) (hz : siz s k ≠ 0) :
    Calls Tryd.prog 19 #[.string s, .int .i64 k] w fun e w' => e = .returned (.tuple #[.int .i64 (cp s k), .int .i64 (siz s k), .int .i64 0]) ∧ ∃ n, w' = w.drewN n := by
  have := decodeX_any s k w hF hs
  rwa [show decodeV s k = .tuple #[.int .i64 (cp s k), .int .i64 (siz s k), .int .i64 0] by unfold decodeV; rw [if_neg (by omega), Int.toNat_natCast, if_neg hz]] at this
end Go.Proofs.YtmmigpncoojobacDoor
