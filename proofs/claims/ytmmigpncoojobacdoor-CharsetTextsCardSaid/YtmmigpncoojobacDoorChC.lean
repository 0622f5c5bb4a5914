/- What charset.First, Valid, Decode and Points return. Conditions: the table of the forms holds what the program's text lays; the texts are of at most 2^40 bytes. -/
import Derived.Test.YtmmigpncoojobacDoorChB
import Derived.LoopTactic
namespace Go.Proofs.YtmmigpncoojobacDoor
open Go Go.RowKit Go.PlainAid

theorem hide {p : Prop} (h : p) : Hid p := h

set_option maxHeartbeats 1000000 in
theorem first_any (s : ByteArray) (w : World) (hF : Forms w) (hs : s.size ≤ maxLen) :
    Calls Tryd.prog 16 #[.string s] w fun e w' => e = .returned (.int .i64 (first s 0)) ∧ ∃ n, w' = w.drewN n := by
  have hm := hide hs
  unfold maxLen at hs
  go_enter Tryd.func16, Tryd.ntmps16
  go_wp2_with fail
  go_loopw [3] (fun v wr => ∃ k n : Nat, k ≤ s.size ∧ v = .int .i64 k ∧ wr = w.drewN n ∧ Hid (first s 0 = first s k)) (fun v _ => s.size - (intOf v).toNat)
  case atStart => exact ⟨0, 0, Nat.zero_le _, rfl, rfl, rfl⟩
  case round =>
    obtain ⟨k, n, hk, rfl, rfl, hf⟩ := hrel
    by_cases hlt : k < s.size
    · have hz := siz_le s k
      by_cases h0 : siz s k = 0
      · have ht : ((siz s k : Int) == 0) = true := by simp [h0]
        have hr := hide (first_bad hlt h0)
        have H0 := hide h0
        clear h0
        go_wp2_with (go_at_call 37; refine (decode_any _ _ _ (hF.drewN _) hm hlt).mono ?_; rintro e w' ⟨rfl, m, rfl⟩)
        go_ret
        exact ⟨ret_int (by rw [hf.out, hr.out]), _, rfl⟩
      · have ht : ((siz s k : Int) == 0) = false := by simp [h0]
        have hr := hide (first_more hlt h0)
        go_wp2_with (go_at_call 37; refine (decode_any _ _ _ (hF.drewN _) hm hlt).mono ?_; rintro e w' ⟨rfl, m, rfl⟩)
        go_roundw
        case rel => exact ⟨k + siz s k, _, by omega, by go_num, rfl, by rw [hf.out, hr.out]; rfl⟩
        case measure => simp [intOf]; omega
    · have hr := hide (first_end (s := s) (k := k) (by omega))
      go_wp2_with fail
      go_ret
      exact ⟨ret_int (by rw [hf.out, hr.out]), _, rfl⟩

set_option maxHeartbeats 400000 in
theorem valid_any (s : ByteArray) (w : World) (hF : Forms w) (hs : s.size ≤ maxLen) :
    Calls Tryd.prog 18 #[.string s] w fun e w' => e = .returned (.bool (decide (first s 0 < 0))) ∧ ∃ n, w' = w.drewN n := by
  go_enter Tryd.func18, Tryd.ntmps18
  go_wp2_with (go_at_call 16; refine (first_any _ _ hF hs).mono ?_; rintro e w' ⟨rfl, m, rfl⟩)
  go_ret
  exact ⟨rfl, _, rfl⟩

/-- what charset.Decode returns -/
def decodeV (s : ByteArray) (at_ : Int) : Value :=
  if at_ < 0 ∨ s.size ≤ at_ then .tuple #[.int .i64 0, .int .i64 0, .int .i64 2]
  else if siz s at_.toNat = 0 then .tuple #[.int .i64 0, .int .i64 0, .int .i64 16]
  else .tuple #[.int .i64 (cp s at_.toNat), .int .i64 (siz s at_.toNat), .int .i64 0]

set_option maxHeartbeats 1000000 in
theorem decodeX_any (s : ByteArray) (at_ : Int) (w : World) (hF : Forms w) (hs : s.size ≤ maxLen) :
    Calls Tryd.prog 19 #[.string s, .int .i64 at_] w fun e w' => e = .returned (decodeV s at_) ∧ ∃ n, w' = w.drewN n := by
  by_cases h1 : at_ < 0
  · rw [show decodeV s at_ = .tuple #[.int .i64 0, .int .i64 0, .int .i64 2] from if_pos (.inl h1)]
    go_enter Tryd.func19, Tryd.ntmps19
    go_wp2_with fail
    go_ret3
    exact ⟨rfl, 0, rfl⟩
  by_cases h2 : s.size ≤ at_
  · rw [show decodeV s at_ = .tuple #[.int .i64 0, .int .i64 0, .int .i64 2] from if_pos (.inr h2)]
    have h1' : 0 ≤ at_ := by omega
    go_enter Tryd.func19, Tryd.ntmps19
    go_wp2_with fail
    go_ret3
    exact ⟨rfl, 0, rfl⟩
  obtain ⟨k, rfl⟩ := Int.eq_ofNat_of_zero_le (show 0 ≤ at_ by omega)
  have hlt : k < s.size := by omega
  have hm := hide hs
  unfold maxLen at hs
  have hz := siz_le s k
  by_cases h0 : siz s k = 0
  · rw [show decodeV s (k : Int) = .tuple #[.int .i64 0, .int .i64 0, .int .i64 16] by unfold decodeV; rw [if_neg (by omega), Int.toNat_natCast, if_pos h0]]
    have ht : ((siz s k : Int) == 0) = true := by simp [h0]
    clear h0
    go_enter Tryd.func19, Tryd.ntmps19
    go_wp2_with (go_at_call 37; refine (decode_any _ _ _ hF hm hlt).mono ?_; rintro e w' ⟨rfl, m, rfl⟩)
    go_ret3
    exact ⟨rfl, _, rfl⟩
  · rw [show decodeV s (k : Int) = .tuple #[.int .i64 (cp s k), .int .i64 (siz s k), .int .i64 0] by unfold decodeV; rw [if_neg (by omega), Int.toNat_natCast, if_neg h0]]
    have ht : ((siz s k : Int) == 0) = false := by simp [h0]
    go_enter Tryd.func19, Tryd.ntmps19
    go_wp2_with (go_at_call 37; refine (decode_any _ _ _ hF hm hlt).mono ?_; rintro e w' ⟨rfl, m, rfl⟩)
    go_ret3
    exact ⟨rfl, _, rfl⟩

theorem Forms.below {w w' : World} (h : Forms w) (hb : Below w.heap.size w w') : Forms w' := by
  have h0 : 0 < w.heap.size := World.block_lt_of_cell? w _ (h.at_ (i := 0) rfl)
  exact fun i => (hb.cell h0).trans (h i)

/-- what charset.Points comes to -/
def PointsPost (s : ByteArray) (w : World) (e : Ending) (w' : World) : Prop :=
  Below w.heap.size w w' ∧ (first s 0 = -1 ∧ (∃ v, e = .returned (.tuple #[v, .int .i64 0]) ∧ w'.ownsRow w.heap.size 3 1 v (points s 0).length ((points s 0).map (Value.int .i64))) ∨
    0 ≤ first s 0 ∧ e = .returned (.tuple #[.slice none 0 0, .int .i64 16]))

theorem row_more {w wr w1 : World} {v v' : Value} {c : List Int} {p : Int} (m : Nat) (o : Obj) (hb : Below w.heap.size w wr) (hown : wr.ownsRow w.heap.size 3 1 v c.length (c.map (Value.int .i64)))
    (hown1 : w1.ownsRow w.heap.size 3 1 v' (c.length + 1) (c.map (Value.int .i64) ++ [.int .i64 p])) (hg : ((wr.drewN m).alloc o).grownBy w1 v.ownBlock) :
    w1.ownsRow w.heap.size 3 1 v' (c ++ [p]).length ((c ++ [p]).map (Value.int .i64)) ∧ Below w.heap.size w w1 := by
  refine ⟨by simpa using hown1, ((below_drewN hb m).alloc hb.size o).grown hg (by have := hb.size; simp; omega) fun k hk => ?_⟩
  exact (hown.lt k hk).1

theorem own_drewN {w : World} {base e size n : Nat} {v : Value} {xs : List Value} (h : w.ownsRow base e size v n xs) (m : Nat) : (w.drewN m).ownsRow base e size v n xs := h

set_option maxHeartbeats 2000000 in
theorem points_any (s : ByteArray) (w : World) (hF : Forms w) (hs : s.size ≤ 1099511627776) :
    Calls Tryd.prog 24 #[.string s] w (PointsPost s w) := by
  have hm : Hid (s.size ≤ maxLen) := by unfold Hid maxLen; omega
  obtain ⟨i0, hi, hz0, hz1, hz2⟩ := info_parts (show (Tryd.prog.info? 3).map (fun i => (i.zero, i.size, i.bytes)) = some (some (.int .i64 0), 1, 8) by kernel_rfl)
  go_enter Tryd.func24, Tryd.ntmps24
  go_wp2_with fail
  go_loopw [4, 5] (fun v a wr => ∃ (k : Nat) (c : List Int), k ≤ s.size ∧ a = .int .i64 k ∧ c.length ≤ k ∧ wr.ownsRow w.heap.size 3 1 v c.length (c.map (Value.int .i64)) ∧ Below w.heap.size w wr ∧ Hid (first s 0 = first s k) ∧ Hid (points s 0 = c ++ points s k))
    (fun _ a _ => s.size - (intOf a).toNat)
  case atStart => exact ⟨0, [], Nat.zero_le _, rfl, Nat.zero_le _, World.ownsRow_nil _ _ _ _, Below.refl _ _, rfl, rfl⟩
  case round =>
    obtain ⟨k, c, hk, rfl, hck, hown, hb, hf, hp⟩ := hrel
    have hFr := hF.below hb
    by_cases hlt : k < s.size
    · have hz := siz_le s k
      by_cases h0 : siz s k = 0
      · have ht : ((siz s k : Int) == 0) = true := by simp [h0]
        have hr := hide (first_bad hlt h0)
        clear h0
        go_wp2_with (go_at_call 37; refine (decode_any _ _ _ hFr hm hlt).mono ?_; rintro e w' ⟨rfl, m, rfl⟩)
        go_ret2
        exact ⟨below_drewN hb m, .inr ⟨by rw [hf.out, hr.out]; omega, rfl⟩⟩
      · have ht : ((siz s k : Int) == 0) = false := by simp [h0]
        have hr := hide (first_more hlt h0)
        have hr2 := hide (points_more hlt h0)
        go_wp2_with (first | (go_at_call 37; refine (decode_any _ _ _ hFr hm hlt).mono ?_; rintro e w' ⟨rfl, m, rfl⟩) | (at_builtin; refine wpList_append_own _ rfl _ _ 36 rfl w.heap.size 3 i0 (.int .i64 0) 1 8 Tryd.underlying36 hi hz0 hz1 hz2 rfl (by decide) _ _ _ rfl ((own_drewN hown _).alloc _) ⟨wr.heap.size, 0, none⟩ 1 1 [.int .i64 (cp s k)] rfl rfl ?c1 ?c2 ?c3 ?c4 ?c5 ?_))
        case c1 => exact cell_one_new (wr.drewN _) _ _
        case c2 => intro u hu; simp at hu; subst hu; rfl
        case c3 => unfold maxLen; omega
        case c4 => omega
        case c5 => have := hb.size; simp; omega
        intro v' w1 hown' hgrow _
        have R := row_more _ _ hb hown hown' hgrow
        clear hown' hgrow
        go_wp2_with fail
        go_roundw
        case rel => exact ⟨k + siz s k, c ++ [cp s k], by omega, by go_num, by simp; omega, R.1, R.2, by rw [hf.out, hr.out]; rfl, by rw [hp.out, hr2.out]; simp [Hid]⟩
        case measure => simp [intOf]; omega
    · have hr := hide (first_end (s := s) (k := k) (by omega))
      have hr2 := hide (points_end (s := s) (k := k) (by omega))
      go_wp2_with fail
      go_ret2
      have e1 := hf.out.trans hr.out
      have e2 := hp.out
      rw [hr2.out, List.append_nil] at e2
      exact ⟨hb, .inl ⟨e1, _, rfl, by rw [e2]; exact hown⟩⟩
end Go.Proofs.YtmmigpncoojobacDoor
