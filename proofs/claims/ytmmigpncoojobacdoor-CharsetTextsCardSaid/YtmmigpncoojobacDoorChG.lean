/- What the reference's Decode returns, byte by byte the same as charset.decode. No condition but that the text is one. -/
import Derived.Test.YtmmigpncoojobacDoorChF
import Derived.Deep.RegionWith
namespace Go.Proofs.YtmmigpncoojobacDoor
open Go Go.RowKit Go.PlainAid

theorem nums_list (l : List Int) : (strOfNums l).data.toList = l.map fun n => UInt8.ofNat n.toNat := rfl
theorem take_bytes (s : ByteArray) (n : Nat) (h : n ≤ s.size) : s.data.toList.take n = (List.range n).map fun i => UInt8.ofNat (bt s i).toNat := by
  apply List.ext_getElem?
  intro i
  rw [List.getElem?_take, List.getElem?_map]
  by_cases hi : i < n
  · have hl : i < s.data.toList.length := by rw [size_list]; omega
    have e : bt s i = ((s.data.toList[i]).toNat : Int) := by rw [bt_list, List.getElem?_eq_getElem hl]; rfl
    rw [if_pos hi, List.getElem?_range hi, List.getElem?_eq_getElem hl, Option.map_some, e]
    simp
  · rw [if_neg hi, List.getElem?_eq_none (by simpa using hi)]
    rfl
theorem extract_take (s : ByteArray) (n : Nat) : (s.extract 0 n).data.toList = s.data.toList.take n := by
  simp [ByteArray.data_extract]
theorem enc_yes {s : ByteArray} {p : Int} (n : Nat) (hn : n ≤ s.size) (h : encL p = (List.range n).map fun i => bt s i) : ((encS p).toList == (s.extract 0 n).toList) = true := by
  rw [ByteArray.toList_eq, ByteArray.toList_eq, extract_take, take_bytes s n hn]
  unfold encS
  rw [nums_list, h, List.map_map]
  simp [Function.comp_def]
theorem enc_no {s : ByteArray} {p : Int} (n : Nat) (hn : n ≤ s.size) (h : (encL p).length ≠ n) : ((encS p).toList == (s.extract 0 n).toList) = false := by
  rw [ByteArray.toList_eq, ByteArray.toList_eq, extract_take, take_bytes s n hn]
  unfold encS
  rw [nums_list, beq_eq_false_iff_ne]
  intro e
  have := congrArg List.length e
  simp at this
  exact h this
theorem isPt_iff {p : Int} : isPt p = true ↔ 0 ≤ p ∧ p ≤ 1114111 ∧ (p < 55296 ∨ 57343 < p) := by
  simp [isPt, and_assoc]
theorem isPt_false {p : Int} : isPt p = false ↔ ¬ (0 ≤ p ∧ p ≤ 1114111 ∧ (p < 55296 ∨ 57343 < p)) := by
  rw [← isPt_iff]; simp
theorem drewN_below {w w' : World} {n : Nat} (h : Below w.heap.size (w.drewN n) w') : Below w.heap.size w w' := (below_drewN (Below.refl _ w) n).trans h

def RefDec (s : ByteArray) (w : World) : Prop :=
  Calls Tryd.prog 20 #[.string s] w fun e w' => e = .returned (.tuple #[.int .i64 (cp s 0), .int .i64 (siz s 0)]) ∧ Below w.heap.size w w'

set_option maxHeartbeats 400000 in
theorem refDec_zero (s : ByteArray) (w : World) (h : s.size = 0) : RefDec s w := by
  unfold RefDec
  have he := empty_list h
  have he' : s.toList = [] := by simpa using he
  have hd : cp s 0 = 0 ∧ siz s 0 = 0 := by
    have := cp_siz s 0
    rw [h, dec_nil] at this
    exact ⟨congrArg Prod.fst this, congrArg Prod.snd this⟩
  rw [hd.1, hd.2]
  clear h hd
  go_enter Tryd.func20, Tryd.ntmps20
  go_wp2_with fail
  go_ret2
  exact ⟨rfl, Below.refl _ _⟩

set_option maxHeartbeats 400000 in
theorem refDec_none (s : ByteArray) (w : World) (h : 0 < s.size) (hb : 128 ≤ bt s 0 ∧ bt s 0 < 192 ∨ 248 ≤ bt s 0) : RefDec s w := by
  unfold RefDec
  rw [(cp_none hb).1, (cp_none hb).2]
  have hB := get_bt s
  have b0 := bt_nonneg s 0
  have b1 := bt_le s 0
  have he := nonempty_list h
  have he' : ¬ s.toList = [] := by simpa using he
  rcases hb with ⟨h1, h2⟩ | h1
  · go_enter Tryd.func20, Tryd.ntmps20
    go_wp2_with fail
    go_ret2
    exact ⟨rfl, Below.refl _ _⟩
  · go_enter Tryd.func20, Tryd.ntmps20
    go_wp2_with fail
    go_ret2
    exact ⟨rfl, Below.refl _ _⟩

set_option maxHeartbeats 1000000 in
theorem refDec_one (s : ByteArray) (w : World) (hs : s.size ≤ maxLen) (h : 0 < s.size) (hb : bt s 0 < 128) : RefDec s w := by
  unfold RefDec
  unfold maxLen at hs
  rw [(cp_one h hb).1, (cp_one h hb).2]
  have hB := get_bt s
  have b0 := bt_nonneg s 0
  have b1 := bt_le s 0
  have he := nonempty_list h
  have he' : ¬ s.toList = [] := by simpa using he
  have hp : isPt (bt s 0) = true := isPt_iff.2 (by omega)
  have hq := enc_yes (s := s) (p := bt s 0) 1 (by omega) (by unfold encL; rw [if_pos hb]; rfl)
  go_enter Tryd.func20, Tryd.ntmps20
  go_wp2_with fail
  refine wp_loop_rounds 1 ?_
  rw [rounds_succ]
  go_wp2_with fail
  go_region_with (first | (go_at_call 22; refine (refIsPoint_any _ _).mono ?_; rintro e w' ⟨rfl, rfl⟩) | (go_at_call 23; refine (refEncode_any _ _ (by omega) (by omega)).mono ?_; rintro e w' ⟨rfl, hbw⟩))
  go_wp2_with fail
  go_ret2
  exact ⟨rfl, by first | exact below_drewN hbw _ | exact hbw | exact drewN_below hbw⟩

end Go.Proofs.YtmmigpncoojobacDoor
