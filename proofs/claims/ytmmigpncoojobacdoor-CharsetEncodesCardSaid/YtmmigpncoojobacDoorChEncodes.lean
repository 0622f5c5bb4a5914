/- CharsetEncodes, walked: it returns true and writes nothing that was there. Condition: the table of the forms holds what the program's text lays. -/
import Derived.Test.YtmmigpncoojobacDoorChK
import Derived.Test.YtmmigpncoojobacDoorFlat
namespace Go.Proofs.YtmmigpncoojobacDoor
open Go Go.RowKit Go.PlainAid
abbrev Laid (w : World) : Prop := Forms w

theorem lit_ints (w : World) (p : Int) : IntsAt (w.alloc (.cells #[.int .i64 p] 3)) (w.alloc (.cells #[.int .i64 p] 3)).heap.size (.slice (some ⟨w.heap.size, 0, none⟩) 1 1) [p] := by
  refine ⟨_, 1, rfl, fun _ => ⟨w.heap.size, 0, rfl, by simp, fun i hi => ?_⟩⟩
  obtain rfl : i = 0 := by simpa using hi
  rw [cell_of_row _ _ _ _ _ _ (heap_alloc_new w _)]
  rfl

set_option maxHeartbeats 1000000 in
theorem encodeX_ok (p : Int) (w : World) (hF : Forms w) (hp : isPt p = true) :
    Calls Tryd.prog 21 #[.int .i64 p] w fun e w' => e = .returned (.tuple #[.string (encS p), .int .i64 0]) ∧ Below w.heap.size w w' := by
  have hb := (Below.refl w.heap.size w).alloc (Nat.le_refl _) (.cells #[.int .i64 p] 3)
  go_enter Tryd.func21, Tryd.ntmps21
  go_wp2_with fail
  refine (text_any (.slice (some ⟨w.heap.size, 0, none⟩) 1 1) [p] _ (hF.below hb) (lit_ints w p) (by simp)).mono ?_
  rintro e w1 ⟨hb1, ⟨_, rfl⟩ | ⟨⟨q, hq, hq'⟩, _⟩⟩
  · have e1 : encs [p] = encL p := by simp [encs]
    have hb2 := below_step hb hb1
    rw [e1]
    clear hb hb1
    go_wp2_with fail
    go_ret2
    exact ⟨rfl, hb2⟩
  · rw [List.mem_singleton.1 hq, hp] at hq'
    cases hq'
set_option maxHeartbeats 1000000 in
theorem encodeX_no (p : Int) (w : World) (hF : Forms w) (hp : isPt p = false) :
    Calls Tryd.prog 21 #[.int .i64 p] w fun e w' => e = .returned (.tuple #[.string ⟨#[]⟩, .int .i64 2]) ∧ Below w.heap.size w w' := by
  have hb := (Below.refl w.heap.size w).alloc (Nat.le_refl _) (.cells #[.int .i64 p] 3)
  go_enter Tryd.func21, Tryd.ntmps21
  go_wp2_with fail
  refine (text_any (.slice (some ⟨w.heap.size, 0, none⟩) 1 1) [p] _ (hF.below hb) (lit_ints w p) (by simp)).mono ?_
  rintro e w1 ⟨hb1, ⟨hq, _⟩ | ⟨_, rfl⟩⟩
  · have := hq p (by simp)
    rw [hp] at this
    cases this
  · have hb2 := below_step hb hb1
    clear hb hb1
    go_wp2_with fail
    go_ret2
    exact ⟨rfl, hb2⟩

theorem cp_enc {p : Int} (hp : isPt p = true) : cp (encS p) 0 = p ∧ siz (encS p) 0 = (encS p).size ∧ 0 < (encS p).size ∧ (encS p).size ≤ 4 := by
  have hz : (encS p).size = (encL p).length := nums_size _
  have h := dec_enc hp (g := from_ (encS p) 0) (n := (encS p).size - 0) (by omega) (fun i hi => by
    unfold from_ encS
    rw [bt_nums (encL_bytes hp), Nat.zero_add])
  refine ⟨congrArg Prod.fst h, ?_, ?_, ?_⟩
  · rw [hz]; exact congrArg Prod.snd h
  · rw [hz]; exact encL_pos p
  · rw [hz]; exact encL_len p

set_option maxHeartbeats 4000000 in
theorem charsetEncodes_walk (p : Int) (w : World) (hF : Laid w) (_wp : (Lit.int .i64 p).wf = true) :
    Calls Tryd.prog 5 #[.int .i64 p] w fun e w' => e = .returned (.bool true) ∧ Below w.heap.size w w' := by
  cases hp : isPt p
  · go_enter Tryd.func5, Tryd.ntmps5
    go_wp2_with fail
    refine (encodeX_no p _ hF hp).mono ?_
    rintro e w1 ⟨rfl, hb1⟩
    go_wp2_with fail
    refine (known_any _ (hF.below hb1)).mono ?_
    rintro e w2 ⟨rfl, hb2⟩
    have hb2 := below_step hb1 hb2
    clear hb1
    go_wp2_with fail
    refine (refIsPoint_any p _).mono ?_
    rintro e w' ⟨rfl, rfl⟩
    go_wp2_with fail
    go_ret
    exact ⟨rfl, hb2⟩
  · have hi := isPt_iff.1 hp
    have hi1 := hi.1
    have hi2 := hi.2.1
    clear hi
    have hc := hide (cp_enc hp)
    go_enter Tryd.func5, Tryd.ntmps5
    go_wp2_with fail
    refine (encodeX_ok p _ hF hp).mono ?_
    rintro e w1 ⟨rfl, hb1⟩
    go_wp2_with fail
    refine (known_any _ (hF.below hb1)).mono ?_
    rintro e w2 ⟨rfl, hb2⟩
    have hb2 := below_step hb1 hb2
    clear hb1
    go_wp2_with fail
    refine (refIsPoint_any p _).mono ?_
    rintro e w' ⟨rfl, rfl⟩
    go_wp2_with fail
    have hd := decodeX_ok (encS p) 0 w2 (hF.below hb2) (by have := hc.out.2.2.2; unfold maxLen; omega) hc.out.2.2.1 (by rw [hc.out.2.1]; have := hc.out.2.2.1; omega)
    rw [hc.out.1, hc.out.2.1] at hd
    refine hd.mono ?_
    rintro e w' ⟨rfl, m, rfl⟩
    have hb3 := below_drewN hb2 m
    clear hd
    go_wp2_with fail
    refine (refEncode_any p _ hi1 hi2).mono ?_
    rintro e w4 ⟨rfl, hb4⟩
    have hb5 := below_step hb3 hb4
    clear hb2 hb3 hb4
    go_wp2_with fail
    go_ret
    exact ⟨ret_bool (by simp), hb5⟩
end Go.Proofs.YtmmigpncoojobacDoor
