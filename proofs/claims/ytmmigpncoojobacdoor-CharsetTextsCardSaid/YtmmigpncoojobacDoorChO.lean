/- What charset.ToASCII, ToLatin and FromLatin return. Conditions: the table of the forms holds what the program's text lays; texts of at most 2^34 bytes. -/
import Derived.Test.YtmmigpncoojobacDoorChL
namespace Go.Proofs.YtmmigpncoojobacDoor
open Go Go.RowKit Go.PlainAid

/-- a row of n bytes of the call's own, the first k of them f 0, f 1, .. -/
def Fill (f : Nat → Int) (B g n k : Nat) (w : World) : Prop :=
  ∃ xs, w.ownsRow B 5 1 (.slice (some ⟨g, 0, none⟩) n n) n xs ∧ ∀ j, j < k → xs[j]? = some (.int .u8 (f j))
section
variable {f : Nat → Int} {B g n k : Nat} {w : World}
theorem Fill.start {xs : List Value} (h : w.ownsRow B 5 1 (.slice (some ⟨g, 0, none⟩) n n) n xs) : Fill f B g n 0 w := ⟨xs, h, fun j hj => by omega⟩
theorem Fill.cur (h : Fill f B g n k w) (hk : k < n) : ∃ v, w.cell? ⟨g, k, none⟩ = some v ∧ w.frozen? ⟨g, k, none⟩ = false := by
  obtain ⟨xs, h1, _⟩ := h
  have hl : k < xs.length := by have := h1.1; omega
  exact ⟨xs[k], (h1.cellAt k (by omega)).trans (List.getElem?_eq_getElem hl), h1.frozenAt k⟩
theorem Fill.store (h : Fill f B g n k w) (hk : k < n) {u : Int} (hu : u = f k) : Fill f B g n (k + 1) (w.setCell ⟨g, k, none⟩ (.int .u8 u)) := by
  obtain ⟨xs, h1, h2⟩ := h
  have hl : k < xs.length := by have := h1.1; omega
  refine ⟨_, (h1.stored k (.int .u8 u)).1, fun j hj => ?_⟩
  by_cases e : j = k
  · subst e
    rw [List.getElem?_set_self hl, hu]
  · rw [List.getElem?_set_ne (by omega), h2 j (by omega)]
theorem Fill.lt (h : Fill f B g n k w) : B ≤ g ∧ g < w.heap.size := by
  obtain ⟨xs, h1, _⟩ := h
  exact h1.lt g rfl
theorem Fill.done (h : Fill f B g n n w) (hf : ∀ j, j < n → 0 ≤ f j ∧ f j ≤ 255) :
    (convert 51 9 (.slice (some ⟨g, 0, none⟩) n n)).run Tryd.prog w = .ok (.string (strOfNums ((List.range n).map f))) w := by
  obtain ⟨xs, h1, h2⟩ := h
  refine back_of Tryd.underlying51 Tryd.underlying5 Tryd.underlying9 _ n n (by rw [nums_size]; simp) (fun j hj => ?_)
  rw [h1.cellAt j (by omega), h2 j hj, bt_nums]
  · simp [List.getD, hj]
  · intro m hm
    obtain ⟨i, hi, rfl⟩ := List.mem_map.1 hm
    exact hf i (List.mem_range.1 hi)
end

theorem range_getD (l : List Int) (f : Int → Int) : (List.range l.length).map (fun i => f (l.getD i 0)) = l.map f := by
  apply List.ext_getElem?
  intro i
  rw [List.getElem?_map, List.getElem?_map]
  by_cases h : i < l.length
  · rw [List.getElem?_range h, List.getElem?_eq_getElem h]
    simp [List.getD, h]
  · rw [List.getElem?_eq_none (by simpa using h), List.getElem?_eq_none (by omega)]
    rfl
theorem getD_pt {l : List Int} (h : ∀ p ∈ l, isPt p = true) {j : Nat} (hj : j < l.length) : 0 ≤ l.getD j 0 ∧ l.getD j 0 ≤ 1114111 := by
  have : l.getD j 0 = l[j] := by simp [List.getD, hj]
  have := isPt_iff.1 (h _ (List.getElem_mem hj))
  omega

def asc (p : Int) : Int := if 128 ≤ p then 63 else p
def many (l : List Int) : Nat := (l.filter fun p => decide (128 ≤ p)).length
theorem many_le (l : List Int) : many l ≤ l.length := List.length_filter_le ..
theorem many_more (l : List Int) (k : Nat) (h : k < l.length) : many (l.take (k + 1)) = many (l.take k) + if 128 ≤ l.getD k 0 then 1 else 0 := by
  have e : l.getD k 0 = l[k] := by simp [List.getD, h]
  unfold many
  rw [List.take_succ_eq_append_getElem h, List.filter_append, e]
  by_cases hc : 128 ≤ l[k] <;> simp [hc]

theorem u8Info' : (Tryd.prog.info? 5).map (fun i => (i.zero, i.size, i.bytes)) = some (some (.int .u8 0), 1, 1) := by kernel_rfl

set_option maxHeartbeats 4000000 in
theorem toASCII_ok (s : ByteArray) (w : World) (hF : Forms w) (hs : s.size ≤ 17179869184) (hv : first s 0 = -1) :
    Calls Tryd.prog 33 #[.string s] w fun e w' => e = .returned (.tuple #[.string (strOfNums ((points s 0).map asc)), .int .i64 (many (points s 0)), .int .i64 0]) ∧ Below w.heap.size w w' := by
  obtain ⟨i0, hi, hz0, hz1, hz2⟩ := info_parts u8Info'
  have hV := hide hv
  clear hv
  have hpl := points_len s 0
  have hpt := points_pts s 0
  go_enter Tryd.func33, Tryd.ntmps33
  go_wp2_with fail
  refine (points_any s _ hF (by omega)).mono ?_
  rintro e w1 ⟨hb1, ⟨_, v, rfl, hown⟩ | ⟨hv, _⟩⟩
  rotate_left
  · rw [hV.out] at hv; omega
  have I := IntsAt.own hown
  generalize hl : points s 0 = l at *
  have HL := hide hl
  clear hl
  have J := I
  obtain ⟨A, c, rfl, _⟩ := J
  clear hown
  go_wp2_with (at_make; refine wpList_make_full _ rfl _ _ 51 rfl w1.heap.size 5 i0 (.int .u8 0) 1 Tryd.underlying51 hi hz0 hz1 .i64 .i64 _ _ l.length rfl rfl rfl rfl ?m1 ?m2 ?m3 ?_)
  case m1 => rw [hz2]; omega
  case m2 => unfold maxLen; omega
  case m3 => exact Nat.le_refl _
  intro w2 hown2 hg2
  have hb2 : Below w1.heap.size w1 w2 := (Below.refl _ _).grown hg2 (Nat.le_refl _) (fun k hk => by cases hk)
  have hfill : Fill (fun j => asc (l.getD j 0)) w1.heap.size w1.heap.size l.length 0 w2 := Fill.start hown2
  clear hown2 hg2
  go_wp2_with fail
  go_loopw [3, 22] (fun r i wr => ∃ (k : Nat), k ≤ l.length ∧ i = .int .i64 k ∧ r = .int .i64 (many (l.take k)) ∧ Fill (fun j => asc (l.getD j 0)) w1.heap.size w1.heap.size l.length k wr ∧ Below w1.heap.size w1 wr)
    (fun _ i _ => l.length - (intOf i).toNat)
  case atStart => exact ⟨0, Nat.zero_le _, rfl, by simp [many], hfill, hb2⟩
  case round =>
    obtain ⟨k, hk, rfl, rfl, hfl, hb⟩ := hrel
    by_cases hlt : k < l.length
    · obtain ⟨g, off, c', hv, _, hcell⟩ := (I.below hb).at_ hlt
      injection hv with e1 e2 e3
      subst e1 e3
      clear e2
      obtain ⟨u0, hc0, hz0'⟩ := hfl.cur hlt
      have hgp := getD_pt hpt hlt
      have hmm := many_more l k hlt
      have hml := many_le (l.take k)
      have htk : (l.take k).length ≤ k := List.length_take_le _ _
      have hfs := @Fill.store (fun j => asc (l.getD j 0)) w1.heap.size w1.heap.size l.length k wr hfl hlt
      generalize hx : l.getD k 0 = x at hcell hgp hmm hfs
      obtain ⟨g0, g1⟩ := hgp
      by_cases h8 : 128 ≤ x
      · have hM := hide (show many (l.take (k + 1)) = many (l.take k) + 1 by rw [hmm, if_pos h8])
        have R := hfs (u := 63) (by unfold asc; rw [if_pos h8])
        clear hfs hmm hx hpt hfl hfill
        go_wp2_with fail
        go_roundw
        case rel => exact ⟨k + 1, by omega, by go_num, by rw [hM.out]; go_num, R, hb.setCell (Nat.le_refl _) _⟩
        case measure => simp [intOf]; omega
      · have hM := hide (show many (l.take (k + 1)) = many (l.take k) by rw [hmm, if_neg h8]; rfl)
        have R := hfs (u := x) (by unfold asc; rw [if_neg h8])
        clear hfs hmm hx hpt hfl hfill
        go_wp2_with fail
        go_roundw
        case rel => exact ⟨k + 1, by omega, by go_num, by rw [hM.out], R, hb.setCell (Nat.le_refl _) _⟩
        case measure => simp [intOf]; omega
    · obtain rfl : k = l.length := by omega
      have hconv := hfl.done (fun j hj => by
        have := getD_pt hpt hj
        simp only [asc]
        split <;> omega)
      rw [range_getD l asc] at hconv
      rw [List.take_length]
      clear hfl hfill hpt
      go_wp2_with fail
      go_ret3
      exact ⟨by rw [HL.out]; rfl, below_step hb1 hb⟩

set_option maxHeartbeats 1000000 in
theorem toASCII_no (s : ByteArray) (w : World) (hF : Forms w) (hs : s.size ≤ 17179869184) (hv : 0 ≤ first s 0) :
    Calls Tryd.prog 33 #[.string s] w fun e w' => e = .returned (.tuple #[.string ⟨#[]⟩, .int .i64 0, .int .i64 16]) ∧ Below w.heap.size w w' := by
  go_enter Tryd.func33, Tryd.ntmps33
  go_wp2_with fail
  refine (points_any s _ hF (by omega)).mono ?_
  rintro e w1 ⟨hb1, ⟨hv', _⟩ | ⟨_, rfl⟩⟩
  · omega
  go_wp2_with fail
  go_ret3
  exact ⟨rfl, hb1⟩

set_option maxHeartbeats 4000000 in
/-- ToLatin of a valid text: the bytes, or ErrByte where a code point is above 255 -/
theorem toLatin_valid (s : ByteArray) (w : World) (hF : Forms w) (hs : s.size ≤ 17179869184) (hv : first s 0 = -1) :
    Calls Tryd.prog 31 #[.string s] w fun e w' => Below w.heap.size w w' ∧ ((∀ p ∈ points s 0, p ≤ 255) ∧ e = .returned (.tuple #[.string (strOfNums (points s 0)), .int .i64 0]) ∨ (∃ p ∈ points s 0, 255 < p) ∧ e = .returned (.tuple #[.string ⟨#[]⟩, .int .i64 6])) := by
  obtain ⟨i0, hi, hz0, hz1, hz2⟩ := info_parts u8Info'
  have hV := hide hv
  clear hv
  have hpl := points_len s 0
  have hpt := points_pts s 0
  go_enter Tryd.func31, Tryd.ntmps31
  go_wp2_with fail
  refine (points_any s _ hF (by omega)).mono ?_
  rintro e w1 ⟨hb1, ⟨_, v, rfl, hown⟩ | ⟨hv, _⟩⟩
  rotate_left
  · rw [hV.out] at hv; omega
  have I := IntsAt.own hown
  generalize hl : points s 0 = l at *
  have HL := hide hl
  clear hl
  have J := I
  obtain ⟨A, c, rfl, _⟩ := J
  clear hown
  go_wp2_with (at_make; refine wpList_make_full _ rfl _ _ 51 rfl w1.heap.size 5 i0 (.int .u8 0) 1 Tryd.underlying51 hi hz0 hz1 .i64 .i64 _ _ l.length rfl rfl rfl rfl ?m1 ?m2 ?m3 ?_)
  case m1 => rw [hz2]; omega
  case m2 => unfold maxLen; omega
  case m3 => exact Nat.le_refl _
  intro w2 hown2 hg2
  have hb2 : Below w1.heap.size w1 w2 := (Below.refl _ _).grown hg2 (Nat.le_refl _) (fun k hk => by cases hk)
  have hfill : Fill (fun j => l.getD j 0) w1.heap.size w1.heap.size l.length 0 w2 := Fill.start hown2
  clear hown2 hg2
  go_wp2_with fail
  go_loopw [22] (fun i wr => ∃ (k : Nat), k ≤ l.length ∧ i = .int .i64 k ∧ Fill (fun j => l.getD j 0) w1.heap.size w1.heap.size l.length k wr ∧ Below w1.heap.size w1 wr ∧ Hid (∀ j, j < k → l.getD j 0 ≤ 255))
    (fun i _ => l.length - (intOf i).toNat)
  case atStart => exact ⟨0, Nat.zero_le _, rfl, hfill, hb2, fun j hj => by omega⟩
  case round =>
    obtain ⟨k, hk, rfl, hfl, hb, hle⟩ := hrel
    by_cases hlt : k < l.length
    · obtain ⟨g, off, c', hv, _, hcell⟩ := (I.below hb).at_ hlt
      injection hv with e1 e2 e3
      subst e1 e3
      clear e2
      obtain ⟨u0, hc0, hz0'⟩ := hfl.cur hlt
      have hgp := getD_pt hpt hlt
      have hmem : l.getD k 0 ∈ l := by
        have e : l.getD k 0 = l[k] := by simp [List.getD, hlt]
        rw [e]; exact List.getElem_mem hlt
      have hfs := @Fill.store (fun j => l.getD j 0) w1.heap.size w1.heap.size l.length k wr hfl hlt
      generalize hx : l.getD k 0 = x at hcell hgp hfs hmem
      have HX := hide hx
      have HM := hide hmem
      obtain ⟨g0, g1⟩ := hgp
      by_cases h8 : 256 ≤ x
      · clear hfs hx hpt hfl hfill hmem
        go_wp2_with fail
        go_ret2
        exact ⟨below_step hb1 hb, .inr ⟨⟨x, by rw [HL.out]; exact HM.out, by omega⟩, rfl⟩⟩
      · have R := hfs (u := x) rfl
        clear hfs hx hpt hfl hfill hmem
        go_wp2_with fail
        go_roundw
        case rel =>
          refine ⟨k + 1, by omega, by go_num, R, hb.setCell (Nat.le_refl _) _, fun j hj => ?_⟩
          by_cases e : j = k
          · rw [e, HX.out]; omega
          · exact hle.out j (by omega)
        case measure => simp [intOf]; omega
    · obtain rfl : k = l.length := by omega
      have hconv := hfl.done (fun j hj => ⟨(getD_pt hpt hj).1, hle.out j hj⟩)
      have e2 := range_getD l id
      simp only [id, List.map_id_fun] at e2
      rw [e2] at hconv
      clear hfl hfill hpt e2
      go_wp2_with fail
      go_ret2
      refine ⟨below_step hb1 hb, .inl ⟨fun p hp => ?_, by rw [HL.out]; rfl⟩⟩
      rw [HL.out] at hp
      obtain ⟨j, hj, rfl⟩ := List.getElem_of_mem hp
      have := hle.out j hj
      simpa [List.getD, hj] using this

set_option maxHeartbeats 1000000 in
theorem toLatin_no (s : ByteArray) (w : World) (hF : Forms w) (hs : s.size ≤ 17179869184) (hv : 0 ≤ first s 0) :
    Calls Tryd.prog 31 #[.string s] w fun e w' => e = .returned (.tuple #[.string ⟨#[]⟩, .int .i64 16]) ∧ Below w.heap.size w w' := by
  go_enter Tryd.func31, Tryd.ntmps31
  go_wp2_with fail
  refine (points_any s _ hF (by omega)).mono ?_
  rintro e w1 ⟨hb1, ⟨hv', _⟩ | ⟨_, rfl⟩⟩
  · omega
  go_wp2_with fail
  go_ret2
  exact ⟨rfl, hb1⟩

/-- the bytes of a text -/
def bytesOf (s : ByteArray) : List Int := (List.range s.size).map fun i => bt s i
theorem bytesOf_len (s : ByteArray) : (bytesOf s).length = s.size := by simp [bytesOf]
theorem bytesOf_getD (s : ByteArray) {k : Nat} (h : k < s.size) : (bytesOf s).getD k 0 = bt s k := by simp [bytesOf, List.getD, h]
theorem bytesOf_pt (s : ByteArray) : ∀ p ∈ bytesOf s, isPt p = true ∧ p ≤ 255 := by
  intro p hp
  obtain ⟨i, _, rfl⟩ := List.mem_map.1 hp
  have h0 := bt_nonneg s i
  have h1 := bt_le s i
  exact ⟨isPt_iff.2 (by omega), h1⟩
theorem bytesOf_nums {l : List Int} (h : ∀ n ∈ l, 0 ≤ n ∧ n ≤ 255) : bytesOf (strOfNums l) = l := by
  have := range_getD l id
  simp only [id, List.map_id_fun] at this
  unfold bytesOf
  rw [nums_size]
  conv => rhs; rw [← this]
  apply List.map_congr_left
  intro i _
  exact bt_nums h i

set_option maxHeartbeats 2000000 in
theorem fromLatin_any (s : ByteArray) (w : World) (hF : Forms w) (hs : s.size ≤ 17179869184) :
    Calls Tryd.prog 32 #[.string s] w fun e w' => e = .returned (.string (strOfNums (encs (bytesOf s)))) ∧ Below w.heap.size w w' := by
  have h0 : 0 < w.heap.size := by have := World.block_lt_of_cell? w _ (hF.at_ (i := 0) rfl); omega
  have hB := get_bt s
  have hl := bytesOf_len s
  go_enter Tryd.func32, Tryd.ntmps32
  go_wp2_with fail
  go_loopw [3, 7] (fun v i wr => ∃ (k : Nat), k ≤ s.size ∧ i = .int .i64 k ∧ wr.ownsRow w.heap.size 5 1 v (encs ((bytesOf s).take k)).length ((encs ((bytesOf s).take k)).map (Value.int .u8)) ∧ Below w.heap.size w wr)
    (fun _ i _ => s.size - (intOf i).toNat)
  case atStart => exact ⟨0, Nat.zero_le _, rfl, by simpa [encs] using World.ownsRow_nil w w.heap.size 5 1, Below.refl _ _⟩
  case round =>
    obtain ⟨k, hk, rfl, hown, hb⟩ := hrel
    have hFr := hF.below hb
    by_cases hlt : k < s.size
    · have b0 := bt_nonneg s k
      have b1 := bt_le s k
      have hlen := encs_len ((bytesOf s).take k)
      have htk : ((bytesOf s).take k).length ≤ k := List.length_take_le _ _
      have e1 := hide (encs_more (bytesOf s) k (by omega))
      clear hl
      go_wp2_with fail
      refine (encode_any _ (bt s k) w.heap.size _ _ wr hFr hown hb.size h0 (by omega) b0 (by omega)).mono ?_
      rintro e w1 ⟨v1, rfl, hown1, hb1⟩
      go_wp2_with fail
      go_roundw
      case rel =>
        refine ⟨k + 1, by omega, by go_num, ?_, hb.trans hb1⟩
        rw [e1.out, bytesOf_getD s hlt, List.length_append, List.map_append]
        exact hown1
      case measure => simp [intOf]; omega
    · obtain rfl : k = s.size := by omega
      rw [List.take_of_length_le (by omega)] at hown
      have hconv := own_string hown
      go_wp2_with fail
      go_ret
      exact ⟨rfl, hb⟩
end Go.Proofs.YtmmigpncoojobacDoor
