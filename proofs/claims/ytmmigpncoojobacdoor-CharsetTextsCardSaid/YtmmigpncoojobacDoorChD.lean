/- The example of the chapter (known), and what charset.Lower and Upper return. Condition: the table of the forms holds what the program's text lays. -/
import Derived.Test.YtmmigpncoojobacDoorChC
import Derived.Laws.IdiomStrings
namespace Go.Proofs.YtmmigpncoojobacDoor
open Go Go.RowKit Go.PlainAid

def s0 : ByteArray := ⟨#[97, 195, 169, 226, 130, 172]⟩
theorem s0_points : first s0 0 = -1 ∧ points s0 0 = [97, 233, 8364] := by
  have z0 : siz s0 0 = 1 ∧ cp s0 0 = 97 := by decide +kernel
  have z1 : siz s0 1 = 2 ∧ cp s0 1 = 233 := by decide +kernel
  have z3 : siz s0 3 = 3 ∧ cp s0 3 = 8364 := by decide +kernel
  have h6 : s0.size = 6 := rfl
  have a0 : siz s0 0 ≠ 0 := by rw [z0.1]; decide
  have a1 : siz s0 1 ≠ 0 := by rw [z1.1]; decide
  have a3 : siz s0 3 ≠ 0 := by rw [z3.1]; decide
  have b0 := first_more (s := s0) (k := 0) (by decide) a0
  have b1 := first_more (s := s0) (k := 1) (by decide) a1
  have b3 := first_more (s := s0) (k := 3) (by decide) a3
  have c0 := points_more (s := s0) (k := 0) (by decide) a0
  have c1 := points_more (s := s0) (k := 1) (by decide) a1
  have c3 := points_more (s := s0) (k := 3) (by decide) a3
  rw [z0.1] at b0 c0
  rw [z1.1] at b1 c1
  rw [z3.1] at b3 c3
  refine ⟨?_, ?_⟩
  · rw [b0, b1, b3, first_end (Nat.le_of_eq h6)]
  · rw [c0, c1, c3, points_end (Nat.le_of_eq h6), z0.2, z1.2, z3.2]

theorem known_points (w : World) (hF : Forms w) : Calls Tryd.prog 24 #[.string ⟨#[97, 195, 169, 226, 130, 172]⟩] w fun e w' => Below w.heap.size w w' ∧ ∃ g cap, e = .returned (.tuple #[.slice (some ⟨g, 0, none⟩) 3 cap, .int .i64 0]) ∧
    w'.cell? ⟨g, 0, none⟩ = some (.int .i64 97) ∧ w'.cell? ⟨g, 1, none⟩ = some (.int .i64 233) ∧ w'.cell? ⟨g, 2, none⟩ = some (.int .i64 8364) := by
  refine (points_any s0 w hF (by decide)).mono fun e w' h => ?_
  obtain ⟨hb, h⟩ := h
  rw [s0_points.1, s0_points.2] at h
  rcases h with ⟨_, v, rfl, hown⟩ | ⟨h, _⟩
  · refine ⟨hb, ?_⟩
    rcases hown.2 with ⟨_, h0⟩ | ⟨g, cap, cur, rfl, _⟩
    · cases h0
    · exact ⟨g, cap, rfl, hown.cellAt 0 (by decide), hown.cellAt 1 (by decide), hown.cellAt 2 (by decide)⟩
  · omega

set_option maxHeartbeats 1000000 in
theorem known_any (w : World) (hF : Forms w) : Calls Tryd.prog 15 #[] w fun e w' => e = .returned (.bool true) ∧ Below w.heap.size w w' := by
  go_enter Tryd.func15, Tryd.ntmps15
  go_wp2_with (go_at_call 24; refine (known_points _ hF).mono ?_; rintro e w' ⟨hb, g, cap, rfl, c0, c1, c2⟩)
  go_ret
  exact ⟨rfl, hb⟩

/-- shift on one byte -/
def sh (f l t b : Int) : Int := if f ≤ b ∧ b ≤ l then b - f + t else b
def shS (f l t : Int) (s : ByteArray) : ByteArray := ⟨(s.data.toList.map fun b => UInt8.ofNat (sh f l t b.toNat).toNat).toArray⟩
theorem shS_list (f l t : Int) (s : ByteArray) : (shS f l t s).data.toList = s.data.toList.map fun b => UInt8.ofNat (sh f l t b.toNat).toNat := rfl
theorem size_list (s : ByteArray) : s.data.toList.length = s.size := Array.length_toList
theorem shS_size (f l t : Int) (s : ByteArray) : (shS f l t s).size = s.size := by
  rw [← size_list, shS_list, List.length_map, size_list]
theorem bt_list (s : ByteArray) (j : Nat) : bt s j = (((s.data.toList[j]?).getD 0).toNat : Int) := by
  unfold bt
  split
  · rename_i h
    rw [List.getElem?_eq_getElem (by rw [size_list]; exact h)]
    rfl
  · rename_i h
    rw [List.getElem?_eq_none (by rw [size_list]; omega)]
    rfl
theorem shS_bt {f l t : Int} (h1 : 0 ≤ t) (h2 : l - f + t ≤ 255) (s : ByteArray) (j : Nat) (hj : j < s.size) : bt (shS f l t s) j = sh f l t (bt s j) := by
  have hl : j < s.data.toList.length := by rw [size_list]; exact hj
  rw [bt_list, bt_list, shS_list, List.getElem?_map, List.getElem?_eq_getElem hl]
  have hb := (s.data.toList[j]).toNat_lt
  simp only [Option.map_some, Option.getD_some, UInt8.toNat_ofNat']
  unfold sh
  split <;> omega

def ShRow (f l t : Int) (s : ByteArray) (g k : Nat) (w : World) : Prop :=
  ∀ j, j < s.size → w.cell? ⟨g, j, none⟩ = some (.int .u8 (if j < k then sh f l t (bt s j) else bt s j)) ∧ w.frozen? ⟨g, j, none⟩ = false

section
variable {f l t : Int} {s : ByteArray} {g k : Nat} {w : World}
theorem bytesRow_at (s : ByteArray) (cap : Nat) (j : Nat) (hj : j < s.size) : (bytesRow s cap)[j]? = some (.int .u8 (bt s j)) := by
  unfold bytesRow
  have hj' : j < s.data.size := hj
  rw [Array.getElem?_append_left (by simpa using hj'), Array.getElem?_map, Array.getElem?_eq_getElem hj']
  unfold bt
  rw [dif_pos hj]
  rfl
theorem bytesRow_size (s : ByteArray) (cap : Nat) : s.size ≤ (bytesRow s cap).size := by
  unfold bytesRow
  rw [Array.size_append, Array.size_map]
  show s.data.size ≤ _
  omega
theorem ShRow.start (w : World) (e cap : Nat) : ShRow f l t s w.heap.size 0 (w.alloc (.cells (bytesRow s cap) e ((bytesRow s cap).size, (bytesRow s cap).size + 1))) := by
  intro j hj
  have hn := heap_alloc_new w (.cells (bytesRow s cap) e ((bytesRow s cap).size, (bytesRow s cap).size + 1))
  refine ⟨?_, ?_⟩
  · rw [cell_of_row _ _ _ _ _ _ hn, bytesRow_at s cap j hj, if_neg (by omega)]
  · have := bytesRow_size s cap
    simp only [World.frozen?, hn]
    simp
    omega
theorem ShRow.drew (h : ShRow f l t s g k w) : ShRow f l t s g k w.drew := h
theorem ShRow.cur (h : ShRow f l t s g k w) (hk : k < s.size) : w.cell? ⟨g, k, none⟩ = some (.int .u8 (bt s k)) ∧ w.frozen? ⟨g, k, none⟩ = false := by
  have := h k hk
  rw [if_neg (by omega)] at this
  exact this
theorem ShRow.keep (h : ShRow f l t s g k w) (hk : ¬ (f ≤ bt s k ∧ bt s k ≤ l)) : ShRow f l t s g (k + 1) w := by
  intro j hj
  refine ⟨?_, (h j hj).2⟩
  rw [(h j hj).1]
  by_cases e : j = k
  · subst e
    rw [if_neg (by omega), if_pos (by omega), show sh f l t (bt s j) = bt s j from if_neg hk]
  · by_cases e2 : j < k
    · rw [if_pos e2, if_pos (by omega)]
    · rw [if_neg e2, if_neg (by omega)]
theorem ShRow.store (h : ShRow f l t s g k w) (hlt : k < s.size) (hk : f ≤ bt s k ∧ bt s k ≤ l) : ShRow f l t s g (k + 1) (w.setCell ⟨g, k, none⟩ (.int .u8 (bt s k - f + t))) := by
  intro j hj
  refine ⟨?_, by rw [World.frozen?_setCell]; exact (h j hj).2⟩
  by_cases e : j = k
  · subst e
    rw [World.cell?_setCell_same _ _ _ (h j hj).1, if_pos (by omega), show sh f l t (bt s j) = bt s j - f + t from if_pos hk]
  · rw [World.cell?_setCell_other _ _ _ _ (by intro e'; injection e' with _ e3 _; omega), (h j hj).1]
    by_cases e2 : j < k
    · rw [if_pos e2, if_pos (by omega)]
    · rw [if_neg e2, if_neg (by omega)]
theorem back_of {src dst e : TypeId} (hs : Tryd.prog.underlying src = some (.slice e)) (he : Tryd.prog.underlying e = some (.int .u8)) (hd : Tryd.prog.underlying dst = some .string) (r : ByteArray) (n cap : Nat) (hn : r.size = n)
    (hc : ∀ j, j < n → w.cell? ⟨g, j, none⟩ = some (.int .u8 (bt r j))) : (convert src dst (.slice (some ⟨g, 0, none⟩) n cap)).run Tryd.prog w = .ok (.string r) w := by
  have := run_convert_bytes_back (P := Tryd.prog) w src dst e ⟨g, 0, none⟩ cap r.data.toList hs he hd (fun j hj => by
    have hj' : j < r.size := by simpa using hj
    have ha : (⟨g, 0, none⟩ : Addr).add j = ⟨g, j, none⟩ := by unfold Addr.add; split <;> simp_all
    rw [ha, hc j (by omega)]
    unfold bt
    rw [dif_pos hj']
    rfl)
  have hl : r.data.toList.length = n := by simpa using hn
  rw [hl] at this
  exact this
end

set_option maxHeartbeats 2000000 in
theorem shift_any (s : ByteArray) (f l t : Int) (w : World) (hs : s.size ≤ maxLen) (h1 : 0 ≤ t) (h2 : l - f + t ≤ 255) :
    Calls Tryd.prog 41 #[.string s, .int .u8 f, .int .u8 l, .int .u8 t] w fun e w' => e = .returned (.string (shS f l t s)) ∧ Below w.heap.size w w' := by
  unfold maxLen at hs
  have hconv := fun (w : World) => run_bytes_of_string (P := Tryd.prog) w 9 51 5 s Tryd.underlying9 Tryd.underlying51 Tryd.underlying5
  go_enter Tryd.func41, Tryd.ntmps41
  go_wp2_with fail
  clear hconv
  go_loopw [16] (fun i wr => ∃ k : Nat, k ≤ s.size ∧ i = .int .i64 k ∧ ShRow f l t s w.heap.size k wr ∧ Below w.heap.size w wr) (fun i _ => s.size - (intOf i).toNat)
  case atStart => exact ⟨0, Nat.zero_le _, rfl, (ShRow.start w _ _).drew, ((Below.refl _ _).alloc (Nat.le_refl _) _).drew⟩
  case round =>
    obtain ⟨k, hk, rfl, hrow, hb⟩ := hrel
    by_cases hlt : k < s.size
    · obtain ⟨hc, hz⟩ := hrow.cur hlt
      have hbb := bt_nonneg s k
      have hbl := bt_le s k
      by_cases hr1 : f ≤ bt s k
      · by_cases hr2 : bt s k ≤ l
        · have R := hrow.store hlt ⟨hr1, hr2⟩
          go_wp2_with fail
          go_roundw
          case rel => exact ⟨k + 1, by omega, by go_num, R, hb.setCell (Nat.le_refl _) _⟩
          case measure => simp [intOf]; omega
        · have R := hrow.keep (fun h => hr2 h.2)
          go_wp2_with fail
          go_roundw
          case rel => exact ⟨k + 1, by omega, by go_num, R, hb⟩
          case measure => simp [intOf]; omega
      · have R := hrow.keep (fun h => hr1 h.1)
        go_wp2_with fail
        go_roundw
        case rel => exact ⟨k + 1, by omega, by go_num, R, hb⟩
        case measure => simp [intOf]; omega
    · have hback := back_of (w := wr) Tryd.underlying51 Tryd.underlying5 Tryd.underlying9 (shS f l t s) s.size (grownCap w s.size 0 5) (shS_size f l t s) (fun j hj => by
        rw [(hrow j hj).1, if_pos (by omega), shS_bt h1 h2 s j hj])
      go_wp2_with fail
      go_ret
      exact ⟨rfl, hb⟩

set_option maxHeartbeats 400000 in
theorem lower_any (s : ByteArray) (w : World) (hs : s.size ≤ maxLen) :
    Calls Tryd.prog 29 #[.string s] w fun e w' => e = .returned (.string (shS 65 90 97 s)) ∧ Below w.heap.size w w' := by
  go_enter Tryd.func29, Tryd.ntmps29
  go_wp2_with (go_at_call 41; refine (shift_any s 65 90 97 _ hs (by decide) (by decide)).mono ?_; rintro e w' ⟨rfl, hb⟩)
  go_ret
  exact ⟨rfl, hb⟩

set_option maxHeartbeats 400000 in
theorem upper_any (s : ByteArray) (w : World) (hs : s.size ≤ maxLen) :
    Calls Tryd.prog 30 #[.string s] w fun e w' => e = .returned (.string (shS 97 122 65 s)) ∧ Below w.heap.size w w' := by
  go_enter Tryd.func30, Tryd.ntmps30
  go_wp2_with (go_at_call 41; refine (shift_any s 97 122 65 _ hs (by decide) (by decide)).mono ?_; rintro e w' ⟨rfl, hb⟩)
  go_ret
  exact ⟨rfl, hb⟩
end Go.Proofs.YtmmigpncoojobacDoor
