/- CharsetOrders, walked: it returns true and writes nothing that was there. Condition: the table of the forms holds what the program's text lays. -/
import Derived.Test.YtmmigpncoojobacDoorChL
import Derived.Test.YtmmigpncoojobacDoorFlat
namespace Go.Proofs.YtmmigpncoojobacDoor
open Go Go.RowKit Go.PlainAid
abbrev Laid (w : World) : Prop := Forms w
theorem len300 {t : ByteArray} (h : t.size ≤ 300) : t.size ≤ maxLen := by unfold maxLen; omega

/-- the order of rows of bytes, as numbers -/
def bl : List Int → List Int → Bool
  | _, [] => false
  | [], _ :: _ => true
  | a :: x, b :: y => decide (a < b) || (a == b && bl x y)
theorem bl_of : ∀ (x y : List Int), (∀ n ∈ x, 0 ≤ n ∧ n ≤ 255) → (∀ n ∈ y, 0 ≤ n ∧ n ≤ 255) → Op.bytesLess (x.map fun n => UInt8.ofNat n.toNat) (y.map fun n => UInt8.ofNat n.toNat) = bl x y
  | x, [], _, _ => by cases x <;> rfl
  | [], b :: y, _, _ => rfl
  | a :: x, b :: y, hx, hy => by
    have ha := hx a (by simp)
    have hb := hy b (by simp)
    have ih := bl_of x y (fun n hn => hx n (by simp [hn])) (fun n hn => hy n (by simp [hn]))
    simp only [List.map_cons, Op.bytesLess, bl, ih]
    have e1 : (UInt8.ofNat a.toNat < UInt8.ofNat b.toNat) ↔ a < b := by
      rw [UInt8.lt_iff_toNat_lt, UInt8.toNat_ofNat', UInt8.toNat_ofNat']; omega
    have e2 : (UInt8.ofNat a.toNat == UInt8.ofNat b.toNat) = (a == b) := by
      rw [Bool.eq_iff_iff, beq_iff_eq, beq_iff_eq, ← UInt8.toNat_inj, UInt8.toNat_ofNat', UInt8.toNat_ofNat']; omega
    rw [e2]
    simp only [e1]
theorem bl_append (p : List Int) (x y : List Int) : bl (p ++ x) (p ++ y) = bl x y := by
  induction p with
  | nil => rfl
  | cons a p ih => simp [bl, ih]
theorem bl_self (x : List Int) : bl x x = false := by
  have := bl_append x [] []
  simpa [bl] using this
theorem bl_nil_left {y : List Int} (h : 0 < y.length) : bl [] y = true := by
  cases y with
  | nil => simp at h
  | cons b y => rfl
theorem bl_nil_right (x : List Int) : bl x [] = false := by cases x <;> rfl
theorem bl_enc {p q : Int} (hp : isPt p = true) (hq : isPt q = true) (hne : p ≠ q) (x y : List Int) : bl (encL p ++ x) (encL q ++ y) = decide (p < q) := by
  have p1 := isPt_iff.1 hp
  have q1 := isPt_iff.1 hq
  unfold encL
  repeat' split
  all_goals
    simp only [List.cons_append, List.nil_append, bl]
    rw [Bool.eq_iff_iff]
    simp only [Bool.or_eq_true, Bool.and_eq_true, decide_eq_true_eq, beq_iff_eq]
    first | omega | (constructor <;> intro h <;> omega)

theorem text_list {s : ByteArray} (h : first s 0 = -1) : s.toList = (encs (points s 0)).map fun n => UInt8.ofNat n.toNat := by
  have := text_points h
  conv => lhs; rw [← this]
  rw [ByteArray.toList_eq, nums_list]
theorem less_text {s t : ByteArray} (hs : first s 0 = -1) (ht : first t 0 = -1) : Op.bytesLess s.toList t.toList = bl (encs (points s 0)) (encs (points t 0)) := by
  rw [text_list hs, text_list ht]
  exact bl_of _ _ (encs_bytes (points_pts s 0)) (encs_bytes (points_pts t 0))
theorem encs_split (l : List Int) {k : Nat} (h : k < l.length) : encs l = encs (l.take k) ++ (encL (l.getD k 0) ++ encs (l.drop (k + 1))) := by
  have e : l.getD k 0 = l[k] := by simp [List.getD, h]
  conv => lhs; rw [← List.take_append_drop k l]
  rw [encs_append, List.drop_eq_getElem_cons h, encs_cons, e]
theorem less_at {a b : List Int} (ha : ∀ p ∈ a, isPt p = true) (hb : ∀ p ∈ b, isPt p = true) {k : Nat} (h1 : k < a.length) (h2 : k < b.length) (he : a.take k = b.take k) (hne : a.getD k 0 ≠ b.getD k 0) :
    bl (encs a) (encs b) = decide (a.getD k 0 < b.getD k 0) := by
  have ea : a.getD k 0 = a[k] := by simp [List.getD, h1]
  have eb : b.getD k 0 = b[k] := by simp [List.getD, h2]
  rw [encs_split a h1, encs_split b h2, he, bl_append]
  exact bl_enc (by rw [ea]; exact ha _ (List.getElem_mem h1)) (by rw [eb]; exact hb _ (List.getElem_mem h2)) hne _ _
theorem encs_pos {l : List Int} (h : 0 < l.length) : 0 < (encs l).length := by
  cases l with
  | nil => simp at h
  | cons p l =>
    have := encL_pos p
    rw [encs_cons, List.length_append]; omega
theorem less_end {a b : List Int} {k : Nat} (h1 : k ≤ a.length) (h2 : k ≤ b.length) (he : a.take k = b.take k) (hk : k = a.length ∨ k = b.length) : bl (encs a) (encs b) = decide (a.length < b.length) := by
  have e1 : encs a = encs (a.take k) ++ encs (a.drop k) := by rw [← encs_append, List.take_append_drop]
  have e2 : encs b = encs (a.take k) ++ encs (b.drop k) := by rw [he, ← encs_append, List.take_append_drop]
  rw [e1, e2, bl_append]
  by_cases hb : k = b.length
  · have : encs (b.drop k) = [] := by rw [List.drop_of_length_le (by omega)]; rfl
    rw [this, bl_nil_right]
    simp; omega
  · have hka : k = a.length := by omega
    have : encs (a.drop k) = [] := by rw [List.drop_of_length_le (by omega)]; rfl
    rw [this, bl_nil_left (encs_pos (by rw [List.length_drop]; omega))]
    simp; omega

set_option maxHeartbeats 4000000 in
theorem charsetOrders_walk (s0 t0 : ByteArray) (w : World) (hF : Laid w) (hs : s0.size ≤ maxLen) (ht : t0.size ≤ maxLen) :
    Calls Tryd.prog 8 #[.string s0, .string t0] w fun e w' => e = .returned (.bool true) ∧ Below w.heap.size w w' := by
  go_enter Tryd.func8, Tryd.ntmps8
  go_wp2_with fail
  refine (cut_any _ _ hs).mono ?_
  rintro e w' ⟨s, rfl, hs', rfl⟩
  go_wp2_with fail
  refine (cut_any _ _ ht).mono ?_
  rintro e w' ⟨t, rfl, ht', rfl⟩
  go_wp2_with fail
  refine (points_any s _ hF (by omega)).mono ?_
  rintro e w1 ⟨hb1, hsp⟩
  have hF1 := hF.below hb1
  rcases hsp with ⟨hvs, v, rfl, hown⟩ | ⟨hvs, rfl⟩
  rotate_left
  · go_wp2_with fail
    refine (points_any t _ hF1 (by omega)).mono ?_
    rintro e w2 ⟨hb2, htp⟩
    have hb2 := below_step hb1 hb2
    have hF2 := hF.below hb2
    rcases htp with ⟨_, v2, rfl, _⟩ | ⟨_, rfl⟩
    all_goals
      go_wp2_with fail
      refine (known_any _ hF2).mono ?_
      rintro e w3 ⟨rfl, hb3⟩
      have hb3 := below_step hb2 hb3
      have hF3 := hF.below hb3
      go_wp2_with fail
      refine (known_any _ hF3).mono ?_
      rintro e w4 ⟨rfl, hb4⟩
      have hb4 := below_step hb3 hb4
      go_wp2_with fail
      go_ret
      exact ⟨rfl, hb4⟩
  have HVs := hide hvs
  clear hvs
  have I1 := IntsAt.own hown
  clear hown
  go_wp2_with fail
  refine (points_any t _ hF1 (by omega)).mono ?_
  rintro e w2 ⟨hb2, htp⟩
  have I2 := (I1.below hb2).more hb2.size
  have hb2 := below_step hb1 hb2
  have hF2 := hF.below hb2
  rcases htp with ⟨hvt, v2, rfl, hown2⟩ | ⟨_, rfl⟩
  rotate_left
  · go_wp2_with fail
    refine (known_any _ hF2).mono ?_
    rintro e w3 ⟨rfl, hb3⟩
    have hb3 := below_step hb2 hb3
    have hF3 := hF.below hb3
    go_wp2_with fail
    refine (known_any _ hF3).mono ?_
    rintro e w4 ⟨rfl, hb4⟩
    have hb4 := below_step hb3 hb4
    go_wp2_with fail
    go_ret
    exact ⟨rfl, hb4⟩
  have hless := hide (less_text HVs.out hvt)
  clear hvt HVs
  have K2 := IntsAt.own hown2
  clear hown2 hF1 hb1 I1
  go_wp2_with fail
  refine (known_any _ hF2).mono ?_
  rintro e w3 ⟨rfl, hb3⟩
  have I3 := (I2.below hb3).more hb3.size
  have K3 := (K2.below hb3).more hb3.size
  have hb3 := below_step hb2 hb3
  clear hb2 hF2 I2 K2
  have hpa := hide (points_pts s 0)
  have hpb := hide (points_pts t 0)
  have hla := points_len s 0
  have hlb := points_len t 0
  generalize points s 0 = a at *
  generalize points t 0 = b at *
  have J := I3
  obtain ⟨A, ca, rfl, _⟩ := J
  have J := K3
  obtain ⟨B, cb, rfl, _⟩ := J
  go_wp2_with fail
  go_loopw [9] (fun v wr => ∃ k n : Nat, k ≤ a.length ∧ k ≤ b.length ∧ v = .int .i64 k ∧ wr = w3.drewN n ∧ Hid (a.take k = b.take k)) (fun v _ => a.length - (intOf v).toNat)
  case atStart => exact ⟨0, 0, Nat.zero_le _, Nat.zero_le _, rfl, rfl, rfl⟩
  case round =>
    obtain ⟨k, n, hka, hkb, rfl, rfl, he⟩ := hrel
    by_cases h1 : k < a.length
    · by_cases h2 : k < b.length
      · obtain ⟨g, off, c', hv, _, hc⟩ := I3.at_ h1
        obtain ⟨g', off', c'', hv', _, hc'⟩ := K3.at_ h2
        injection hv with e1 e2 e3
        injection hv' with e1' e2' e3'
        subst e1 e3 e1' e3'
        clear e2 e2'
        have hat := hide (less_at hpa.out hpb.out h1 h2 he.out)
        have ea := hide (List.take_succ_eq_append_getElem h1)
        have eb := hide (List.take_succ_eq_append_getElem h2)
        have ga : Hid (a.getD k 0 = a[k]) := by simp [Hid, List.getD, h1]
        have gb : Hid (b.getD k 0 = b[k]) := by simp [Hid, List.getD, h2]
        generalize a.getD k 0 = x at hc hat ga
        generalize b.getD k 0 = y at hc' hat gb
        cases hxy : (x == y)
        · have hne : x ≠ y := by simpa using hxy
          have hb := hless.out.trans (hat.out hne)
          have hxy' : (x != y) = true := by simp [bne, hxy]
          clear hne
          go_wp2_with fail
          go_quiet (fail)
          go_wp2_with fail
          go_quiet (fail)
          go_wp2_with fail
          go_ret
          exact ⟨ret_bool (by simp), below_drewN (below_drewN (below_drewN hb3 _) _) _⟩
        · have hxe : x = y := by simpa using hxy
          have hxy' : (x != y) = false := by simp [bne, hxy]
          have HX := hide hxe
          clear hxe
          go_wp2_with fail
          go_quiet (fail)
          go_wp2_with fail
          go_roundw
          case rel => exact ⟨k + 1, _, by omega, by omega, by go_num, rfl, by unfold Hid; rw [ea.out, eb.out, he.out, ← ga.out, ← gb.out, HX.out]⟩
          case measure => simp [intOf]; omega
      · have hb := hless.out.trans (less_end hka hkb he.out (.inr (by omega)))
        go_wp2_with fail
        go_ret
        exact ⟨ret_bool (by simp), below_drewN hb3 _⟩
    · have hb := hless.out.trans (less_end hka hkb he.out (.inl (by omega)))
      go_wp2_with fail
      go_ret
      exact ⟨ret_bool (by simp), below_drewN hb3 _⟩
end Go.Proofs.YtmmigpncoojobacDoor
