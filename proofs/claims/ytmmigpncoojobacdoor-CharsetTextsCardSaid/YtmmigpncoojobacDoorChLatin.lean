/- CharsetLatin, walked: it returns true and writes nothing that was there. Condition: the table of the forms holds what the program's text lays. -/
import Derived.Test.YtmmigpncoojobacDoorChO
import Derived.Test.YtmmigpncoojobacDoorChM
namespace Go.Proofs.YtmmigpncoojobacDoor
open Go Go.RowKit Go.PlainAid

/-- what ToLatin gives: a text and an error number -/
def LatinSpec (s a : ByteArray) (ec : Int) : Prop :=
  (first s 0 = -1 ∧ (∀ p ∈ points s 0, p ≤ 255) ∧ a = strOfNums (points s 0) ∧ ec = 0) ∨ (first s 0 = -1 ∧ (∃ p ∈ points s 0, 255 < p) ∧ a = ⟨#[]⟩ ∧ ec = 6) ∨ (0 ≤ first s 0 ∧ a = ⟨#[]⟩ ∧ ec = 16)
theorem toLatin_any (s : ByteArray) (w : World) (hF : Forms w) (hs : s.size ≤ 17179869184) :
    Calls Tryd.prog 31 #[.string s] w fun e w' => ∃ a ec, e = .returned (.tuple #[.string a, .int .i64 ec]) ∧ LatinSpec s a ec ∧ Below w.heap.size w w' := by
  rcases first_cases s 0 with h | h
  · refine (toLatin_valid s w hF hs h).mono ?_
    rintro e w' ⟨hb, ⟨h1, rfl⟩ | ⟨h1, rfl⟩⟩
    · exact ⟨_, _, rfl, .inl ⟨h, h1, rfl, rfl⟩, hb⟩
    · exact ⟨_, _, rfl, .inr (.inl ⟨h, h1, rfl, rfl⟩), hb⟩
  · have h' : 0 ≤ first s 0 := by omega
    refine (toLatin_no s w hF hs h').mono ?_
    rintro e w' ⟨rfl, hb⟩
    exact ⟨_, _, rfl, .inr (.inr ⟨h', rfl, rfl⟩), hb⟩

theorem nums_append (x y : List Int) : strOfNums x ++ strOfNums y = strOfNums (x ++ y) := by
  apply ByteArray.ext
  apply Array.toList_inj.1
  rw [ByteArray.data_append, Array.toList_append, nums_list, nums_list, nums_list, List.map_append]

theorem encs_small {l : List Int} : (strOfNums (encs l)).size ≤ 4 * l.length := by
  rw [nums_size]; exact encs_len l

theorem round_trip (t : ByteArray) : first (strOfNums (encs (bytesOf t))) 0 = -1 ∧ points (strOfNums (encs (bytesOf t))) 0 = bytesOf t := by
  have := points_encs (l := bytesOf t) (fun p hp => (bytesOf_pt t p hp).1)
  exact ⟨this.2, this.1⟩

theorem toLatin_back (t : ByteArray) (w : World) (hF : Forms w) (hs : t.size ≤ 300) :
    Calls Tryd.prog 31 #[.string (strOfNums (encs (bytesOf t)))] w fun e w' => e = .returned (.tuple #[.string t, .int .i64 0]) ∧ Below w.heap.size w w' := by
  have hr := round_trip t
  have hz := encs_small (l := bytesOf t)
  have hl := bytesOf_len t
  refine (toLatin_any _ w hF (by omega)).mono ?_
  rintro e w' ⟨a, ec, rfl, h, hb⟩
  rcases h with ⟨_, _, rfl, rfl⟩ | ⟨_, ⟨p, hp, hp'⟩, _⟩ | ⟨h, _⟩
  · rw [hr.2]
    exact ⟨by rw [show strOfNums (bytesOf t) = t from nums_self t], hb⟩
  · rw [hr.2] at hp
    have := (bytesOf_pt t p hp).2
    omega
  · rw [hr.1] at h; omega

set_option maxHeartbeats 8000000 in
theorem charsetLatin_walk (s : ByteArray) (w : World) (hF : Laid w) (hs : s.size ≤ maxLen) :
    Calls Tryd.prog 10 #[.string s] w fun e w' => e = .returned (.bool true) ∧ Below w.heap.size w w' := by
  go_enter Tryd.func10, Tryd.ntmps10
  go_wp2_with fail
  refine (cut_any _ _ hs).mono ?_
  rintro e w' ⟨t, rfl, ht, rfl⟩
  have hm := hide (len300 ht)
  go_wp2_with fail
  refine (toLatin_any t _ hF (by omega)).mono ?_
  rintro e w1 ⟨a, ec, rfl, hspec, hb1⟩
  go_wp2_with fail
  refine (fromLatin_any t _ (hF.below hb1) (by omega)).mono ?_
  rintro e w2 ⟨rfl, hb2⟩
  have hb2 := below_step hb1 hb2
  clear hb1
  go_wp2_with fail
  refine (toLatin_back t _ (hF.below hb2) ht).mono ?_
  rintro e w3 ⟨rfl, hb3⟩
  have hb3 := below_step hb2 hb3
  clear hb2
  go_wp2_with fail
  refine (known_any _ (hF.below hb3)).mono ?_
  rintro e w4 ⟨rfl, hb4⟩
  have hb4 := below_step hb3 hb4
  clear hb3
  have hB := get_bt t
  have hbl := bytesOf_len t
  generalize hbs : bytesOf t = bs at *
  have HBS := hide hbs
  clear hbs
  go_wp2_with fail
  go_loopw [8, 9] (fun x i wr => ∃ (k : Nat), k ≤ t.size ∧ i = .int .i64 k ∧ x = .string (strOfNums (encs (bs.take k))) ∧ Below w.heap.size w wr) (fun _ i _ => t.size - (intOf i).toNat)
  case atStart => exact ⟨0, Nat.zero_le _, rfl, rfl, hb4⟩
  case round =>
    obtain ⟨k, hk, rfl, rfl, hb⟩ := hrel
    by_cases hlt : k < t.size
    · have b0 := bt_nonneg t k
      have b1 := bt_le t k
      have e1 := hide (encs_more bs k (by omega))
      have hz1 : (strOfNums (encs (bs.take k))).size ≤ 2000 := by
        have := encs_small (l := bs.take k)
        have := List.length_take_le k bs
        omega
      have hz2 : (encS (bt t k)).size ≤ 4 := by
        have := nums_size (encL (bt t k))
        have := encL_len (bt t k)
        unfold encS
        omega
      go_wp2_with fail
      refine (refEncode_any (bt t k) _ b0 (by omega)).mono ?_
      rintro e w5 ⟨rfl, hb5⟩
      have hb5 := below_step hb hb5
      clear hb
      go_wp2_with fail
      go_roundw
      case rel =>
        refine ⟨k + 1, by omega, by go_num, ?_, hb5⟩
        rw [e1.out, ← HBS.out, bytesOf_getD t hlt, ← nums_append]
        rfl
      case measure => simp [intOf]; omega
    · obtain rfl : k = t.size := by omega
      have et : bs.take t.size = bs := List.take_of_length_le (by omega)
      rw [et]
      clear et
      go_wp2_with fail
      refine (refFirst_any t _ hm.out).mono ?_
      rintro e w5 ⟨rfl, hb5⟩
      have hb5 := below_step hb hb5
      clear hb
      have hpt := hide (points_pts t 0)
      have hpl := points_len t 0
      rcases hspec with ⟨hv, hall, rfl, rfl⟩ | ⟨hv, hex, rfl, rfl⟩ | ⟨hv, rfl, rfl⟩
      · have hf : (0 ≤ first t 0) = False := by rw [hv]; simp
        have hV := hide hv
        have hA := hide hall
        clear hv hall
        go_wp2_with fail
        refine (refPoints_any t _ (by omega)).mono ?_
        rintro e w6 ⟨hb6, v, rfl, hown⟩
        have hb6 := below_step hb5 hb6
        have I := IntsAt.own hown
        clear hb5 hown
        have htp := hide (text_points hV.out)
        generalize hl : points t 0 = l at *
        have HL := hide hl
        clear hl
        have J := I
        obtain ⟨A, c, rfl, _⟩ := J
        go_wp2_with fail
        go_loop [11] (fun i => ∃ k : Nat, k ≤ l.length ∧ i = .int .i64 k) (fun i => l.length - (intOf i).toNat)
        case atStart => exact ⟨0, Nat.zero_le _, rfl⟩
        case round =>
          obtain ⟨k, hk, rfl⟩ := hrel
          by_cases hlt : k < l.length
          · obtain ⟨g, off, c', hv, _, hcell⟩ := I.at_ hlt
            injection hv with e1 e2 e3
            subst e1 e3
            clear e2
            have hmem : l.getD k 0 ∈ l := by
              have e : l.getD k 0 = l[k] := by simp [List.getD, hlt]
              rw [e]; exact List.getElem_mem hlt
            have hle := hA.out _ hmem
            clear hmem
            generalize l.getD k 0 = x at hcell hle
            go_wp2_with fail
            go_round
            case rel => exact ⟨k + 1, by omega, by go_num⟩
            case measure => simp [intOf]; omega
          · have za : (strOfNums l).size = l.length := nums_size l
            have hga := get_bt (strOfNums l)
            go_wp2_with fail
            go_loopw [12] (fun i wr => ∃ k n : Nat, k ≤ l.length ∧ i = .int .i64 k ∧ wr = w6.drewN n) (fun i _ => l.length - (intOf i).toNat)
            case atStart => exact ⟨0, 0, Nat.zero_le _, rfl, rfl⟩
            case round =>
              obtain ⟨k, n, hk, rfl, rfl⟩ := hrel
              by_cases hlt : k < l.length
              · obtain ⟨g, off, c', hv, _, hcell⟩ := I.at_ hlt
                injection hv with e1 e2 e3
                subst e1 e3
                clear e2
                have hbt : bt (strOfNums l) k = l.getD k 0 := bt_nums (fun n hn => ⟨(isPt_iff.1 (hpt.out n hn)).1, hA.out n hn⟩) k
                have hmem : l.getD k 0 ∈ l := by
                  have e : l.getD k 0 = l[k] := by simp [List.getD, hlt]
                  rw [e]; exact List.getElem_mem hlt
                have hle := hA.out _ hmem
                have hge := (isPt_iff.1 (hpt.out _ hmem)).1
                clear hmem
                generalize l.getD k 0 = x at hcell hle hbt hge
                have hw : IntKind.i64.wrap x = x := IntWalk.i64_in _ (by omega)
                go_wp2_with fail
                go_quiet (fail)
                go_wp2_with fail
                go_roundw
                case rel => exact ⟨k + 1, _, by omega, by go_num, rfl⟩
                case measure => simp [intOf]; omega
              · have hbn : bytesOf (strOfNums l) = l := bytesOf_nums (fun n hn => ⟨(isPt_iff.1 (hpt.out n hn)).1, hA.out n hn⟩)
                have hfl := fromLatin_any (strOfNums l) (w6.drewN n) ((hF.below hb6).drewN n) (by omega)
                rw [hbn, htp.out] at hfl
                clear hbn
                have HF := hide hfl
                clear hfl
                go_wp2_with fail
                refine HF.out.mono ?_
                rintro e w7 ⟨rfl, hb7⟩
                have hb8 := below_step (below_drewN hb6 n) hb7
                clear HF hb6 hb7
                go_wp2_with fail
                go_ret
                exact ⟨ret_bool (by simp), hb8⟩
      · have hf : (0 ≤ first t 0) = False := by rw [hv]; simp
        have hE := hide hex
        clear hv hex
        go_wp2_with fail
        refine (refPoints_any t _ (by omega)).mono ?_
        rintro e w6 ⟨hb6, v, rfl, hown⟩
        have hb6 := below_step hb5 hb6
        have I := IntsAt.own hown
        clear hb5 hown
        generalize hl : points t 0 = l at *
        have HL := hide hl
        clear hl
        have J := I
        obtain ⟨A, c, rfl, _⟩ := J
        go_wp2_with fail
        go_loop [11] (fun i => ∃ k : Nat, k ≤ l.length ∧ i = .int .i64 k ∧ Hid (∀ j, j < k → l.getD j 0 ≤ 255)) (fun i => l.length - (intOf i).toNat)
        case atStart => exact ⟨0, Nat.zero_le _, rfl, fun j hj => by omega⟩
        case round =>
          obtain ⟨k, hk, rfl, hle⟩ := hrel
          by_cases hlt : k < l.length
          · obtain ⟨g, off, c', hv, _, hcell⟩ := I.at_ hlt
            injection hv with e1 e2 e3
            subst e1 e3
            clear e2
            generalize hx : l.getD k 0 = x at hcell
            have HX := hide hx
            clear hx
            by_cases h8 : 255 < x
            · go_wp2_with fail
              go_ret
              exact ⟨rfl, hb6⟩
            · go_wp2_with fail
              go_round
              case rel =>
                refine ⟨k + 1, by omega, by go_num, fun j hj => ?_⟩
                by_cases e : j = k
                · rw [e, HX.out]; omega
                · exact hle.out j (by omega)
              case measure => simp [intOf]; omega
          · exfalso
            obtain ⟨p, hp, hp'⟩ := hE.out
            obtain ⟨j, hj, rfl⟩ := List.getElem_of_mem hp
            have := hle.out j (by omega)
            simp [List.getD, hj] at this
            omega
      · have hf : (0 ≤ first t 0) = True := by simp [hv]
        clear hv
        go_wp2_with fail
        go_ret
        exact ⟨rfl, hb5⟩
end Go.Proofs.YtmmigpncoojobacDoor
