/- What Join returns. Conditions: at most 20 fields of at most 50 bytes. -/
import Derived.Test.YtdkkblkbonjjgabGreatDoorTjNum
namespace Go.Proofs.YtdkkblkbonjjgabGreatDoor.Tj
open Go Go.RowKit Go.PlainAid TagN
/-- the first error of numbers behind another -/
def chk (b : Int) : List E → Int
  | [] => 0
  | e :: r => if cn e.1 b ≠ 0 then cn e.1 b else chk e.1 r
theorem chk_drop {l : List E} {k : Nat} (h : k < l.length) (b : Int) : chk b (l.drop k) = if cn (at_ l k).1 b ≠ 0 then cn (at_ l k).1 b else chk (at_ l k).1 (l.drop (k + 1)) := by
  rw [List.drop_eq_getElem_cons h]
  have e : at_ l k = l[k] := by simp [at_, List.getD, h]
  rw [e]
  rfl
theorem chk_end (b : Int) (l : List E) : chk b (l.drop l.length) = 0 := by rw [List.drop_length]; rfl
theorem cn_ok {n b : Int} (h : cn n b = 0) : 1 ≤ n ∧ n ≤ 9999 ∧ b < n := by
  unfold cn at h
  split at h
  · cases h
  · split at h
    · cases h
    · omega
/-- the bytes of fields -/
def bodyL (l : List E) : List Int := l.flatMap fun e => partL e.1.toNat e.2
theorem bodyL_succ {l : List E} {k : Nat} (h : k < l.length) : bodyL (l.take (k + 1)) = bodyL (l.take k) ++ partL (at_ l k).1.toNat (at_ l k).2 := by
  have e : at_ l k = l[k] := by simp [at_, List.getD, h]
  unfold bodyL
  rw [List.take_succ_eq_append_getElem h, List.flatMap_append, e]
  simp
def joinL (l : List E) : List Int := putL l.length ++ bodyL l
theorem partL_len {n : Nat} {s : ByteArray} (hn : n ≤ 9999) (hs : s.size ≤ 50) : (partL n s).length ≤ 70 := by
  have h1 := putL_len 8 n (by have : (128 : Nat) ^ (8 + 1) = 9223372036854775808 := by decide
                              omega)
  have h2 := putL_len 8 s.size (by have : (128 : Nat) ^ (8 + 1) = 9223372036854775808 := by decide
                                   omega)
  simp only [partL, numB, List.length_append, bytesL_len]
  omega
def JPost (l : List E) (w : World) (e : Ending) (w' : World) : Prop := ∃ t c, e = .returned (.tuple #[.string t, .int .i64 c]) ∧ c = chk 0 l ∧ (c ≠ 0 → t = ⟨#[]⟩) ∧ (c = 0 → t = strOfNums (joinL l)) ∧ Below w.heap.size w w'
def Nums (l : List E) : Prop := ∀ j, j < l.length → 1 ≤ (at_ l j).1 ∧ (at_ l j).1 ≤ 9999
set_option maxRecDepth 100000 in
set_option maxHeartbeats 8000000 in
theorem join_any (A : Option Addr) (l : List E) (ca : Nat) (w : World) (hr : Row w A l) (hl : l.length ≤ 20) (hs : ∀ j, j < l.length → (at_ l j).2.size ≤ 50) :
    Calls Tryz.prog 6 #[.slice A l.length ca] w (JPost l w) := by
  have HR := hide hr
  have HS := hide hs
  clear hr hs
  go_enter Tryz.func6, Tryz.ntmps6
  go_wp2_with fail
  go_loopw [4, 13] (fun b x wr => ∃ (k : Nat) (bb : Int), k ≤ l.length ∧ x = .int .i64 k ∧ b = .int .i64 bb ∧ Hid (chk 0 l = chk bb (l.drop k)) ∧ Hid (∀ j, j < k → 1 ≤ (at_ l j).1 ∧ (at_ l j).1 ≤ 9999) ∧ Below w.heap.size w wr) (fun _ x _ => l.length - (intOf x).toNat)
  case atStart => exact ⟨0, 0, Nat.zero_le _, rfl, rfl, hide (by rw [List.drop_zero]), hide (fun j hj => by omega), Below.refl _ _⟩
  case round =>
    obtain ⟨k, bb, hk, rfl, rfl, HC, HN, hb⟩ := hrel
    have HB := hide hb
    have hi0 : (0 : Int) ≤ (k : Int) := Int.natCast_nonneg _
    by_cases hlt : k < l.length
    · obtain ⟨g, off, rfl, hg, hc⟩ := HR.out (by omega)
      obtain ⟨d0, d1⟩ := (hc k hlt).below hg hb
      obtain ⟨x, hx⟩ : ∃ x, (at_ l k).1 = x := ⟨_, rfl⟩
      obtain ⟨s, hsx⟩ : ∃ s, (at_ l k).2 = s := ⟨_, rfl⟩
      rw [hx] at d0
      rw [hsx] at d1
      have HD := hide (chk_drop hlt bb)
      have HX := hide hx
      have hi1 : (k : Int) < (l.length : Int) := by omega
      clear hc hx hsx hb
      go_wp2_with fail
      refine (check_any x bb _).mono ?_
      rintro e w1 ⟨rfl, rfl⟩
      have HB1 : Hid (Below w.heap.size w (wr.alloc (Obj.cells #[.int .i64 x, .string s] 27))) := hide (HB.out.alloc HB.out.size _)
      clear d0 d1 HB
      by_cases h0 : cn x bb = 0
      · have HN' : Hid (∀ j, j < k + 1 → 1 ≤ (at_ l j).1 ∧ (at_ l j).1 ≤ 9999) := hide fun j hj => by
          by_cases hjk : j = k
          · subst hjk; rw [HX.out]; have := cn_ok h0; omega
          · exact HN.out j (by omega)
        have HC' : Hid (chk 0 l = chk x (l.drop (k + 1))) := hide (by rw [HC.out, HD.out, HX.out, h0]; simp)
        rw [h0]
        clear h0 HC HN HD
        go_wp2_with fail
        go_roundw
        case rel => exact ⟨k + 1, x, by omega, by go_num, rfl, HC', HN', HB1.out⟩
        case measure => simp [intOf]; omega
      · have HC' : Hid (chk 0 l = cn x bb) := hide (by rw [HC.out, HD.out, HX.out, if_pos h0])
        obtain ⟨c, hc⟩ : ∃ c, cn x bb = c := ⟨_, rfl⟩
        rw [hc] at h0 HC' ⊢
        have h0' : (c == 0) = false := by simpa using h0
        clear hc HC HN HD
        go_wp2_with fail
        go_returns
        exact ⟨_, _, rfl, HC'.out.symm, fun _ => rfl, fun h => absurd h h0, HB1.out⟩
    · obtain rfl : k = l.length := by omega
      have HC' : Hid (chk 0 l = 0) := hide (by rw [HC.out, chk_end])
      obtain ⟨W1, rfl⟩ : ∃ W, W = wr := ⟨_, rfl⟩
      clear HC hb
      go_wp2_with fail
      refine (appendTo_any l.length ⟨by omega⟩ (.slice none 0 0) [] w.heap.size _ (World.ownsRow_nil _ _ _ _) HB.out.size (by simp)).mono ?_
      rintro e w1 ⟨v1, rfl, ho1, b1⟩
      have HO1 := hide ho1
      have HB1 : Hid (Below w.heap.size w w1) := hide (HB.out.trans b1)
      have hpl := putL_len 8 l.length (by have : (128 : Nat) ^ (8 + 1) = 9223372036854775808 := by decide
                                          omega)
      clear ho1 b1 HB
      go_wp2_with fail
      go_loopw [8, 32] (fun v x wr => ∃ (k : Nat) (xs : List Int), k ≤ l.length ∧ x = .int .i64 k ∧ Hid (xs = putL l.length ++ bodyL (l.take k)) ∧ xs.length ≤ 9 + k * 70 ∧ wr.ownsRow w.heap.size 5 1 v xs.length (u8s xs) ∧ Below w.heap.size w wr) (fun _ x _ => l.length - (intOf x).toNat)
      case atStart => exact ⟨0, putL l.length, Nat.zero_le _, rfl, hide (by simp [bodyL]), by omega, by simpa using HO1.out, HB1.out⟩
      case round =>
        obtain ⟨k, xs, hk, rfl, HX, hxl, hown, hb⟩ := hrel
        have hi0 : (0 : Int) ≤ (k : Int) := Int.natCast_nonneg _
        have HO := hide hown
        have HB := hide hb
        by_cases hlt : k < l.length
        · obtain ⟨g, off, rfl, hg, hc⟩ := HR.out (by omega)
          obtain ⟨d0, d1⟩ := (hc k hlt).below hg hb
          have hn := HN.out k hlt
          have hs := HS.out k hlt
          have HBS := hide (bodyL_succ hlt)
          obtain ⟨x, hx⟩ : ∃ x, (at_ l k).1 = x := ⟨_, rfl⟩
          obtain ⟨s, hsx⟩ : ∃ s, (at_ l k).2 = s := ⟨_, rfl⟩
          rw [hx] at d0 hn
          rw [hsx] at d1 hs
          have HBS' : Hid (bodyL (l.take (k + 1)) = bodyL (l.take k) ++ partL x.toNat s) := hide (by rw [HBS.out, hx, hsx])
          obtain ⟨m, rfl⟩ : ∃ m : Nat, x = (m : Int) := ⟨x.toNat, by omega⟩
          have hi1 : (k : Int) < (l.length : Int) := by omega
          have hp := partL_len (n := m) (s := s) (by omega) hs
          clear hc hx hsx hb hown HBS
          go_wp2_with fail
          refine (appendPart_any m ⟨by omega⟩ s (by omega) _ xs w.heap.size _ (HO.out.alloc _) (by have := HB.out.size; simp; omega) (by omega)).mono ?_
          rintro e w2 ⟨v2, rfl, ho2, b2⟩
          have HO2 := hide ho2
          have HB2 : Hid (Below w.heap.size w w2) := hide ((HB.out.alloc HB.out.size _).trans b2)
          have HX2 : Hid (xs ++ partL m s = putL l.length ++ bodyL (l.take (k + 1))) := hide (by rw [HBS'.out, HX.out, List.append_assoc, Int.toNat_natCast])
          clear ho2 b2 HO HB HX
          go_wp2_with fail
          go_roundw
          case rel => exact ⟨k + 1, xs ++ partL m s, by omega, by go_num, HX2, by rw [List.length_append]; omega, HO2.out, HB2.out⟩
          case measure => simp [intOf]; omega
        · obtain rfl : k = l.length := by omega
          have hc := own_string hown
          have HX' : Hid (xs = joinL l) := hide (by rw [HX.out, List.take_of_length_le (Nat.le_refl _)]; rfl)
          clear HX
          go_wp2_with fail
          go_returns
          exact ⟨_, _, rfl, HC'.out.symm, fun h => absurd rfl h, fun _ => by rw [HX'.out], hb⟩
end Go.Proofs.YtdkkblkbonjjgabGreatDoor.Tj
