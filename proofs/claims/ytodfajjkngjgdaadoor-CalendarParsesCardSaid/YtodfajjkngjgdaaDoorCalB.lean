/- The texts of package calendar's days and durations, as far as the chapter's example needs them. Conditions: the tables hold what the program's text lays. -/
import Derived.Test.YtodfajjkngjgdaaDoorCalA
import Derived.Test.YtodfajjkngjgdaaDoorShelf
import Derived.Lib.ItoaMem
import Derived.Lib.ItoaLen
import Derived.Lib.AppendIntMem
import Derived.Lib.Repeat
namespace Go.Proofs.YtodfajjkngjgdaaDoor
open Go Go.RowKit Go.PlainAid

abbrev Tab (w : World) : Prop := Lib.TabIs Tryd.prog w "internal/strconv.uint64pow10" .u64 Lib.pow10Tab

theorem itoa_any (n : Nat) (w : World) (hT : Tab w) (hn : n ≤ 4611686018427387904) :
    Calls Tryd.prog 62 #[.int .i64 n] w fun e w' => ∃ t : ByteArray, e = .returned (.string t) ∧ t.data.toList = Lib.decDigits n ∧ Below w.heap.size w w' := by
  refine (Tryd.strconv_Itoa n (by omega) (by omega) w hT).mono ?_
  rintro e w' ⟨rfl, k, os, rfl⟩
  exact ⟨_, rfl, by rw [Lib.itoa_nonneg], Lib.below_grow _ w (Nat.le_refl _) k os⟩

theorem repeat_zero (c : Nat) : Lib.repeatL [48] c = List.replicate c 48 := by
  induction c with
  | zero => rfl
  | succ c ih => rw [Lib.repeatL, ih, List.replicate_succ]; rfl

/-- a number's digits, with leading zeros -/
def padL (n size : Nat) : List UInt8 := List.replicate (size - Lib.nDigits n) 48 ++ Lib.decDigits n

set_option maxHeartbeats 1000000 in
theorem pad_any (n size : Nat) (w : World) (hT : Tab w) (hn : n ≤ 4611686018427387904) (hs : size ≤ 8) :
    Calls Tryd.prog 65 #[.int .i64 n, .int .i64 size] w fun e w' => ∃ t : ByteArray, e = .returned (.string t) ∧ t.data.toList = padL n size ∧ Below w.heap.size w w' := by
  go_enter Tryd.func65, Tryd.ntmps65
  go_wp2_with fail
  refine (itoa_any n w hT hn).mono ?_
  rintro e w1 ⟨t, rfl, ht, hb1⟩
  have hlen : t.size = Lib.nDigits n := by
    rw [← Lib.decDigits_length, ← ht]; exact Array.length_toList.symm
  have hz : t.size ≤ 21 := by
    have h := Lib.itoa_length_le n (by omega) (by omega)
    rw [Lib.itoa_nonneg, Lib.decDigits_length] at h
    omega
  have HT := hide ht
  have HL := hide hlen
  clear ht hlen
  go_wp2_with fail
  obtain ⟨c, hc⟩ : ∃ c : Nat, c = size - t.size := ⟨_, rfl⟩
  rw [show max 0 ((size : Int) - (t.size : Int)) = (c : Int) by omega]
  have h1 : (⟨#[48]⟩ : ByteArray).size = 1 := rfl
  refine (Tryd.strings_Repeat ⟨#[48]⟩ c _ (by omega) (by rw [h1]; omega)).mono ?_
  rintro e w2 ⟨rfl, hb2⟩
  have hb3 := below_step hb1 hb2
  have hrz : (⟨(Lib.repeatL (⟨#[48]⟩ : ByteArray).data.toList c).toArray⟩ : ByteArray).data.toList = List.replicate c 48 := repeat_zero c
  have hrs : (⟨(Lib.repeatL (⟨#[48]⟩ : ByteArray).data.toList c).toArray⟩ : ByteArray).size ≤ 8 := by
    have : (⟨(Lib.repeatL (⟨#[48]⟩ : ByteArray).data.toList c).toArray⟩ : ByteArray).size = c := by
      show (Lib.repeatL (⟨#[48]⟩ : ByteArray).data.toList c).toArray.size = c
      rw [List.size_toArray, Lib.repeatL_length]
      show c * 1 = c
      omega
    omega
  generalize (⟨(Lib.repeatL (⟨#[48]⟩ : ByteArray).data.toList c).toArray⟩ : ByteArray) = z at *
  have HZ := hide hrz
  have HC := hide hc
  clear hrz hc hb1 hb2 h1
  go_wp2_with fail
  go_ret
  refine ⟨_, rfl, ?_, hb3⟩
  rw [ByteArray.data_append, Array.toList_append, HZ.out, HT.out, HC.out, HL.out]
  rfl

/-- the text of a date -/
def dateL (y m d : Nat) : List UInt8 := padL y 4 ++ [45] ++ padL m 2 ++ [45] ++ padL d 2

theorem Tab.below {w w' : World} (h : Tab w) (hb : Below w.heap.size w w') (hg : 2 < w.heap.size) : Tab w' := by
  have hgn : Tryd.prog.globalNamed "internal/strconv.uint64pow10" = some 2 := by kernel_rfl
  exact var?_below hb hgn hg h
theorem padL_len (n size : Nat) (hn : n ≤ 9999) (hs : size ≤ 8) : (padL n size).length ≤ 30 := by
  unfold padL
  have h := Lib.itoa_length_le n (by omega) (by omega)
  rw [Lib.itoa_nonneg] at h
  rw [List.length_append, List.length_replicate]
  omega

set_option maxHeartbeats 4000000 in
theorem dayText_any (n : Int) (w : World) (hL : Lens w) (hT : Tab w) (hg : 2 < w.heap.size) (h1 : -719162 ≤ n) (h2 : n ≤ 2932896) :
    Calls Tryd.prog 51 #[.int .i64 n] w fun e w' => ∃ (t : ByteArray) (y m d : Nat), e = .returned (.string t) ∧ isDateB y m d ∧ daysN y m d = n ∧ t.data.toList = dateL y m d ∧ Below w.heap.size w w' := by
  go_enter Tryd.func51, Tryd.ntmps51
  go_wp2_with fail
  refine (date_any n _ hL h1 h2).mono ?_
  rintro e w' ⟨y', m', d', rfl, hd, hn, rfl⟩
  obtain ⟨y, rfl⟩ := Int.eq_ofNat_of_zero_le (show 0 ≤ y' by have := hd.1; omega)
  obtain ⟨m, rfl⟩ := Int.eq_ofNat_of_zero_le (show 0 ≤ m' by have := hd.2.2.1; omega)
  obtain ⟨d, rfl⟩ := Int.eq_ofNat_of_zero_le (show 0 ≤ d' by have := hd.2.2.2.2.1; omega)
  have hy := hd.2.1
  have hm := hd.2.2.2.1
  have hdd : (d : Int) ≤ 31 := by have := hd.2.2.2.2.2; have := mlen_bd y m; omega
  have HD := hide hd
  have HN := hide hn
  clear hd hn
  have sz : ∀ (t : ByteArray) (l : List UInt8), t.data.toList = l → t.size = l.length := fun t l e => by rw [← e]; exact Array.length_toList.symm
  go_wp2_with fail
  refine (pad_any y 4 _ hT (by omega) (by omega)).mono ?_
  rintro e w1 ⟨t1, rfl, e1, hb1⟩
  have z1 : t1.size ≤ 30 := by rw [sz _ _ e1]; exact padL_len y 4 (by omega) (by omega)
  have E1 := hide e1
  clear e1
  have hg1 : 2 < w1.heap.size := by have := hb1.size; omega
  have SZ := hide sz
  clear sz
  go_wp2_with fail
  refine (pad_any m 2 _ (Tab.below hT hb1 hg) (by omega) (by omega)).mono ?_
  rintro e w2 ⟨t2, rfl, e2, hb2⟩
  have z2 : t2.size ≤ 30 := by rw [SZ.out _ _ e2]; exact padL_len m 2 (by omega) (by omega)
  have E2 := hide e2
  clear e2
  have hb2 := below_step hb1 hb2
  go_wp2_with fail
  refine (pad_any d 2 _ (Tab.below hT hb2 hg) (by omega) (by omega)).mono ?_
  rintro e w3 ⟨t3, rfl, e3, hb3⟩
  have z3 : t3.size ≤ 30 := by rw [SZ.out _ _ e3]; exact padL_len d 2 (by omega) (by omega)
  have E3 := hide e3
  clear e3
  have hb3 := below_step hb2 hb3
  clear hb1 hb2
  go_wp2_with fail
  go_ret
  refine ⟨_, y, m, d, rfl, HD.out, HN.out, ?_, hb3⟩
  simp only [ByteArray.data_append, Array.toList_append, E1.out, E2.out, E3.out, dateL]
end Go.Proofs.YtodfajjkngjgdaaDoor
