/- CalendarTexts, walked. Conditions: the tables hold what the program's text lays. -/
import Derived.Test.YtodfajjkngjgdaaDoorCalL
import Derived.Test.YtodfajjkngjgdaaDoorCalH
namespace Go.Proofs.YtodfajjkngjgdaaDoor
open Go Go.RowKit Go.PlainAid

theorem size_list (s : ByteArray) : s.data.toList.length = s.size := Array.length_toList
theorem bt_of {s : ByteArray} {l : List UInt8} (h : s.data.toList = l) (j : Nat) : bt s j = (((l[j]?).getD 0).toNat : Int) := by
  subst h
  unfold bt
  split
  · rename_i h
    rw [List.getElem?_eq_getElem (by rw [size_list]; exact h)]
    rfl
  · rename_i h
    rw [List.getElem?_eq_none (by rw [size_list]; omega)]
    rfl
theorem dgt_nat {n : Nat} (h : n < 10) : ((dgt n).toNat : Int) = 48 + n := by
  unfold dgt
  rw [UInt8.toNat_ofNat']
  omega
/-- a cut of two digits -/
theorem cut2 {s : ByteArray} {a b : Nat} {r p : List UInt8} (h : s.data.toList = dgt a :: dgt b :: r) (ha : a < 10) (hb : b < 10) :
    cN s 2 = 10 * a + b ∧ (cR s 2 ⟨p.toArray⟩).data.toList = Lib.trimPrefix r p ∧ cB s 2 ⟨p.toArray⟩ = Lib.hasPrefix r p := by
  have b0 := bt_of h 0
  have b1 := bt_of h 1
  simp at b0 b1
  have hz : s.size = r.length + 2 := by rw [← size_list, h]; simp
  have hd : digs s 2 := by
    intro i hi
    have : i = 0 ∨ i = 1 := by omega
    rcases this with rfl | rfl
    · rw [b0, dgt_nat ha]; omega
    · rw [b1, dgt_nat hb]; omega
  have hc : 2 ≤ s.size ∧ digs s 2 := ⟨by omega, hd⟩
  have ht : List.take (s.size - 2) (List.drop 2 s.data.toList) = r := by
    rw [h, hz]; simp
  refine ⟨?_, ?_, ?_⟩
  · rw [cN, if_pos hc]
    simp only [num, b0, b1, dgt_nat ha, dgt_nat hb]
    omega
  · rw [cR, if_pos hc, ht]
  · rw [cB, if_pos hc, ht]
theorem cut4 {s : ByteArray} {a b c d : Nat} {r p : List UInt8} (h : s.data.toList = dgt a :: dgt b :: dgt c :: dgt d :: r) (ha : a < 10) (hb : b < 10) (hc : c < 10) (hd : d < 10) :
    cN s 4 = 1000 * a + 100 * b + 10 * c + d ∧ (cR s 4 ⟨p.toArray⟩).data.toList = Lib.trimPrefix r p ∧ cB s 4 ⟨p.toArray⟩ = Lib.hasPrefix r p := by
  have b0 := bt_of h 0
  have b1 := bt_of h 1
  have b2 := bt_of h 2
  have b3 := bt_of h 3
  simp at b0 b1 b2 b3
  have hz : s.size = r.length + 4 := by rw [← size_list, h]; simp
  have hg : digs s 4 := by
    intro i hi
    have : i = 0 ∨ i = 1 ∨ i = 2 ∨ i = 3 := by omega
    rcases this with rfl | rfl | rfl | rfl
    · rw [b0, dgt_nat ha]; omega
    · rw [b1, dgt_nat hb]; omega
    · rw [b2, dgt_nat hc]; omega
    · rw [b3, dgt_nat hd]; omega
  have hk : 4 ≤ s.size ∧ digs s 4 := ⟨by omega, hg⟩
  have ht : List.take (s.size - 4) (List.drop 4 s.data.toList) = r := by
    rw [h, hz]; simp
  refine ⟨?_, ?_, ?_⟩
  · rw [cN, if_pos hk]
    simp only [num, b0, b1, b2, b3, dgt_nat ha, dgt_nat hb, dgt_nat hc, dgt_nat hd]
    omega
  · rw [cR, if_pos hk, ht]
  · rw [cB, if_pos hk, ht]
theorem trim_dash (r : List UInt8) : Lib.trimPrefix (45 :: r) [45] = r ∧ Lib.hasPrefix (45 :: r) [45] = true := by
  constructor <;> simp [Lib.trimPrefix, Lib.hasPrefix]
theorem trim_none (r : List UInt8) : Lib.trimPrefix r [] = r ∧ Lib.hasPrefix r [] = true := by
  constructor <;> simp [Lib.trimPrefix, Lib.hasPrefix]

theorem date_cuts {t : ByteArray} {y m d : Nat} (h : t.data.toList = dateL y m d) (hy : y < 10000) (hm : m < 100) (hd : d < 100) :
    dOk t = true ∧ d3 t = ⟨#[]⟩ ∧ cN t 4 = y ∧ cN (d1 t) 2 = m ∧ cN (d2 t) 2 = d := by
  unfold dateL at h
  rw [pad4 hy, pad2 hm, pad2 hd] at h
  simp only [List.cons_append, List.nil_append] at h
  obtain ⟨a1, a2, a3⟩ := cut4 (p := [45]) h (by omega) (by omega) (by omega) (by omega)
  rw [(trim_dash _).1] at a2
  rw [(trim_dash _).2] at a3
  have e1 : (d1 t).data.toList = _ := a2
  obtain ⟨b1, b2, b3⟩ := cut2 (p := [45]) e1 (by omega) (by omega)
  rw [(trim_dash _).1] at b2
  rw [(trim_dash _).2] at b3
  have e2 : (d2 t).data.toList = _ := b2
  obtain ⟨c1, c2, c3⟩ := cut2 (p := []) e2 (by omega) (by omega)
  rw [(trim_none _).1] at c2
  rw [(trim_none _).2] at c3
  have e3 : (d3 t).data.toList = [] := c2
  refine ⟨?_, ?_, by rw [a1]; omega, by rw [b1]; omega, by rw [c1]; omega⟩
  · show (cB t 4 ⟨[45].toArray⟩ && cB (d1 t) 2 ⟨[45].toArray⟩ && cB (d2 t) 2 ⟨[].toArray⟩) = true
    rw [a3, b3, c3]
    rfl
  · apply ByteArray.ext
    exact Array.toList_inj.1 e3

theorem parse_text {t : ByteArray} {y m d : Nat} {n : Int} (w : World) (hL : Lens w) (h : t.data.toList = dateL y m d) (hd : isDateB y m d) (hn : daysN y m d = n) :
    Calls Tryd.prog 30 #[.string t] w fun e w' => e = .returned (.tuple #[.int .i64 n, .int .i64 0]) ∧ w' = w := by
  have hy := hd.2.1
  have hm := hd.2.2.2.1
  have hdd : (d : Int) ≤ 31 := by have := hd.2.2.2.2.2; have := mlen_bd y m; omega
  obtain ⟨a, b, c1, c2, c3⟩ := date_cuts h (by omega) (by omega) (by omega)
  have := parse_ok t w hL a b (by rw [c1, c2, c3]; exact hd)
  rw [c1, c2, c3, hn] at this
  exact this

set_option maxHeartbeats 4000000 in
theorem calendarTexts_walk (n : Int) (w : World) (hl : Laid w) (_wn : (Lit.int .i64 n).wf = true) :
    Calls Tryd.prog 8 #[.int .i64 n] w fun e w' => e = .returned (.bool true) ∧ Below w.heap.size w w' := by
  by_cases hv : -719162 ≤ n ∧ n ≤ 2932896
  · obtain ⟨h1, h2⟩ := hv
    go_enter Tryd.func8, Tryd.ntmps8
    go_wp2_with fail
    refine (known_any _ hl).mono ?_
    rintro e w1 ⟨rfl, hb1⟩
    have hl1 := hl.below hb1
    go_wp2_with fail
    refine (text_ok n _ hl1 h1 h2).mono ?_
    rintro e w2 ⟨t, y, m, d, rfl, hd, hn, ht, hb2⟩
    have hl2 := hl1.below hb2
    have hb2 := below_step hb1 hb2
    have HD := hide hd
    have HN := hide hn
    have HT := hide ht
    clear hd hn ht hb1 hl1
    go_wp2_with (go_at_call 24; go_in)
    refine (parse_text _ hl2.lens HT.out HD.out HN.out).mono ?_
    rintro e w' ⟨rfl, rfl⟩
    go_wp2_with fail
    refine (refText_any n _ h1 h2).mono ?_
    rintro e w3 ⟨t', y', m', d', rfl, hd', hn', ht', hb3⟩
    have hb3 := below_step hb2 hb3
    have hs := date_same hd' HD.out (hn'.trans HN.out.symm)
    have ey : y' = y := by have := hs.1; omega
    have em : m' = m := by have := hs.2.1; omega
    have ed : d' = d := by have := hs.2.2; omega
    have et : t' = t := by
      apply ByteArray.ext
      apply Array.toList_inj.1
      rw [ht', HT.out, ey, em, ed]
    rw [et]
    clear hd' hn' ht' hs ey em ed et hb2 hl2
    go_wp2_with fail
    go_ret
    exact ⟨ret_bool (by simp), hb3⟩
  · have hc : n < -719162 ∨ 2932896 < n := by omega
    have hc' := hide hc
    rcases hc with h | h
    all_goals
      try (have h' : -719162 ≤ n := by omega)
      try (have q : decide (n ≤ 2932896) = false := decide_eq_false (by omega))
      clear hv
      go_enter Tryd.func8, Tryd.ntmps8
      go_wp2_with fail
      refine (known_any _ hl).mono ?_
      rintro e w1 ⟨rfl, hb1⟩
      go_wp2_with fail
      refine (text_no n _ hc'.out).mono ?_
      rintro e w' ⟨rfl, rfl⟩
      go_wp2_with (go_at_call 24; go_in)
      go_ret
      exact ⟨ret_bool (by simp), hb1⟩
end Go.Proofs.YtodfajjkngjgdaaDoor
