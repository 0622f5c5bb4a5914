/- CalendarTimes, walked. Conditions: the tables hold what the program's text lays. -/
import Derived.Test.YtodfajjkngjgdaaDoorCalN
namespace Go.Proofs.YtodfajjkngjgdaaDoor
open Go Go.RowKit Go.PlainAid

/-- the rests of a clock's text -/
noncomputable def k1 (s : ByteArray) : ByteArray := cR s 2 ⟨#[58]⟩
noncomputable def k2 (s : ByteArray) : ByteArray := cR (k1 s) 2 ⟨#[58]⟩
noncomputable def k3 (s : ByteArray) : ByteArray := cR (k2 s) 2 ⟨#[]⟩
noncomputable def kOk (s : ByteArray) : Bool := cB s 2 ⟨#[58]⟩ && cB (k1 s) 2 ⟨#[58]⟩ && cB (k2 s) 2 ⟨#[]⟩

set_option maxHeartbeats 2000000 in
theorem cutClock_any (s : ByteArray) (w : World) :
    Calls Tryd.prog 57 #[.string s] w fun e w' => e = .returned (.tuple #[.int .i64 (cN s 2), .int .i64 (cN (k1 s) 2), .int .i64 (cN (k2 s) 2), .string (k3 s), .bool (kOk s)]) ∧ w' = w := by
  go_enter Tryd.func57, Tryd.ntmps57
  go_wp2_with fail
  refine (cutNumber_any s 2 ⟨#[58]⟩ w (by omega)).mono ?_
  rintro e w' ⟨rfl, rfl⟩
  unfold cutV
  rw [show cR s 2 ⟨#[58]⟩ = k1 s from rfl]
  go_wp2_with fail
  refine (cutNumber_any (k1 s) 2 ⟨#[58]⟩ _ (by omega)).mono ?_
  rintro e w' ⟨rfl, rfl⟩
  unfold cutV
  rw [show cR (k1 s) 2 ⟨#[58]⟩ = k2 s from rfl]
  go_wp2_with fail
  refine (cutNumber_any (k2 s) 2 ⟨#[]⟩ _ (by omega)).mono ?_
  rintro e w' ⟨rfl, rfl⟩
  unfold cutV
  rw [show cR (k2 s) 2 ⟨#[]⟩ = k3 s from rfl]
  rcases hA : cB s 2 ⟨#[58]⟩ <;> rcases hB : cB (k1 s) 2 ⟨#[58]⟩
  all_goals
    have hO : kOk s = (cB s 2 ⟨#[58]⟩ && cB (k1 s) 2 ⟨#[58]⟩ && cB (k2 s) 2 ⟨#[]⟩) := rfl
    rw [hA, hB] at hO
    simp only [Bool.false_and, Bool.and_false, Bool.true_and] at hO
    have HO := hide hO
    clear hO hA hB
    go_wp2_with fail
    go_returns
    exact ⟨by rw [HO.out]; try rfl, rfl⟩

theorem trim_colon (r : List UInt8) : Lib.trimPrefix (58 :: r) [58] = r ∧ Lib.hasPrefix (58 :: r) [58] = true := by
  constructor <;> simp [Lib.trimPrefix, Lib.hasPrefix]
theorem trim_T (r : List UInt8) : Lib.trimPrefix (84 :: r) [84] = r ∧ Lib.hasPrefix (84 :: r) [84] = true := by
  constructor <;> simp [Lib.trimPrefix, Lib.hasPrefix]
theorem trim_dot (r : List UInt8) : Lib.trimPrefix (46 :: r) [46] = r ∧ Lib.hasPrefix (46 :: r) [46] = true := by
  constructor <;> simp [Lib.trimPrefix, Lib.hasPrefix]

theorem date_cuts_more {t : ByteArray} {y m d : Nat} {r : List UInt8} (h : t.data.toList = dateL y m d ++ r) (hy : y < 10000) (hm : m < 100) (hd : d < 100) :
    dOk t = true ∧ (d3 t).data.toList = r ∧ cN t 4 = y ∧ cN (d1 t) 2 = m ∧ cN (d2 t) 2 = d := by
  unfold dateL at h
  rw [pad4 hy, pad2 hm, pad2 hd] at h
  simp only [List.cons_append, List.nil_append] at h
  obtain ⟨a1, a2, a3⟩ := cut4 (p := [45]) h (by omega) (by omega) (by omega) (by omega)
  rw [(trim_dash _).1] at a2
  rw [(trim_dash _).2] at a3
  have e1 : (d1 t).data.toList = _ := a2
  obtain ⟨b1, b2, b3⟩ := cut2 (p := [45]) e1 (by omega) (by omega)
  rw [(trim_dash _).1] at b2
  rw [(trim_dash _).2] at b3
  have e2 : (d2 t).data.toList = _ := b2
  obtain ⟨c1, c2, c3⟩ := cut2 (p := []) e2 (by omega) (by omega)
  rw [(trim_none _).1] at c2
  rw [(trim_none _).2] at c3
  refine ⟨?_, c2, by rw [a1]; omega, by rw [b1]; omega, by rw [c1]; omega⟩
  show (cB t 4 ⟨[45].toArray⟩ && cB (d1 t) 2 ⟨[45].toArray⟩ && cB (d2 t) 2 ⟨[].toArray⟩) = true
  rw [a3, b3, c3]
  rfl

theorem clock_cuts {t : ByteArray} {h m s : Nat} {r : List UInt8} (e : t.data.toList = tail h 2 ++ [58] ++ tail m 2 ++ [58] ++ tail s 2 ++ r) (hh : h < 100) (hm : m < 100) (hs : s < 100) :
    kOk t = true ∧ (k3 t).data.toList = r ∧ cN t 2 = h ∧ cN (k1 t) 2 = m ∧ cN (k2 t) 2 = s := by
  rw [← pad_tail2 hh, ← pad_tail2 hm, ← pad_tail2 hs, pad2 hh, pad2 hm, pad2 hs] at e
  simp only [List.cons_append, List.nil_append] at e
  obtain ⟨a1, a2, a3⟩ := cut2 (p := [58]) e (by omega) (by omega)
  rw [(trim_colon _).1] at a2
  rw [(trim_colon _).2] at a3
  have e1 : (k1 t).data.toList = _ := a2
  obtain ⟨b1, b2, b3⟩ := cut2 (p := [58]) e1 (by omega) (by omega)
  rw [(trim_colon _).1] at b2
  rw [(trim_colon _).2] at b3
  have e2 : (k2 t).data.toList = _ := b2
  obtain ⟨c1, c2, c3⟩ := cut2 (p := []) e2 (by omega) (by omega)
  rw [(trim_none _).1] at c2
  rw [(trim_none _).2] at c3
  refine ⟨?_, c2, by rw [a1]; omega, by rw [b1]; omega, by rw [c1]; omega⟩
  show (cB t 2 ⟨[58].toArray⟩ && cB (k1 t) 2 ⟨[58].toArray⟩ && cB (k2 t) 2 ⟨[].toArray⟩) = true
  rw [a3, b3, c3]
  rfl

theorem cut3 {s : ByteArray} {n : Nat} {r p : List UInt8} (h : s.data.toList = tail n 3 ++ r) (hn : n < 1000) :
    cN s 3 = n ∧ (cR s 3 ⟨p.toArray⟩).data.toList = Lib.trimPrefix r p ∧ cB s 3 ⟨p.toArray⟩ = Lib.hasPrefix r p := by
  rw [tail, tail, tail, tail] at h
  simp only [List.cons_append, List.nil_append] at h
  have b0 := bt_of h 0
  have b1 := bt_of h 1
  have b2 := bt_of h 2
  simp only [List.getElem?_cons_zero, List.getElem?_cons_succ, Option.getD_some] at b0 b1 b2
  rw [dgt_nat (by omega)] at b0 b1 b2
  have hz : s.size = r.length + 3 := by rw [← size_list, h]; simp
  have hg : digs s 3 := by
    intro i hi
    have : i = 0 ∨ i = 1 ∨ i = 2 := by omega
    rcases this with rfl | rfl | rfl
    · rw [b0]; omega
    · rw [b1]; omega
    · rw [b2]; omega
  have hk : 3 ≤ s.size ∧ digs s 3 := ⟨by omega, hg⟩
  have ht : List.take (s.size - 3) (List.drop 3 s.data.toList) = r := by
    rw [h, hz]; simp
  refine ⟨?_, ?_, ?_⟩
  · rw [cN, if_pos hk]
    simp only [num, b0, b1, b2]
    omega
  · rw [cR, if_pos hk, ht]
  · rw [cB, if_pos hk, ht]
theorem bytes_of {s : ByteArray} {l : List UInt8} (h : s.data.toList = l) : s = ⟨l.toArray⟩ := by
  apply ByteArray.ext
  apply Array.toList_inj.1
  rw [h]

set_option maxHeartbeats 2000000 in
theorem cutPart_ok (s : ByteArray) (n : Nat) (w : World) (hn : n < 1000) (h : s.data.toList = (if n = 0 then [] else 46 :: tail n 3) ++ [90]) :
    Calls Tryd.prog 58 #[.string s] w fun e w' => e = .returned (.tuple #[.int .i64 n, .string ⟨#[90]⟩, .bool true]) ∧ w' = w := by
  by_cases c : n = 0
  · subst c
    rw [if_pos rfl] at h
    have hs : s = ⟨#[90]⟩ := bytes_of h
    subst hs
    clear h hn
    go_enter Tryd.func58, Tryd.ntmps58
    go_wp2_with fail
    refine (Tryd.strings_CutPrefix ⟨#[90]⟩ ⟨#[46]⟩ _).mono ?_
    rintro e w' ⟨rfl, rfl⟩
    rw [show Lib.hasPrefix (⟨#[90]⟩ : ByteArray).data.toList (⟨#[46]⟩ : ByteArray).data.toList = false from rfl]
    go_wp2_with fail
    go_ret3
    exact ⟨rfl, rfl⟩
  · rw [if_neg c] at h
    have q : ((n : Int) == 0) = false := by simp; omega
    have q2 : ((n : Int) != 0) = true := by simp; omega
    have hs : s = ⟨(46 :: (tail n 3 ++ [90])).toArray⟩ := bytes_of h
    subst hs
    clear h
    go_enter Tryd.func58, Tryd.ntmps58
    go_wp2_with fail
    refine (Tryd.strings_CutPrefix ⟨(46 :: (tail n 3 ++ [90])).toArray⟩ ⟨#[46]⟩ _).mono ?_
    rintro e w' ⟨rfl, rfl⟩
    rw [show Lib.hasPrefix (⟨(46 :: (tail n 3 ++ [90])).toArray⟩ : ByteArray).data.toList (⟨#[46]⟩ : ByteArray).data.toList = true from (trim_dot _).2,
      show Lib.trimPrefix (⟨(46 :: (tail n 3 ++ [90])).toArray⟩ : ByteArray).data.toList (⟨#[46]⟩ : ByteArray).data.toList = tail n 3 ++ [90] from (trim_dot _).1]
    have hu : Hid ((⟨(tail n 3 ++ [90]).toArray⟩ : ByteArray).data.toList = tail n 3 ++ [90]) := rfl
    generalize (⟨(tail n 3 ++ [90]).toArray⟩ : ByteArray) = u at *
    obtain ⟨a1, a2, a3⟩ := cut3 (p := []) hu.out hn
    rw [(trim_none _).1] at a2
    rw [(trim_none _).2] at a3
    go_wp2_with fail
    refine (cutNumber_any u 3 ⟨#[]⟩ _ (by omega)).mono ?_
    rintro e w' ⟨rfl, rfl⟩
    unfold cutV
    rw [a1, show cB u 3 ⟨#[]⟩ = true from a3, show cR u 3 ⟨#[]⟩ = ⟨#[90]⟩ from bytes_of a2]
    clear a1 a2 a3
    go_wp2_with fail
    go_ret3
    exact ⟨rfl, rfl⟩

set_option maxRecDepth 100000 in
set_option maxHeartbeats 1000000 in
theorem parseTime_text (t : ByteArray) (y m d r : Nat) (D n : Int) (w : World) (hL : Lens w) (h : t.data.toList = dateL y m d ++ [84] ++ clockL r ++ [90]) (hd : isDateB y m d) (hn : daysN y m d = D) (hp : Parts n D r) :
    Calls Tryd.prog 33 #[.string t] w fun e w' => e = .returned (.tuple #[.int .i64 n, .int .i64 0]) ∧ w' = w := by
  have hy := hd.2.1
  have hm := hd.2.2.2.1
  have hdd : (d : Int) ≤ 31 := by have := hd.2.2.2.2.2; have := mlen_bd y m; omega
  have p1 := hp.1
  have p2 := hp.2.1
  have hr : r < 86400000 := by have := hp.2.2.2.1; omega
  rw [List.append_assoc, List.append_assoc] at h
  obtain ⟨a1, a2, a3, a4, a5⟩ := date_cuts_more h (by omega) (by omega) (by omega)
  have HP := hide hp
  have HD := hide hd
  have HN := hide hn
  clear hp hd hn h hy hm hdd
  go_enter Tryd.func33, Tryd.ntmps33
  go_wp2_with fail
  refine (cutDate_any t w).mono ?_
  rintro e w' ⟨rfl, rfl⟩
  rw [a1, a3, a4, a5]
  clear a1 a3 a4 a5
  have A := hide a2
  clear a2
  generalize d3 t = v at *
  go_wp2_with fail
  refine (Tryd.strings_CutPrefix v ⟨#[84]⟩ _).mono ?_
  rintro e w' ⟨rfl, rfl⟩
  have hA1 : Lib.hasPrefix v.data.toList (⟨#[84]⟩ : ByteArray).data.toList = true := by rw [A.out]; exact (trim_T _).2
  have hA2 : Lib.trimPrefix v.data.toList (⟨#[84]⟩ : ByteArray).data.toList = clockL r ++ [90] := by rw [A.out]; exact (trim_T _).1
  rw [hA1, hA2]
  clear hA1 hA2 A
  have hu : Hid ((⟨(clockL r ++ [90]).toArray⟩ : ByteArray).data.toList = clockL r ++ [90]) := rfl
  generalize (⟨(clockL r ++ [90]).toArray⟩ : ByteArray) = u at *
  have hv : u.data.toList = tail (r / 3600000) 2 ++ [58] ++ tail (r / 60000 % 60) 2 ++ [58] ++ tail (r / 1000 % 60) 2 ++ ((if r % 1000 = 0 then [] else 46 :: tail (r % 1000) 3) ++ [90]) := by
    rw [hu.out]
    unfold clockL
    simp only [List.append_assoc]
  obtain ⟨a1, a2, a3, a4, a5⟩ := clock_cuts hv (by omega) (by omega) (by omega)
  clear hv hu
  go_wp2_with fail
  refine (cutClock_any u _).mono ?_
  rintro e w' ⟨rfl, rfl⟩
  rw [a1, a3, a4, a5]
  clear a1 a3 a4 a5
  have A2 := hide a2
  clear a2
  go_wp2_with fail
  refine (cutPart_ok _ (r % 1000) _ (by omega) A2.out).mono ?_
  rintro e w' ⟨rfl, rfl⟩
  go_wp2_with fail
  refine (days_ok _ _ _ _ hL HD.out).mono ?_
  rintro e w' ⟨rfl, rfl⟩
  rw [HN.out]
  go_wp2_with fail
  rw [show (r : Int) / 3600000 * 3600000 + (r : Int) / 60000 % 60 * 60000 + (r : Int) / 1000 % 60 * 1000 + (r : Int) % 1000 = r by omega]
  refine (join_ok D r _ p1 p2 (by omega) (by omega)).mono ?_
  rintro e w' ⟨rfl, rfl⟩
  rw [show 86400000 * D + (r : Int) = n from HP.out.2.2.2.2]
  go_wp2_with fail
  go_ret2
  exact ⟨rfl, rfl⟩

set_option maxRecDepth 100000 in
set_option maxHeartbeats 1000000 in
theorem calendarTimes_walk (n : Int) (w : World) (hl : Laid w) (_wn : (Lit.int .i64 n).wf = true) :
    Calls Tryd.prog 10 #[.int .i64 n] w fun e w' => e = .returned (.bool true) ∧ Below w.heap.size w w' := by
  by_cases hv : -62135596800000 ≤ n ∧ n ≤ 253402300799999
  · obtain ⟨h1, h2⟩ := hv
    go_enter Tryd.func10, Tryd.ntmps10
    go_wp2_with fail
    refine (known_any _ hl).mono ?_
    rintro e w1 ⟨rfl, hb1⟩
    have hl1 := hl.below hb1
    go_wp2_with fail
    refine (split_ok n _ h1 h2).mono ?_
    rintro e w' ⟨D, R, rfl, hp, rfl⟩
    have p1 := hp.1
    have p2 := hp.2.1
    have p3 := hp.2.2.1
    have p4 := hp.2.2.2.1
    have HP := hide hp
    clear hp
    go_wp2_with fail
    refine (timeText_ok n _ hl1 h1 h2).mono ?_
    rintro e w2 ⟨t, D2, r, y, m, d, rfl, hq, hd, hn, ht, hb2⟩
    have hl2 := hl1.below hb2
    have hb2 := below_step hb1 hb2
    have HQ := hide hq
    have HD := hide hd
    have HN := hide hn
    have HT := hide ht
    clear hq hd hn ht hb1 hl1
    go_wp2_with fail
    refine (refSplit_any n _ h1 h2).mono ?_
    rintro e w' ⟨D3, R3, rfl, hp3, rfl⟩
    have s3 := HP.out.same hp3
    rw [← s3.1, ← s3.2]
    clear s3 hp3
    go_wp2_with fail
    refine (join_ok D R _ p1 p2 p3 p4).mono ?_
    rintro e w' ⟨rfl, rfl⟩
    rw [show 86400000 * D + R = n from HP.out.2.2.2.2]
    go_wp2_with fail
    refine (parseTime_text t y m d r D2 n _ hl2.lens HT.out HD.out HN.out HQ.out).mono ?_
    rintro e w' ⟨rfl, rfl⟩
    go_wp2_with fail
    refine (refTimeText_any n _ h1 h2).mono ?_
    rintro e w3 ⟨t', D3, r', y', m', d', rfl, hq', hd', hn', ht', hb3⟩
    have hb3 := below_step hb2 hb3
    have et : t' = t := by
      have hs := HQ.out.same hq'
      have er : r' = r := by have := hs.2; omega
      have hs := date_same hd' HD.out (hn'.trans (hs.1.symm.trans HN.out.symm))
      have ey : y' = y := by have := hs.1; omega
      have em : m' = m := by have := hs.2.1; omega
      have ed : d' = d := by have := hs.2.2; omega
      apply ByteArray.ext
      apply Array.toList_inj.1
      rw [ht', HT.out, ey, em, ed, er]
    rw [et]
    clear hq' hd' hn' ht' et hb2 hl2
    go_wp2_with fail
    go_ret
    exact ⟨ret_bool (by simp), hb3⟩
  · have hc : n < -62135596800000 ∨ 253402300799999 < n := by omega
    have hc' := hide hc
    rcases hc with h | h
    all_goals
      try (have h' : -62135596800000 ≤ n := by omega)
      clear hv
      go_enter Tryd.func10, Tryd.ntmps10
      go_wp2_with fail
      refine (known_any _ hl).mono ?_
      rintro e w1 ⟨rfl, hb1⟩
      go_wp2_with fail
      refine (split_no n _ hc'.out).mono ?_
      rintro e w' ⟨rfl, rfl⟩
      go_wp2_with fail
      refine (timeText_no n _ hc'.out).mono ?_
      rintro e w' ⟨rfl, rfl⟩
      go_wp2_with fail
      go_ret
      exact ⟨ret_bool (by simp), hb1⟩
end Go.Proofs.YtodfajjkngjgdaaDoor
