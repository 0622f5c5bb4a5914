/- ParseSpan. Conditions: the tables hold what the program's text lays. -/
import Derived.Test.YtodfajjkngjgdaaDoorCalSpanB
namespace Go.Proofs.YtodfajjkngjgdaaDoor
open Go Go.RowKit Go.PlainAid

theorem unitB_inj {i j : Nat} (hi : i < j) (hj : j ≤ 4) : unitB j ≠ unitB i := by
  have h : (i = 0 ∨ i = 1 ∨ i = 2 ∨ i = 3) ∧ (j = 1 ∨ j = 2 ∨ j = 3 ∨ j = 4) := by omega
  rcases h with ⟨rfl | rfl | rfl | rfl, rfl | rfl | rfl | rfl⟩ <;> first | (exfalso; omega) | decide
theorem unit_ex (u : List UInt8) : ∃ j, j ≤ 5 ∧ (j < 5 → u = unitB j) ∧ ∀ i, i < j → u ≠ unitB i := by
  have h : ∀ n, n ≤ 5 → (∃ j, j < n ∧ u = unitB j ∧ ∀ i, i < j → u ≠ unitB i) ∨ (∀ i, i < n → u ≠ unitB i) := by
    intro n
    induction n with
    | zero => intro _; exact .inr fun i hi => by omega
    | succ n ih =>
      intro hn
      rcases ih (by omega) with ⟨j, h1, h2, h3⟩ | h
      · exact .inl ⟨j, by omega, h2, h3⟩
      · by_cases c : u = unitB n
        · exact .inl ⟨n, by omega, c, h⟩
        · refine .inr fun i hi => ?_
          by_cases e : i = n
          · subst e; exact c
          · exact h i (by omega)
  rcases h 5 (by omega) with ⟨j, h1, h2, h3⟩ | h
  · exact ⟨j, by omega, fun _ => h2, h3⟩
  · exact ⟨5, by omega, fun e => by omega, h⟩

theorem cutSpan_good (r : ByteArray) (n j : Nat) (rest : List UInt8) (w : World) (hU : Units w) (h : r.data.toList = Lib.decDigits n ++ (unitB j ++ rest)) (hr : OnDg rest) (hn : n ≤ 999999) (hj : j ≤ 4) (hz : r.size ≤ 100) :
    Calls Tryd.prog 63 #[.string r] w fun e w' => ∃ r' : ByteArray, e = .returned (.tuple #[.int .i64 ((n * unitN j : Nat) : Int), .string r', .bool true]) ∧ r'.data.toList = rest ∧ Below w.heap.size w w' := by
  have hl := lead_of h (decDigits_dg n) (unit_no j rest)
  rw [Lib.decDigits_length] at hl
  have h1 := Lib.nDigits_pos n
  have h6 := nDigits6 hn
  have hd : (dropB r (Lib.nDigits n)).data.toList = unitB j ++ rest := by
    rw [dropB_list, h, ← Lib.decDigits_length]; simp
  have hk := name_of hd (unitB_no j) hr
  have ht : (dropB r (Lib.nDigits n)).data.toList.take (unitB j).length = unitB j := by rw [hd]; simp
  have hnum := num_dec n r _ h
  refine (cutSpan_any r _ _ j w hU hl h1 h6 hk (by omega) (fun _ => ht) (fun i hi => by rw [ht]; exact unitB_inj hi hj) hz).mono ?_
  rintro e w' ⟨rfl, hb⟩
  refine ⟨dropB (dropB r (Lib.nDigits n)) (unitB j).length, ?_, ?_, hb⟩
  · rw [spanV, if_pos (by omega), hnum, Int.natCast_mul]
  · rw [dropB_list, hd]; simp

set_option maxHeartbeats 4000000 in
theorem parseSpan_good (s : ByteArray) (m : Nat) (w : World) (hl : Laid w) (hm : m ≤ 17592186044416) (hs : s.data.toList = spanT m) (hz : s.size ≤ 32) :
    Calls Tryd.prog 41 #[.string s] w fun e w' => e = .returned (.tuple #[.int .i64 m, .int .i64 0]) ∧ Below w.heap.size w w' := by
  have HL := hide hl
  have HS := hide hs
  clear hl hs
  go_enter Tryd.func41, Tryd.ntmps41
  go_wp2_with fail
  go_loopw [4, 5] (fun a b wr => ∃ (ps : List (Nat × Nat)) (r : ByteArray) (v : Nat), a = .int .i64 v ∧ b = .string r ∧ r.size ≤ 32 ∧ v ≤ m ∧ Hid (v + partsN ps = m) ∧ Hid (r.data.toList = partsT ps) ∧ Hid (PartsOk ps) ∧ Below w.heap.size w wr) (fun _ b _ => match b with | .string r => r.size | _ => 0)
  case atStart => exact ⟨parts m, s, 0, rfl, rfl, hz, Nat.zero_le _, hide (by rw [parts_N, Nat.zero_add]), HS, hide (parts_ok m hm), Below.refl _ _⟩
  case round =>
    obtain ⟨ps, r, v, rfl, rfl, hr, hv, hN, hT, hO, hbw⟩ := hrel
    have hL := HL.out.below hbw
    cases ps with
    | nil =>
      have e1 : r = ⟨#[]⟩ := bytes_of hT.out
      subst e1
      have e2 : v = m := hN.out
      subst e2
      have HB := hide hbw
      have HL2 := hide hL
      clear hbw hL
      go_wp2_with fail
      refine (spanText_any v _ HL2.out hm).mono ?_
      rintro e w2 ⟨t, rfl, ht, hb2⟩
      obtain rfl : t = s := by rw [bytes_of ht, bytes_of HS.out]
      have HB2 := hide (below_step HB.out hb2)
      clear ht hb2
      go_wp2_with fail
      go_ret2
      exact ⟨rfl, HB2.out⟩
    | cons p ps =>
      have hp := hO.out p (List.mem_cons_self ..)
      have q : r.toList.isEmpty = false := by
        rcases hh : r.toList.isEmpty with _ | _
        · rfl
        · rw [ByteArray.toList_eq, List.isEmpty_iff, hT.out, partsT] at hh
          exact absurd (List.append_eq_nil_iff.1 hh).1 (decDigits_ne _)
      have q2 : (!r.toList.isEmpty) = true := by rw [q]; rfl
      have CG : Hid (∀ W, Units W → Calls Tryd.prog 63 #[.string r] W fun e w' => ∃ r' : ByteArray, e = .returned (.tuple #[.int .i64 ((p.1 * unitN p.2 : Nat) : Int), .string r', .bool true]) ∧ r'.data.toList = partsT ps ∧ Below W.heap.size W w') := hide fun W hU => cutSpan_good r p.1 p.2 _ W hU hT.out (partsT_on ps) hp.1 hp.2 (by omega)
      obtain ⟨x, hx⟩ : ∃ x, x = p.1 * unitN p.2 := ⟨_, rfl⟩
      rw [← hx] at CG
      have hxm : x + partsN ps + v = m := by have := hN.out; rw [partsN] at this; omega
      have hxm' : x + v ≤ m := by omega
      have HX := hide hxm
      have HB := hide hbw
      have HU := hide hL.units
      clear hp hx hxm hbw hL
      go_wp2_with fail
      refine (CG.out _ HU.out).mono ?_
      rintro e w2 ⟨r', rfl, hr', hb2⟩
      have hz' : r'.size < r.size := by
        have h1 := size_of hr'
        have h2 := size_of hT.out
        rw [partsT, List.length_append, List.length_append] at h2
        have := (unitB_len p.2).1
        omega
      have HR := hide hr'
      have HB2 := hide (below_step HB.out hb2)
      clear hr' hb2
      go_wp2_with fail
      go_roundw
      case rel => exact ⟨ps, r', v + x, by go_num, rfl, by omega, by omega, hide (by have := HX.out; omega), HR, hide fun p' hp' => hO.out p' (List.mem_cons_of_mem _ hp'), HB2.out⟩
      case measure => exact hz'

/-- what a parser of durations returns for s, if the text is not too long: the duration whose text it is, or a syntax error -/
def SpanPost (s : ByteArray) (w : World) (e : Ending) (w' : World) : Prop :=
  ∃ (n x : Int), e = .returned (.tuple #[.int .i64 n, .int .i64 x]) ∧ ((∃ m : Nat, m ≤ 17592186044416 ∧ s.data.toList = spanT m ∧ n = m ∧ x = 0) ∨ (n = 0 ∧ x = 13)) ∧ Below w.heap.size w w'

set_option maxHeartbeats 4000000 in
theorem parseSpan_some (s : ByteArray) (w : World) (hl : Laid w) (hz : s.size ≤ 32) :
    Calls Tryd.prog 41 #[.string s] w (SpanPost s w) := by
  have HL := hide hl
  clear hl
  go_enter Tryd.func41, Tryd.ntmps41
  go_wp2_with fail
  go_loopw [4, 5] (fun a b wr => ∃ (r : ByteArray) (v : Int), a = .int .i64 v ∧ b = .string r ∧ r.size ≤ 32 ∧ Below w.heap.size w wr) (fun _ b _ => match b with | .string r => r.size | _ => 0)
  case atStart => exact ⟨s, 0, rfl, rfl, hz, Below.refl _ _⟩
  case round =>
    obtain ⟨r, v, rfl, rfl, hr, hbw⟩ := hrel
    have hL := HL.out.below hbw
    by_cases hr0 : r.data.toList = []
    · have e1 : r = ⟨#[]⟩ := bytes_of hr0
      subst e1
      have HB := hide hbw
      have HL2 := hide hL
      clear hbw hL hr0
      by_cases hv : 0 ≤ v ∧ v ≤ 17592186044416
      · obtain ⟨m, rfl⟩ := Int.eq_ofNat_of_zero_le hv.1
        have hm : m ≤ 17592186044416 := by omega
        clear hv
        go_wp2_with fail
        refine (spanText_any m _ HL2.out hm).mono ?_
        rintro e w2 ⟨t, rfl, ht, hb2⟩
        have HT := hide ht
        have HB2 := hide (below_step HB.out hb2)
        clear ht hb2
        by_cases hts : t = s
        · subst hts
          go_wp2_with fail
          go_ret2
          exact ⟨_, _, rfl, .inl ⟨m, hm, HT.out, rfl, rfl⟩, HB2.out⟩
        · have q : (t.toList == s.toList) = false := by
            simp only [beq_eq_false_iff_ne, ne_eq]
            rw [ByteArray.toList_eq, ByteArray.toList_eq]
            exact fun h => hts (ByteArray.ext (Array.toList_inj.1 h))
          clear hts
          go_wp2_with fail
          go_ret2
          exact ⟨_, _, rfl, .inr ⟨rfl, rfl⟩, HB2.out⟩
      · have hv' : v < 0 ∨ 17592186044416 < v := by omega
        have HV := hide hv'
        clear hv hv'
        go_wp2_with fail
        refine (spanText_no v _ HV.out).mono ?_
        rintro e w2 ⟨rfl, rfl⟩
        go_wp2_with fail
        go_ret2
        exact ⟨_, _, rfl, .inr ⟨rfl, rfl⟩, HB.out⟩
    · have q : r.toList.isEmpty = false := by
        rcases hh : r.toList.isEmpty with _ | _
        · rfl
        · rw [ByteArray.toList_eq, List.isEmpty_iff] at hh
          exact absurd hh hr0
      have q2 : (!r.toList.isEmpty) = true := by rw [q]; rfl
      have HB := hide hbw
      have HU := hide hL.units
      obtain ⟨k, hk⟩ := lead_ex r
      clear hr0 hbw hL
      by_cases hk6 : k = 0 ∨ 6 < k
      · have CN := hide (fun W => cutSpan_no r k W hk hk6 (by omega))
        clear hk hk6
        go_wp2_with fail
        refine (CN.out _).mono ?_
        rintro e w2 ⟨rfl, rfl⟩
        go_wp2_with fail
        go_ret2
        exact ⟨_, _, rfl, .inr ⟨rfl, rfl⟩, HB.out⟩
      · obtain ⟨k2, hk2⟩ := name_ex (dropB r k)
        obtain ⟨j, hj, hu, hne⟩ := unit_ex ((dropB r k).data.toList.take k2)
        have h1 : 1 ≤ k := by omega
        have h6 : k ≤ 6 := by omega
        have hkr := hk.1
        have CS := hide (fun W hU => cutSpan_any r k k2 j W hU hk h1 h6 hk2 hj hu hne (by omega))
        clear hk hk2 hu hne hk6
        by_cases hj5 : j < 5
        · simp only [spanV, if_pos hj5] at CS
          obtain ⟨r', hr'⟩ : ∃ r', r' = dropB (dropB r k) k2 := ⟨_, rfl⟩
          have hz' : r'.size < r.size := by rw [hr', dropB_size, dropB_size]; omega
          rw [← hr'] at CS
          obtain ⟨x, hx⟩ : ∃ x, x = num r k * (unitN j : Int) := ⟨_, rfl⟩
          rw [← hx] at CS
          clear hr' hx
          go_wp2_with fail
          refine (CS.out _ HU.out).mono ?_
          rintro e w2 ⟨rfl, hb2⟩
          have HB2 := hide (below_step HB.out hb2)
          clear hb2
          go_wp2_with fail
          go_roundw
          case rel => exact ⟨r', _, rfl, rfl, by omega, HB2.out⟩
          case measure => exact hz'
        · simp only [spanV, if_neg hj5] at CS
          go_wp2_with fail
          refine (CS.out _ HU.out).mono ?_
          rintro e w2 ⟨rfl, hb2⟩
          have HB2 := hide (below_step HB.out hb2)
          clear hb2
          go_wp2_with fail
          go_ret2
          exact ⟨_, _, rfl, .inr ⟨rfl, rfl⟩, HB2.out⟩
theorem parseSpan_long (s : ByteArray) (w : World) (hz : 32 < s.size) :
    Calls Tryd.prog 41 #[.string s] w fun e w' => e = .returned (.tuple #[.int .i64 0, .int .i64 5]) ∧ w' = w := by
  go_enter Tryd.func41, Tryd.ntmps41
  go_wp2_with fail
  go_ret2
  exact ⟨rfl, rfl⟩
end Go.Proofs.YtodfajjkngjgdaaDoor
