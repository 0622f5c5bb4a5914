/- What decimal.Text returns. Condition: the table of the powers of ten of internal/strconv holds what the program's text lays. -/
import Derived.Test.YtgppimdakafniaaDoorDecFmt
import Derived.Test.YtgppimdakafniaaDoorDecTextDef
import Derived.Test.YtgppimdakafniaaDoorDecLift
import Derived.Lib.Repeat
namespace Go.Proofs.YtgppimdakafniaaDoor
open Go Go.RowKit Go.PlainAid

theorem repeat_list (c : Nat) : Lib.repeatL [48] c = List.replicate c 48 := by
  induction c with
  | zero => rfl
  | succ c ih => rw [Lib.repeatL, ih, List.replicate_succ]; rfl
theorem repeat_any (c : Nat) (w : World) (h1 : 1 ≤ c) (h2 : c ≤ 20) : Calls Tryd.prog 59 #[.string ⟨#[48]⟩, .int .i64 c] w fun e w' => ∃ t : ByteArray, e = .returned (.string t) ∧ t.data.toList = List.replicate c 48 ∧ Below w.heap.size w w' := by
  by_cases h : c = 1
  · subst h
    refine (Tryd.strings_Repeat_one ⟨#[48]⟩ w).mono ?_
    rintro e w' ⟨rfl, rfl⟩
    exact ⟨_, rfl, rfl, Below.refl _ _⟩
  · refine (Tryd.strings_Repeat_main ⟨#[48]⟩ c w (by omega) (by omega) (by show 1 * c ≤ _; omega) (by decide)).mono ?_
    rintro e w' ⟨rfl, hb⟩
    exact ⟨_, rfl, repeat_list c, hb⟩

theorem tab_lt {w : World} (h : Lib.TabIs Tryd.prog w "internal/strconv.uint64pow10" .u64 Lib.pow10Tab) : 3 < w.heap.size := by
  have hgn : Tryd.prog.globalNamed "internal/strconv.uint64pow10" = some 3 := by kernel_rfl
  have := World.var?_cell hgn h 0
  exact World.block_lt_of_cell? w _ (this.trans rfl)
theorem tab_below {w w' : World} (h : Lib.TabIs Tryd.prog w "internal/strconv.uint64pow10" .u64 Lib.pow10Tab) (hb : Below w.heap.size w w') : Lib.TabIs Tryd.prog w' "internal/strconv.uint64pow10" .u64 Lib.pow10Tab := by
  have hgn : Tryd.prog.globalNamed "internal/strconv.uint64pow10" = some 3 := by kernel_rfl
  exact var?_below hb hgn (tab_lt h) h
set_option maxHeartbeats 4000000 in
theorem text_ok (n : Int) (s : Nat) (w : World) (h : okN n s) (hT : Lib.TabIs Tryd.prog w "internal/strconv.uint64pow10" .u64 Lib.pow10Tab) :
    Calls Tryd.prog 37 #[(.agg #[.int .i64 (n), .int .i64 (s)])] w fun e w' => ∃ t : ByteArray, e = .returned (.tuple #[.string t, .int .i64 0]) ∧ t.data.toList = textL n s ∧ Below w.heap.size w w' := by
  have H := hide h
  have g1 := h.1
  have g2 := h.2.1
  have g4 := h.2.2.2
  have TT := hide hT
  clear h hT
  go_enter Tryd.func37, Tryd.ntmps37
  go_wp2_with fail
  refine (check_ok _ _ _ H.out).mono ?_
  rintro e w1 ⟨rfl, hb1⟩
  obtain ⟨k0, k1⟩ : w1.cell? ⟨w.heap.size, 0, none⟩ = some (.int .i64 n) ∧ w1.cell? ⟨w.heap.size, 1, none⟩ = some (.int .i64 s) := ⟨(hb1.cell (p := ⟨w.heap.size, 0, none⟩) (by simp)).trans (one0 _ _ _ _), (hb1.cell (p := ⟨w.heap.size, 1, none⟩) (by simp)).trans (one1 _ _ _ _)⟩
  have hB : Below w.heap.size w w1 := by repeat (first | (refine below_set ?_ ?hsz _; case hsz => (first | omega | (simp; done) | (simp; omega) | (have hs0 := hb.size; simp at hs0 ⊢; omega) | (have hs1 := hb1.size; simp at hs1 ⊢; omega) | (have hs1 := hb1.size; have hs2 := hb2.size; simp at hs1 hs2 ⊢; omega))) | exact Below.refl _ _ | refine below_alloc ?_ _ | refine below_drew ?_ | refine below_drewn ?_ _ | refine below_step ?_ hb | refine below_step ?_ hb0 | refine below_step ?_ hb1 | refine below_step ?_ hb2 | refine below_step ?_ hb3 | refine below_step ?_ hb4 | refine below_step ?_ hb5 | refine below_step ?_ hb6 | refine below_step ?_ hb7)
  clear hb1
  rcases Int.lt_or_le n 0 with hn | hn
  · go_wp2_with fail
    refine (magnitude_q _ _ g1 g2).mono ?_
    rintro e w' ⟨rfl, rfl⟩
    go_wp2_with fail
    refine (format_any _ (by omega) _ ?_).mono ?_
    · exact tab_below TT.out hB
    rintro e w2 ⟨rfl, hb2⟩
    obtain ⟨D, hD⟩ : ∃ D : ByteArray, D = ⟨(Lib.decDigits n.natAbs).toArray⟩ := ⟨_, rfl⟩
    rw [← hD]
    have hl : D.data.toList = Lib.decDigits n.natAbs := by rw [hD]
    have hsz : D.size = (Lib.decDigits n.natAbs).length := by rw [← hl]; rfl
    have hlen : 1 ≤ D.size ∧ D.size ≤ 15 := by rw [hsz]; exact dec_len _ (by omega)
    obtain ⟨d0, d1⟩ := hlen
    have HD := hide hl
    clear hD hl hsz
    replace k0 := lift0 hb2 k0
    replace k1 := lift0 hb2 k1
    replace hB := below_step hB hb2
    clear hb2
    by_cases hs : s = 0
    · subst hs
      go_wp2_with fail
      go_ret2
      exact ⟨_, rfl, by rw [ByteArray.data_append, Array.toList_append, HD.out]; unfold textL; rw [if_pos hn, if_pos rfl], hB⟩
    · have q : ((s : Int) == 0) = false := by simpa using hs
      have hdl : Hid ((Lib.decDigits n.natAbs).length = D.size) := by unfold Hid; rw [← HD.out]; rfl
      by_cases hk : D.size < s + 1
      · obtain ⟨c, hc⟩ : ∃ c : Nat, s + 1 = D.size + c := ⟨s + 1 - D.size, by omega⟩
        have hc' : (s : Int) + 1 - (D.size : Int) = (c : Int) := by omega
        have HC := hide hc
        have c1 : 1 ≤ c := by omega
        have c2 : c ≤ 20 := by omega
        clear hc
        go_wp2_with fail
        refine (repeat_any c _ c1 c2).mono ?_
        rintro e w3 ⟨Z, rfl, hZ, hb3⟩
        have HZ := hide hZ
        have z1 : Z.size = c := by
          have := congrArg List.length hZ
          rw [List.length_replicate] at this
          rw [← this]; rfl
        clear hZ
        replace k1 := lift0 hb3 k1
        replace hB := below_step hB hb3
        clear hb3
        have hpt : (c : Int) + (D.size : Int) - (s : Int) = 1 := by have := HC.out; omega
        have hps : 1 ≤ c + D.size := by omega
        have hps' : (1 : Int) ≤ (c : Int) + (D.size : Int) := by omega
        go_wp2_with fail
        go_quiet (fail)
        go_wp2_with fail
        go_ret2
        refine ⟨_, rfl, ?_, below_drewN hB _⟩
        simp
        have e1 : 1 - Z.size = 0 := by omega
        have e2 : c + D.size - Z.size - 0 = D.size := by omega
        have e3 : s + 1 - D.size = c := by have := HC.out; omega
        rw [e1, e2]
        unfold textL padD
        rw [if_pos hn, if_neg hs, hdl.out, e3, ← HZ.out, ← HD.out]
        have lz : Z.data.toList.length = c := z1
        have ld : D.data.toList.length = D.size := rfl
        have l1 : (Z.data.toList ++ D.data.toList).length - s = 1 := by rw [List.length_append, lz, ld]; have := HC.out; omega
        rw [l1]
        generalize Z.data.toList = zl at *
        generalize D.data.toList = dl at *
        cases zl with
        | nil => simp at lz; omega
        | cons a r =>
          simp [← ld]
          exact List.take_of_length_le (by simp at lz; omega)
      · have hk' : s + 1 ≤ D.size := by omega
        go_wp2_with fail
        go_quiet (fail)
        go_wp2_with fail
        go_ret2
        refine ⟨_, rfl, ?_, below_drewN hB _⟩
        simp
        unfold textL padD
        have ld : D.data.toList.length = D.size := rfl
        rw [if_pos hn, if_neg hs, hdl.out, show s + 1 - D.size = 0 by omega, ← HD.out]
        generalize D.data.toList = dl at *
        have l2 : (List.drop (D.size - s) dl).length ≤ D.size - (D.size - s) := by rw [List.length_drop, ld]; omega
        simp [List.take_of_length_le l2, ld]
  · go_wp2_with fail
    refine (magnitude_q _ _ g1 g2).mono ?_
    rintro e w' ⟨rfl, rfl⟩
    go_wp2_with fail
    refine (format_any _ (by omega) _ ?_).mono ?_
    · exact tab_below TT.out hB
    rintro e w2 ⟨rfl, hb2⟩
    obtain ⟨D, hD⟩ : ∃ D : ByteArray, D = ⟨(Lib.decDigits n.natAbs).toArray⟩ := ⟨_, rfl⟩
    rw [← hD]
    have hl : D.data.toList = Lib.decDigits n.natAbs := by rw [hD]
    have hsz : D.size = (Lib.decDigits n.natAbs).length := by rw [← hl]; rfl
    have hlen : 1 ≤ D.size ∧ D.size ≤ 15 := by rw [hsz]; exact dec_len _ (by omega)
    obtain ⟨d0, d1⟩ := hlen
    have HD := hide hl
    clear hD hl hsz
    replace k0 := lift0 hb2 k0
    replace k1 := lift0 hb2 k1
    replace hB := below_step hB hb2
    clear hb2
    by_cases hs : s = 0
    · subst hs
      go_wp2_with fail
      go_ret2
      exact ⟨_, rfl, by rw [ByteArray.data_append, Array.toList_append, HD.out]; unfold textL; rw [if_neg (by omega), if_pos rfl], hB⟩
    · have q : ((s : Int) == 0) = false := by simpa using hs
      have hdl : Hid ((Lib.decDigits n.natAbs).length = D.size) := by unfold Hid; rw [← HD.out]; rfl
      by_cases hk : D.size < s + 1
      · obtain ⟨c, hc⟩ : ∃ c : Nat, s + 1 = D.size + c := ⟨s + 1 - D.size, by omega⟩
        have hc' : (s : Int) + 1 - (D.size : Int) = (c : Int) := by omega
        have HC := hide hc
        have c1 : 1 ≤ c := by omega
        have c2 : c ≤ 20 := by omega
        clear hc
        go_wp2_with fail
        refine (repeat_any c _ c1 c2).mono ?_
        rintro e w3 ⟨Z, rfl, hZ, hb3⟩
        have HZ := hide hZ
        have z1 : Z.size = c := by
          have := congrArg List.length hZ
          rw [List.length_replicate] at this
          rw [← this]; rfl
        clear hZ
        replace k1 := lift0 hb3 k1
        replace hB := below_step hB hb3
        clear hb3
        have hpt : (c : Int) + (D.size : Int) - (s : Int) = 1 := by have := HC.out; omega
        have hps : 1 ≤ c + D.size := by omega
        have hps' : (1 : Int) ≤ (c : Int) + (D.size : Int) := by omega
        go_wp2_with fail
        go_quiet (fail)
        go_wp2_with fail
        go_ret2
        refine ⟨_, rfl, ?_, below_drewN hB _⟩
        simp
        have e1 : 1 - Z.size = 0 := by omega
        have e2 : c + D.size - Z.size - 0 = D.size := by omega
        have e3 : s + 1 - D.size = c := by have := HC.out; omega
        rw [e1, e2]
        unfold textL padD
        rw [if_neg (by omega), if_neg hs, hdl.out, e3, ← HZ.out, ← HD.out]
        have lz : Z.data.toList.length = c := z1
        have ld : D.data.toList.length = D.size := rfl
        have l1 : (Z.data.toList ++ D.data.toList).length - s = 1 := by rw [List.length_append, lz, ld]; have := HC.out; omega
        rw [l1]
        generalize Z.data.toList = zl at *
        generalize D.data.toList = dl at *
        cases zl with
        | nil => simp at lz; omega
        | cons a r =>
          simp [← ld]
          exact List.take_of_length_le (by simp at lz; omega)
      · have hk' : s + 1 ≤ D.size := by omega
        go_wp2_with fail
        go_quiet (fail)
        go_wp2_with fail
        go_ret2
        refine ⟨_, rfl, ?_, below_drewN hB _⟩
        simp
        unfold textL padD
        have ld : D.data.toList.length = D.size := rfl
        rw [if_neg (by omega), if_neg hs, hdl.out, show s + 1 - D.size = 0 by omega, ← HD.out]
        generalize D.data.toList = dl at *
        have l2 : (List.drop (D.size - s) dl).length ≤ D.size - (D.size - s) := by rw [List.length_drop, ld]; omega
        simp [List.take_of_length_le l2, ld]
end Go.Proofs.YtgppimdakafniaaDoor
