/- What decimal.Parse returns, for every text. Conditions: the tables hold what the program's text lays; the variable MaxLen of internal/bytealg holds a number. -/
import Derived.Test.YtgppimdakafniaaDoorDecRead
import Derived.Test.YtgppimdakafniaaDoorDecText
namespace Go.Proofs.YtgppimdakafniaaDoor
open Go Go.RowKit Go.PlainAid

/-- the error of a text that is no number's -/
def codeOf (s : ByteArray) : Int := if s.size = 0 then 4 else if 17 < s.size then 5 else 13
/-- what Parse comes to -/
def ParsePost (s : ByteArray) (w : World) (e : Ending) (w' : World) : Prop :=
  ((∃ (n : Int) (k : Nat), okN n k ∧ s.data.toList = textL n k ∧ e = .returned (.tuple #[(.agg #[.int .i64 (n), .int .i64 (k)]), .int .i64 0])) ∨ ((∀ (n : Int) (k : Nat), okN n k → s.data.toList ≠ textL n k) ∧ e = .returned (.tuple #[(.agg #[.int .i64 (0), .int .i64 (0)]), .int .i64 (codeOf s)]))) ∧ Below w.heap.size w w'
theorem text_inj {n n' : Int} {k k' : Nat} (h : textL n k = textL n' k') : n = n' ∧ k = k' := by
  obtain ⟨_, a, b⟩ := read_text n k
  obtain ⟨_, c, d⟩ := read_text n' k'
  rw [h] at a b
  exact ⟨a.symm.trans c, b.symm.trans d⟩
/-- as a number with an error -/
theorem ParsePost.out {s : ByteArray} {w : World} {e : Ending} {w' : World} (h : ParsePost s w e w') :
    ∃ (n : Int) (k : Nat) (x : Int), e = .returned (.tuple #[(.agg #[.int .i64 (n), .int .i64 (k)]), .int .i64 x]) ∧ ((okN n k ∧ s.data.toList = textL n k ∧ x = 0) ∨ ((∀ (n : Int) (k : Nat), okN n k → s.data.toList ≠ textL n k) ∧ n = 0 ∧ k = 0 ∧ x = codeOf s)) ∧ Below w.heap.size w w' := by
  rcases h with ⟨⟨n, k, h1, h2, rfl⟩ | ⟨h1, rfl⟩, hb⟩
  · exact ⟨n, k, 0, rfl, .inl ⟨h1, h2, rfl⟩, hb⟩
  · exact ⟨0, 0, _, rfl, .inr ⟨h1, rfl, rfl, rfl⟩, hb⟩
theorem nonempty_of {s : ByteArray} (h : s.size ≠ 0) : s.toList.isEmpty = false := by
  rcases hh : s.toList.isEmpty with _ | _
  · rfl
  · rw [ByteArray.toList_eq, List.isEmpty_iff] at hh
    exact absurd (show s.data.toList.length = 0 by rw [hh]; rfl) h
theorem no_short {s : ByteArray} (h : s.size = 0) (n : Int) (k : Nat) (hk : okN n k) : s.data.toList ≠ textL n k := fun e => by
  have h1 := (text_len n k hk).1
  rw [← e] at h1
  have : s.data.toList.length = s.size := rfl
  omega
theorem no_long {s : ByteArray} (h : 17 < s.size) (n : Int) (k : Nat) (hk : okN n k) : s.data.toList ≠ textL n k := fun e => by
  have h1 := (text_len n k hk).2
  rw [← e] at h1
  have : s.data.toList.length = s.size := rfl
  omega

set_option maxHeartbeats 8000000 in
theorem parse_any (s : ByteArray) (w : World) (hT : Lib.TabIs Tryd.prog w "internal/strconv.uint64pow10" .u64 Lib.pow10Tab) (hM : MaxLen w) :
    Calls Tryd.prog 38 #[.string s] w (ParsePost s w) := by
  have TT := hide hT
  have MH := hide hM
  clear hT hM
  by_cases h0 : s.size = 0
  · have hs : s = ⟨#[]⟩ := bytes_eq (List.eq_nil_of_length_eq_zero (show s.data.toList.length = 0 from h0))
    have hN := hide (no_short h0)
    have hc : Hid (codeOf s = 4) := hide (by unfold codeOf; rw [if_pos h0])
    subst hs
    clear h0
    go_enter Tryd.func38, Tryd.ntmps38
    go_wp2_with fail
    exact bodyPost_ret (v := .tuple #[(.agg #[.int .i64 (0), .int .i64 (0)]), .int .i64 4]) (by simp [results, Tryd.results38, go_sem]) rfl ⟨.inr ⟨hN.out, by rw [hc.out]⟩, below1 _ _⟩
  by_cases h17 : 17 < s.size
  · have hN := hide (no_long h17)
    have hc : Hid (codeOf s = 5) := hide (by unfold codeOf; rw [if_neg h0, if_pos h17])
    have hne := nonempty_of h0
    clear h0
    go_enter Tryd.func38, Tryd.ntmps38
    go_wp2_with fail
    exact bodyPost_ret (v := .tuple #[(.agg #[.int .i64 (0), .int .i64 (0)]), .int .i64 5]) (by simp [results, Tryd.results38, go_sem]) rfl ⟨.inr ⟨hN.out, by rw [hc.out]⟩, below1 _ _⟩
  · have hc : Hid (codeOf s = 13) := hide (by unfold codeOf; rw [if_neg h0, if_neg h17])
    have hne := nonempty_of h0
    clear h0
    go_enter Tryd.func38, Tryd.ntmps38
    go_wp2_with fail
    refine (read_any s _ (MH.out.below (below1 _ _)) (by omega)).mono ?_
    rintro e w1 ⟨h, hb1⟩
    have r0 := new0 hb1
    have r1 := new1 hb1
    have hB : Below w.heap.size w w1 := below_new (Below.refl _ _) hb1
    obtain ⟨hc1, hf1⟩ := bcell hb1
    have f0 : w1.frozen? ⟨w.heap.size, 0, none⟩ = false := by rw [hf1 _ _ (by simp)]; simp [go_sem]
    have f1 : w1.frozen? ⟨w.heap.size, 1, none⟩ = false := by rw [hf1 _ _ (by simp)]; simp [go_sem]
    have l1 : w.heap.size < w1.heap.size := World.block_lt_of_cell? _ _ r0
    clear hc1 hf1 hb1
    rcases h with ⟨hok, rfl⟩ | ⟨hno, rfl⟩
    · obtain ⟨n, hn⟩ : ∃ n, n = rdInt s.data.toList := ⟨_, rfl⟩
      obtain ⟨k, hk⟩ : ∃ k, k = rdScale s.data.toList := ⟨_, rfl⟩
      rw [← hn, ← hk]
      have HN := hide hn
      have HK := hide hk
      clear hn hk hok
      by_cases hokn : okN n k
      · have HO := hide hokn
        clear hokn
        go_wp2_with fail
        refine (text_ok n k _ HO.out (tab_below TT.out (below_alloc hB _))).mono ?_
        rintro e w2 ⟨t, rfl, ht, hb2⟩
        have HT2 := hide ht
        have n0 := new0 hb2
        have n1 := new1 hb2
        replace r0 := lift1 hb2 r0
        replace r1 := lift1 hb2 r1
        obtain ⟨hc2, hf2⟩ := bcell hb2
        replace f0 : w2.frozen? ⟨w.heap.size, 0, none⟩ = false := by rw [hf2 _ _ (by simp; omega)]; simpa [go_sem, l1] using f0
        replace f1 : w2.frozen? ⟨w.heap.size, 1, none⟩ = false := by rw [hf2 _ _ (by simp; omega)]; simpa [go_sem, l1] using f1
        have hB2 : Below w.heap.size w w2 := below_new hB hb2
        have l2 : w.heap.size < w2.heap.size := World.block_lt_of_cell? _ _ r0
        clear ht hc2 hf2 hb2 hB
        by_cases hts : t = s
        · have hS := hide hts
          have hS2 : s = t := hts.symm
          clear hts
          subst hS2
          go_wp2_with fail
          exact bodyPost_ret (v := .tuple #[(.agg #[.int .i64 (n), .int .i64 ((k : Int))]), .int .i64 0]) (by simp [results, Tryd.results38, go_sem, r0, r1]) rfl ⟨.inl ⟨n, k, HO.out, HT2.out, rfl⟩, by repeat (first | exact hB2 | exact hB | refine below_set ?_ (by omega) _ | refine below_alloc ?_ _)⟩
        · have hN : Hid (∀ (n : Int) (k : Nat), okN n k → s.data.toList ≠ textL n k) := hide fun n' k' _ e => hts (bytes_eq (by
            obtain ⟨_, a, b⟩ := read_text n' k'
            rw [HT2.out, HN.out, HK.out, e, a, b]))
          have hq : (t.toList == s.toList) = false := by
            rw [beq_eq_false_iff_ne, ByteArray.toList_eq, ByteArray.toList_eq]
            exact fun e => hts (bytes_eq e)
          go_wp2_with fail
          exact bodyPost_ret (v := .tuple #[(.agg #[.int .i64 (0), .int .i64 (0)]), .int .i64 13]) (by simp [results, Tryd.results38, go_sem, r0, r1]) rfl ⟨.inr ⟨hN.out, by rw [hc.out]⟩, by repeat (first | exact hB2 | exact hB | refine below_set ?_ (by omega) _ | refine below_alloc ?_ _)⟩
      · have hN : Hid (∀ (n : Int) (k : Nat), okN n k → s.data.toList ≠ textL n k) := hide fun n' k' h e => hokn (by
          obtain ⟨_, a, b⟩ := read_text n' k'
          rw [HN.out, HK.out, e, a, b]; exact h)
        have HO := hide hokn
        clear hokn
        go_wp2_with fail
        refine (text_bad n k _ HO.out).mono ?_
        rintro e w2 ⟨rfl, hb2⟩
        replace r0 := lift1 hb2 r0
        replace r1 := lift1 hb2 r1
        obtain ⟨hc2, hf2⟩ := bcell hb2
        replace f0 : w2.frozen? ⟨w.heap.size, 0, none⟩ = false := by rw [hf2 _ _ (by simp; omega)]; simpa [go_sem, l1] using f0
        replace f1 : w2.frozen? ⟨w.heap.size, 1, none⟩ = false := by rw [hf2 _ _ (by simp; omega)]; simpa [go_sem, l1] using f1
        have hB2 : Below w.heap.size w w2 := below_new hB hb2
        have l2 : w.heap.size < w2.heap.size := World.block_lt_of_cell? _ _ r0
        clear hc2 hf2 hb2 hB
        go_wp2_with fail
        exact bodyPost_ret (v := .tuple #[(.agg #[.int .i64 (0), .int .i64 (0)]), .int .i64 13]) (by simp [results, Tryd.results38, go_sem, r0, r1]) rfl ⟨.inr ⟨hN.out, by rw [hc.out]⟩, by repeat (first | exact hB2 | exact hB | refine below_set ?_ (by omega) _ | refine below_alloc ?_ _)⟩
    · have hN : Hid (∀ (n : Int) (k : Nat), okN n k → s.data.toList ≠ textL n k) := hide fun n' k' _ e => hno (by rw [e]; exact (read_text n' k').1)
      clear hno
      have e0 : ∀ o, (((w1.setCell ⟨w.heap.size, 0, none⟩ (.int .i64 0)).setCell ⟨w.heap.size, 1, none⟩ (.int .i64 0)).alloc o).cell? ⟨w.heap.size, 0, none⟩ = some (.int .i64 0) := fun o => by
        rw [World.cell?_alloc_lt _ _ _ (by simpa using l1), World.cell?_setCell_other _ _ _ _ (by simp)]
        exact World.cell?_setCell_same _ _ _ r0
      have e1 : ∀ o, (((w1.setCell ⟨w.heap.size, 0, none⟩ (.int .i64 0)).setCell ⟨w.heap.size, 1, none⟩ (.int .i64 0)).alloc o).cell? ⟨w.heap.size, 1, none⟩ = some (.int .i64 0) := fun o => by
        rw [World.cell?_alloc_lt _ _ _ (by simpa using l1)]
        exact World.cell?_setCell_same (u := .int .i64 0) _ _ _ ((World.cell?_setCell_other _ _ _ _ (by simp)).trans r1)
      go_wp2_with fail
      exact bodyPost_ret (v := .tuple #[(.agg #[.int .i64 (0), .int .i64 (0)]), .int .i64 13]) (by simp [results, Tryd.results38, go_sem, e0, e1]) rfl ⟨.inr ⟨hN.out, by rw [hc.out]⟩, by repeat (first | exact hB2 | exact hB | refine below_set ?_ (by omega) _ | refine below_alloc ?_ _)⟩
end Go.Proofs.YtgppimdakafniaaDoor
