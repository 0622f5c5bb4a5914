/- The reference's integers as rows of digits: digit, trim, above. No condition but bounds. -/
import Derived.Test.YtgppimdakafniaaDoorDecA
import Derived.Test.YtgppimdakafniaaDoorDecMul
import Derived.Deep.RegionHeld3
import Derived.Deep.RegionWith
import Derived.Deep.DeepCutAuto
import Derived.Deep.OwnRows
import Derived.Laws.OwnMore
import Derived.OwnWalk
import Derived.Laws.MakeOwn
namespace Go.Proofs.YtgppimdakafniaaDoor
open Go Go.RowKit Go.PlainAid

/-- a slice that reads as the integers l, wherever it lies -/
def Row (w : World) (A : Option Addr) (l : List Int) : Prop :=
  0 < l.length → ∃ g off, A = some ⟨g, off, none⟩ ∧ g < w.heap.size ∧ ∀ i, i < l.length → w.cell? ⟨g, off + i, none⟩ = some (.int .i64 (dg l i))
theorem Row.below {w w' : World} {A : Option Addr} {l : List Int} (h : Row w A l) (hb : Below w.heap.size w w') : Row w' A l := fun hl => by
  obtain ⟨g, off, e, hg, hc⟩ := h hl
  exact ⟨g, off, e, Nat.lt_of_lt_of_le hg hb.size, fun i hi => (hb.cell (p := ⟨g, off + i, none⟩) hg).trans (hc i hi)⟩
theorem Row.nil (w : World) (A : Option Addr) : Row w A [] := fun h => absurd h (by simp)
theorem Row.take {w : World} {A : Option Addr} {l : List Int} (h : Row w A l) (k : Nat) : Row w A (l.take k) := fun hl => by
  rw [List.length_take] at hl
  obtain ⟨g, off, e, hg, hc⟩ := h (by omega)
  refine ⟨g, off, e, hg, fun i hi => ?_⟩
  rw [List.length_take] at hi
  rw [hc i (by omega)]
  simp [dg, List.getD, show i < k by omega]
theorem Row.of_own {w : World} {base n : Nat} {v : Value} {l : List Int} (h : w.ownsRow base 3 1 v n (l.map (Value.int .i64))) : ∃ A c, v = .slice A l.length c ∧ l.length ≤ c ∧ c ≤ maxLen ∧ Row w A l := by
  have hl : l.length = n := by have := h.1; simpa using this
  rcases h.2 with ⟨rfl, rfl⟩ | ⟨g, cap, cur, rfl, _, hh, h1, h2, _, _⟩
  · have : l = [] := List.eq_nil_of_length_eq_zero hl
    subst this
    exact ⟨none, 0, rfl, Nat.le_refl _, Nat.zero_le _, Row.nil _ _⟩
  · refine ⟨_, cap, by rw [hl], by omega, h2, fun _ => ⟨g, 0, rfl, ?_, fun i hi => ?_⟩⟩
    · rcases Nat.lt_or_ge g w.heap.size with hlt | hge
      · exact hlt
      · rw [Array.getElem?_eq_none hge] at hh; cases hh
    · rw [Nat.zero_add, h.cellAt i (by omega)]
      simp [dg, List.getD, hi]

set_option maxHeartbeats 1000000 in
theorem digit_any (s : Int) (A : Option Addr) (c : Nat) (l : List Int) (x : Int) (w : World) (hr : Row w A l) (h0 : 0 ≤ x) (hx : x ≤ 1000000000) (hl : l.length ≤ 1000000000) :
    Calls Tryd.prog 56 #[.agg #[.int .i64 s, .slice A l.length c], .int .i64 x] w fun e w' => e = .returned (.int .i64 (dg l x.toNat)) ∧ Below w.heap.size w w' := by
  obtain ⟨i, rfl⟩ : ∃ i : Nat, x = i := ⟨x.toNat, by omega⟩
  rw [Int.toNat_natCast]
  by_cases hi : i < l.length
  · obtain ⟨g, off, rfl, hg, hc⟩ := hr (by omega)
    have hcell := hc i hi
    clear hc hr
    generalize dg l i = d at *
    go_enter Tryd.func56, Tryd.ntmps56
    go_wp2
    go_ret
    exact ⟨rfl, below1 _ _⟩
  · rw [dg_out (by omega)]
    have q : decide ((i : Int) < (l.length : Int)) = false := by simp; omega
    have q' : decide (i < l.length) = false := by simp; omega
    clear hr
    go_enter Tryd.func56, Tryd.ntmps56
    go_wp2
    go_ret
    exact ⟨rfl, below1 _ _⟩

/-- what trim comes to -/
def TrimPost (s : Int) (A : Option Addr) (c : Nat) (l : List Int) (w : World) (e : Ending) (w' : World) : Prop :=
  ∃ k : Nat, k ≤ l.length ∧ (∀ i, k ≤ i → i < l.length → dg l i = 0) ∧ (k = 0 ∨ dg l (k - 1) ≠ 0) ∧ e = .returned (.agg #[.int .i64 (if k = 0 then 0 else s), .slice A k c]) ∧ Below w.heap.size w w'
set_option maxHeartbeats 4000000 in
theorem trim_any (s : Int) (A : Option Addr) (c : Nat) (l : List Int) (w : World) (hr : Row w A l) (hl : l.length ≤ c) (hc : c ≤ maxLen) :
    Calls Tryd.prog 57 #[.agg #[.int .i64 s, .slice A l.length c]] w (TrimPost s A c l w) := by
  unfold maxLen at hc
  have RH := hide hr
  clear hr
  go_enter Tryd.func57, Tryd.ntmps57
  go_wp2_with fail
  go_loop [3] (fun n => ∃ k : Nat, k ≤ l.length ∧ n = .int .i64 k ∧ Hid (∀ i, k ≤ i → i < l.length → dg l i = 0)) (fun n => (intOf n).toNat)
  case atStart => exact ⟨l.length, Nat.le_refl _, rfl, fun i a b => by omega⟩
  case round =>
    obtain ⟨k, hk, rfl, hz⟩ := hrel
    by_cases h0 : k = 0
    · subst h0
      go_wp2_with fail
      exact bodyPost_ret (v := .agg #[.int .i64 0, .slice A 0 c]) (by simp [results, Tryd.results57, go_sem]) rfl ⟨0, Nat.zero_le _, hz.out, .inl rfl, by simp, below2 _ _ _⟩
    · obtain ⟨m, rfl⟩ : ∃ m, k = m + 1 := ⟨k - 1, by omega⟩
      clear h0
      obtain ⟨g, off, hA, hg, hcl⟩ := RH.out (by omega)
      have hcell := hcl m (by omega)
      clear hcl
      subst hA
      by_cases hd : dg l m = 0
      · have HD := hide hd
        rw [hd] at hcell
        clear hd
        go_wp2_with fail
        go_round
        case rel => exact ⟨m, by omega, by go_num, fun i a b => by
            by_cases e : i = m
            · subst e; exact HD.out
            · exact hz.out i (by omega) b⟩
        case measure => simp [intOf]
      · have q1 : (dg l m == 0) = false := by simpa using hd
        have HD := hide hd
        clear hd
        go_wp2_with fail
        exact bodyPost_ret (v := .agg #[.int .i64 s, .slice (some ⟨g, off, none⟩) (m + 1) c]) (by simp [results, Tryd.results57, go_sem]) rfl ⟨m + 1, hk, hz.out, .inr HD.out, by simp, below2 _ _ _⟩

/-- four cells of a world, kept -/
theorem keep4 {W X : World} {a0 a1 b0 b1 : Addr} {v0 v1 u0 u1 : Value} (h : Below W.heap.size W X) (l0 : a0.block < W.heap.size) (c0 : W.cell? a0 = some v0) (l1 : a1.block < W.heap.size) (c1 : W.cell? a1 = some v1) (m0 : b0.block < W.heap.size) (d0 : W.cell? b0 = some u0) (m1 : b1.block < W.heap.size) (d1 : W.cell? b1 = some u1) :
    X.cell? a0 = some v0 ∧ X.cell? a1 = some v1 ∧ X.cell? b0 = some u0 ∧ X.cell? b1 = some u1 ∧ Below W.heap.size W X :=
  ⟨(h.cell l0).trans c0, (h.cell l1).trans c1, (h.cell m0).trans d0, (h.cell m1).trans d1, h⟩

set_option maxHeartbeats 8000000 in
theorem above_any (sa sb : Int) (A B : Option Addr) (ca cb : Nat) (la lb : List Int) (w : World) (ha : Row w A la) (hb : Row w B lb) (la' : la.length ≤ 1000000) (lb' : lb.length ≤ 1000000)
    (ra : ∀ d ∈ la, 0 ≤ d ∧ d ≤ 9) (rb : ∀ d ∈ lb, 0 ≤ d ∧ d ≤ 9) :
    Calls Tryd.prog 55 #[.agg #[.int .i64 sa, .slice A la.length ca], .agg #[.int .i64 sb, .slice B lb.length cb]] w fun e w' => e = .returned (.int .i64 (sgn (V (dg la) la.length - V (dg lb) lb.length))) ∧ Below w.heap.size w w' := by
  obtain ⟨n, hn⟩ : ∃ n, n = max la.length lb.length := ⟨_, rfl⟩
  have hm : ((n : Nat) : Int) = max (la.length : Int) (lb.length : Int) := by omega
  have ea : V (dg la) la.length = V (dg la) n := (V_ext (by omega) fun i a _ => dg_out a).symm
  have eb : V (dg lb) lb.length = V (dg lb) n := (V_ext (by omega) fun i a _ => dg_out a).symm
  have hn' : n ≤ 1000000 := by omega
  rw [ea, eb]
  have M := hide hm
  have RA := hide ha
  have RB := hide hb
  have QA := hide ra
  have QB := hide rb
  clear hm ea eb hn ha hb ra rb
  go_enter Tryd.func55, Tryd.ntmps55
  go_wp2_with fail
  rw [← M.out]
  go_loopw [5] (fun i wr => ∃ x : Int, -1 ≤ x ∧ x < n ∧ i = .int .i64 x ∧ Hid (∀ j : Nat, x < j → j < n → dg la j = dg lb j) ∧ Below (((w.alloc (.cells #[.int .i64 sa, .slice A la.length ca] 42)).alloc (.cells #[.int .i64 sb, .slice B lb.length cb] 42)).heap.size) ((w.alloc (.cells #[.int .i64 sa, .slice A la.length ca] 42)).alloc (.cells #[.int .i64 sb, .slice B lb.length cb] 42)) wr) (fun i _ => (intOf i + 1).toNat)
  case atStart => exact ⟨_, by omega, by omega, rfl, fun j a b => by omega, Below.refl _ _⟩
  case round =>
    obtain ⟨x, hx, hxn, rfl, he, hB⟩ := hrel
    have hW : Below w.heap.size w wr := below_step (below2 _ _ _) hB
    have y0 : w.heap.size < wr.heap.size := by have := hB.size; simp at this; omega
    have y1 : w.heap.size + 1 < wr.heap.size := by have := hB.size; simp at this; omega
    have a0 : wr.cell? ⟨w.heap.size, 0, none⟩ = some (.int .i64 sa) := (hB.cell (p := ⟨w.heap.size, 0, none⟩) (lt2a _ _ _)).trans (two0 _ _ _ _ _)
    have a1 : wr.cell? ⟨w.heap.size, 1, none⟩ = some (.slice A la.length ca) := (hB.cell (p := ⟨w.heap.size, 1, none⟩) (lt2a _ _ _)).trans (two1 _ _ _ _ _)
    have b0 : wr.cell? ⟨w.heap.size + 1, 0, none⟩ = some (.int .i64 sb) := (hB.cell (p := ⟨w.heap.size + 1, 0, none⟩) (lt2b _ _ _)).trans (by simp [go_sem])
    have b1 : wr.cell? ⟨w.heap.size + 1, 1, none⟩ = some (.slice B lb.length cb) := (hB.cell (p := ⟨w.heap.size + 1, 1, none⟩) (lt2b _ _ _)).trans (by simp [go_sem])
    by_cases hx0 : 0 ≤ x
    · obtain ⟨d1, e1⟩ : ∃ d, d = dg la x.toNat := ⟨_, rfl⟩
      obtain ⟨d2, e2⟩ : ∃ d, d = dg lb x.toNat := ⟨_, rfl⟩
      have D1 := hide e1
      have D2 := hide e2
      have CA : Hid (∀ W, Row W A la → Calls Tryd.prog 56 #[.agg #[.int .i64 sa, .slice A la.length ca], .int .i64 x] W fun e w' => e = .returned (.int .i64 d1) ∧ Below W.heap.size W w') := hide fun W h => e1 ▸ digit_any sa A ca la x W h hx0 (by omega) (by omega)
      have CB : Hid (∀ W, Row W B lb → Calls Tryd.prog 56 #[.agg #[.int .i64 sb, .slice B lb.length cb], .int .i64 x] W fun e w' => e = .returned (.int .i64 d2) ∧ Below W.heap.size W w') := hide fun W h => e2 ▸ digit_any sb B cb lb x W h hx0 (by omega) (by omega)
      clear e1 e2
      rcases Int.lt_trichotomy d1 d2 with hd | hd | hd
      · go_wp2_with fail
        go_region_held3 (fun w' => w'.cell? ⟨w.heap.size, 0, none⟩ = some (.int .i64 sa) ∧ w'.cell? ⟨w.heap.size, 1, none⟩ = some (.slice A la.length ca) ∧ w'.cell? ⟨w.heap.size + 1, 0, none⟩ = some (.int .i64 sb) ∧ w'.cell? ⟨w.heap.size + 1, 1, none⟩ = some (.slice B lb.length cb) ∧ Below wr.heap.size wr w')
          ((refine keep4 ?_ y0 a0 y0 a1 y1 b0 y1 b1; repeat (first | (refine below_set ?_ ?hsz _; case hsz => (first | omega | (simp; done) | (simp; omega) | (have hs0 := hb.size; simp at hs0 ⊢; omega) | (have hs1 := hb1.size; simp at hs1 ⊢; omega) | (have hs1 := hb1.size; have hs2 := hb2.size; simp at hs1 hs2 ⊢; omega))) | exact Below.refl _ _ | refine below_alloc ?_ _ | refine below_drew ?_ | refine below_drewn ?_ _ | refine below_step ?_ hb | refine below_step ?_ hb0 | refine below_step ?_ hb1 | refine below_step ?_ hb2 | refine below_step ?_ hb3 | refine below_step ?_ hb4 | refine below_step ?_ hb5 | refine below_step ?_ hb6 | refine below_step ?_ hb7)))
          (first
            | (go_at_call 56; (with_reducible refine (CA.out _ ?_).mono ?_); (exact RA.out.below (below_step hW (by repeat (first | (refine below_set ?_ ?hsz _; case hsz => (first | omega | (simp; done) | (simp; omega) | (have hs0 := hb.size; simp at hs0 ⊢; omega) | (have hs1 := hb1.size; simp at hs1 ⊢; omega) | (have hs1 := hb1.size; have hs2 := hb2.size; simp at hs1 hs2 ⊢; omega))) | exact Below.refl _ _ | refine below_alloc ?_ _ | refine below_drew ?_ | refine below_drewn ?_ _ | refine below_step ?_ hb | refine below_step ?_ hb0 | refine below_step ?_ hb1 | refine below_step ?_ hb2 | refine below_step ?_ hb3 | refine below_step ?_ hb4 | refine below_step ?_ hb5 | refine below_step ?_ hb6 | refine below_step ?_ hb7)))); rintro e w2 ⟨rfl, hb2⟩)
            | (go_at_call 56; (with_reducible refine (CB.out _ ?_).mono ?_); (exact RB.out.below (below_step hW (by repeat (first | (refine below_set ?_ ?hsz _; case hsz => (first | omega | (simp; done) | (simp; omega) | (have hs0 := hb.size; simp at hs0 ⊢; omega) | (have hs1 := hb1.size; simp at hs1 ⊢; omega) | (have hs1 := hb1.size; have hs2 := hb2.size; simp at hs1 hs2 ⊢; omega))) | exact Below.refl _ _ | refine below_alloc ?_ _ | refine below_drew ?_ | refine below_drewn ?_ _ | refine below_step ?_ hb | refine below_step ?_ hb0 | refine below_step ?_ hb1 | refine below_step ?_ hb2 | refine below_step ?_ hb3 | refine below_step ?_ hb4 | refine below_step ?_ hb5 | refine below_step ?_ hb6 | refine below_step ?_ hb7)))); rintro e w3 ⟨rfl, hb3⟩))
        all_goals (
          go_wp2_with fail
          go_ret
          refine ⟨ret_int ?_, below_step hW (by repeat (first | (refine below_set ?_ ?hsz _; case hsz => (first | omega | (simp; done) | (simp; omega) | (have hs0 := hb.size; simp at hs0 ⊢; omega) | (have hs1 := hb1.size; simp at hs1 ⊢; omega) | (have hs1 := hb1.size; have hs2 := hb2.size; simp at hs1 hs2 ⊢; omega))) | exact Below.refl _ _ | refine below_alloc ?_ _ | refine below_drew ?_ | refine below_drewn ?_ _ | refine below_step ?_ hb | refine below_step ?_ hb0 | refine below_step ?_ hb1 | refine below_step ?_ hb2 | refine below_step ?_ hb3 | refine below_step ?_ hb4 | refine below_step ?_ hb5 | refine below_step ?_ hb6 | refine below_step ?_ hb7))⟩
          have := V_lt (f := dg la) (g := dg lb) (n := n) (k := x.toNat) (by omega) (fun i _ => dg_range QA.out i) (fun i _ => dg_range QB.out i) (fun i a b => he.out i (by omega) b) (by rw [← D1.out, ← D2.out]; exact hd)
          exact (sgn_of_neg (by omega)).symm)
      · subst hd
        go_wp2_with fail
        go_region_held3 (fun w' => w'.cell? ⟨w.heap.size, 0, none⟩ = some (.int .i64 sa) ∧ w'.cell? ⟨w.heap.size, 1, none⟩ = some (.slice A la.length ca) ∧ w'.cell? ⟨w.heap.size + 1, 0, none⟩ = some (.int .i64 sb) ∧ w'.cell? ⟨w.heap.size + 1, 1, none⟩ = some (.slice B lb.length cb) ∧ Below wr.heap.size wr w')
          ((refine keep4 ?_ y0 a0 y0 a1 y1 b0 y1 b1; repeat (first | (refine below_set ?_ ?hsz _; case hsz => (first | omega | (simp; done) | (simp; omega) | (have hs0 := hb.size; simp at hs0 ⊢; omega) | (have hs1 := hb1.size; simp at hs1 ⊢; omega) | (have hs1 := hb1.size; have hs2 := hb2.size; simp at hs1 hs2 ⊢; omega))) | exact Below.refl _ _ | refine below_alloc ?_ _ | refine below_drew ?_ | refine below_drewn ?_ _ | refine below_step ?_ hb | refine below_step ?_ hb0 | refine below_step ?_ hb1 | refine below_step ?_ hb2 | refine below_step ?_ hb3 | refine below_step ?_ hb4 | refine below_step ?_ hb5 | refine below_step ?_ hb6 | refine below_step ?_ hb7)))
          (first
            | (go_at_call 56; (with_reducible refine (CA.out _ ?_).mono ?_); (exact RA.out.below (below_step hW (by repeat (first | (refine below_set ?_ ?hsz _; case hsz => (first | omega | (simp; done) | (simp; omega) | (have hs0 := hb.size; simp at hs0 ⊢; omega) | (have hs1 := hb1.size; simp at hs1 ⊢; omega) | (have hs1 := hb1.size; have hs2 := hb2.size; simp at hs1 hs2 ⊢; omega))) | exact Below.refl _ _ | refine below_alloc ?_ _ | refine below_drew ?_ | refine below_drewn ?_ _ | refine below_step ?_ hb | refine below_step ?_ hb0 | refine below_step ?_ hb1 | refine below_step ?_ hb2 | refine below_step ?_ hb3 | refine below_step ?_ hb4 | refine below_step ?_ hb5 | refine below_step ?_ hb6 | refine below_step ?_ hb7)))); rintro e w2 ⟨rfl, hb2⟩)
            | (go_at_call 56; (with_reducible refine (CB.out _ ?_).mono ?_); (exact RB.out.below (below_step hW (by repeat (first | (refine below_set ?_ ?hsz _; case hsz => (first | omega | (simp; done) | (simp; omega) | (have hs0 := hb.size; simp at hs0 ⊢; omega) | (have hs1 := hb1.size; simp at hs1 ⊢; omega) | (have hs1 := hb1.size; have hs2 := hb2.size; simp at hs1 hs2 ⊢; omega))) | exact Below.refl _ _ | refine below_alloc ?_ _ | refine below_drew ?_ | refine below_drewn ?_ _ | refine below_step ?_ hb | refine below_step ?_ hb0 | refine below_step ?_ hb1 | refine below_step ?_ hb2 | refine below_step ?_ hb3 | refine below_step ?_ hb4 | refine below_step ?_ hb5 | refine below_step ?_ hb6 | refine below_step ?_ hb7)))); rintro e w3 ⟨rfl, hb3⟩))
        go_wp2_with fail
        go_region_held3 (fun w' => w'.cell? ⟨w.heap.size, 0, none⟩ = some (.int .i64 sa) ∧ w'.cell? ⟨w.heap.size, 1, none⟩ = some (.slice A la.length ca) ∧ w'.cell? ⟨w.heap.size + 1, 0, none⟩ = some (.int .i64 sb) ∧ w'.cell? ⟨w.heap.size + 1, 1, none⟩ = some (.slice B lb.length cb) ∧ Below wr.heap.size wr w')
          ((refine keep4 ?_ y0 a0 y0 a1 y1 b0 y1 b1; repeat (first | (refine below_set ?_ ?hsz _; case hsz => (first | omega | (simp; done) | (simp; omega) | (have hs0 := hb.size; simp at hs0 ⊢; omega) | (have hs1 := hb1.size; simp at hs1 ⊢; omega) | (have hs1 := hb1.size; have hs2 := hb2.size; simp at hs1 hs2 ⊢; omega))) | exact Below.refl _ _ | refine below_alloc ?_ _ | refine below_drew ?_ | refine below_drewn ?_ _ | refine below_step ?_ hb | refine below_step ?_ hb0 | refine below_step ?_ hb1 | refine below_step ?_ hb2 | refine below_step ?_ hb3 | refine below_step ?_ hb4 | refine below_step ?_ hb5 | refine below_step ?_ hb6 | refine below_step ?_ hb7)))
          (first
            | (go_at_call 56; (with_reducible refine (CA.out _ ?_).mono ?_); (exact RA.out.below (below_step hW (by repeat (first | (refine below_set ?_ ?hsz _; case hsz => (first | omega | (simp; done) | (simp; omega) | (have hs0 := hb.size; simp at hs0 ⊢; omega) | (have hs1 := hb1.size; simp at hs1 ⊢; omega) | (have hs1 := hb1.size; have hs2 := hb2.size; simp at hs1 hs2 ⊢; omega))) | exact Below.refl _ _ | refine below_alloc ?_ _ | refine below_drew ?_ | refine below_drewn ?_ _ | refine below_step ?_ hb | refine below_step ?_ hb0 | refine below_step ?_ hb1 | refine below_step ?_ hb2 | refine below_step ?_ hb3 | refine below_step ?_ hb4 | refine below_step ?_ hb5 | refine below_step ?_ hb6 | refine below_step ?_ hb7)))); rintro e w4 ⟨rfl, hb4⟩)
            | (go_at_call 56; (with_reducible refine (CB.out _ ?_).mono ?_); (exact RB.out.below (below_step hW (by repeat (first | (refine below_set ?_ ?hsz _; case hsz => (first | omega | (simp; done) | (simp; omega) | (have hs0 := hb.size; simp at hs0 ⊢; omega) | (have hs1 := hb1.size; simp at hs1 ⊢; omega) | (have hs1 := hb1.size; have hs2 := hb2.size; simp at hs1 hs2 ⊢; omega))) | exact Below.refl _ _ | refine below_alloc ?_ _ | refine below_drew ?_ | refine below_drewn ?_ _ | refine below_step ?_ hb | refine below_step ?_ hb0 | refine below_step ?_ hb1 | refine below_step ?_ hb2 | refine below_step ?_ hb3 | refine below_step ?_ hb4 | refine below_step ?_ hb5 | refine below_step ?_ hb6 | refine below_step ?_ hb7)))); rintro e w5 ⟨rfl, hb5⟩))
        all_goals (
          go_wp2_with fail
          go_roundw
          case rel => exact ⟨x - 1, by omega, by omega, rfl, fun j a b => by
              by_cases e : (j : Int) = x
              · have : j = x.toNat := by omega
                rw [this, ← D1.out, ← D2.out]
              · exact he.out j (by omega) b, below_step hB (by repeat (first | (refine below_set ?_ ?hsz _; case hsz => (first | omega | (simp; done) | (simp; omega) | (have hs0 := hb.size; simp at hs0 ⊢; omega) | (have hs1 := hb1.size; simp at hs1 ⊢; omega) | (have hs1 := hb1.size; have hs2 := hb2.size; simp at hs1 hs2 ⊢; omega))) | exact Below.refl _ _ | refine below_alloc ?_ _ | refine below_drew ?_ | refine below_drewn ?_ _ | refine below_step ?_ hb | refine below_step ?_ hb0 | refine below_step ?_ hb1 | refine below_step ?_ hb2 | refine below_step ?_ hb3 | refine below_step ?_ hb4 | refine below_step ?_ hb5 | refine below_step ?_ hb6 | refine below_step ?_ hb7))⟩
          case measure => simp [intOf]; omega)
      · go_wp2_with fail
        go_region_held3 (fun w' => w'.cell? ⟨w.heap.size, 0, none⟩ = some (.int .i64 sa) ∧ w'.cell? ⟨w.heap.size, 1, none⟩ = some (.slice A la.length ca) ∧ w'.cell? ⟨w.heap.size + 1, 0, none⟩ = some (.int .i64 sb) ∧ w'.cell? ⟨w.heap.size + 1, 1, none⟩ = some (.slice B lb.length cb) ∧ Below wr.heap.size wr w')
          ((refine keep4 ?_ y0 a0 y0 a1 y1 b0 y1 b1; repeat (first | (refine below_set ?_ ?hsz _; case hsz => (first | omega | (simp; done) | (simp; omega) | (have hs0 := hb.size; simp at hs0 ⊢; omega) | (have hs1 := hb1.size; simp at hs1 ⊢; omega) | (have hs1 := hb1.size; have hs2 := hb2.size; simp at hs1 hs2 ⊢; omega))) | exact Below.refl _ _ | refine below_alloc ?_ _ | refine below_drew ?_ | refine below_drewn ?_ _ | refine below_step ?_ hb | refine below_step ?_ hb0 | refine below_step ?_ hb1 | refine below_step ?_ hb2 | refine below_step ?_ hb3 | refine below_step ?_ hb4 | refine below_step ?_ hb5 | refine below_step ?_ hb6 | refine below_step ?_ hb7)))
          (first
            | (go_at_call 56; (with_reducible refine (CA.out _ ?_).mono ?_); (exact RA.out.below (below_step hW (by repeat (first | (refine below_set ?_ ?hsz _; case hsz => (first | omega | (simp; done) | (simp; omega) | (have hs0 := hb.size; simp at hs0 ⊢; omega) | (have hs1 := hb1.size; simp at hs1 ⊢; omega) | (have hs1 := hb1.size; have hs2 := hb2.size; simp at hs1 hs2 ⊢; omega))) | exact Below.refl _ _ | refine below_alloc ?_ _ | refine below_drew ?_ | refine below_drewn ?_ _ | refine below_step ?_ hb | refine below_step ?_ hb0 | refine below_step ?_ hb1 | refine below_step ?_ hb2 | refine below_step ?_ hb3 | refine below_step ?_ hb4 | refine below_step ?_ hb5 | refine below_step ?_ hb6 | refine below_step ?_ hb7)))); rintro e w2 ⟨rfl, hb2⟩)
            | (go_at_call 56; (with_reducible refine (CB.out _ ?_).mono ?_); (exact RB.out.below (below_step hW (by repeat (first | (refine below_set ?_ ?hsz _; case hsz => (first | omega | (simp; done) | (simp; omega) | (have hs0 := hb.size; simp at hs0 ⊢; omega) | (have hs1 := hb1.size; simp at hs1 ⊢; omega) | (have hs1 := hb1.size; have hs2 := hb2.size; simp at hs1 hs2 ⊢; omega))) | exact Below.refl _ _ | refine below_alloc ?_ _ | refine below_drew ?_ | refine below_drewn ?_ _ | refine below_step ?_ hb | refine below_step ?_ hb0 | refine below_step ?_ hb1 | refine below_step ?_ hb2 | refine below_step ?_ hb3 | refine below_step ?_ hb4 | refine below_step ?_ hb5 | refine below_step ?_ hb6 | refine below_step ?_ hb7)))); rintro e w3 ⟨rfl, hb3⟩))
        go_wp2_with fail
        go_region_held3 (fun w' => w'.cell? ⟨w.heap.size, 0, none⟩ = some (.int .i64 sa) ∧ w'.cell? ⟨w.heap.size, 1, none⟩ = some (.slice A la.length ca) ∧ w'.cell? ⟨w.heap.size + 1, 0, none⟩ = some (.int .i64 sb) ∧ w'.cell? ⟨w.heap.size + 1, 1, none⟩ = some (.slice B lb.length cb) ∧ Below wr.heap.size wr w')
          ((refine keep4 ?_ y0 a0 y0 a1 y1 b0 y1 b1; repeat (first | (refine below_set ?_ ?hsz _; case hsz => (first | omega | (simp; done) | (simp; omega) | (have hs0 := hb.size; simp at hs0 ⊢; omega) | (have hs1 := hb1.size; simp at hs1 ⊢; omega) | (have hs1 := hb1.size; have hs2 := hb2.size; simp at hs1 hs2 ⊢; omega))) | exact Below.refl _ _ | refine below_alloc ?_ _ | refine below_drew ?_ | refine below_drewn ?_ _ | refine below_step ?_ hb | refine below_step ?_ hb0 | refine below_step ?_ hb1 | refine below_step ?_ hb2 | refine below_step ?_ hb3 | refine below_step ?_ hb4 | refine below_step ?_ hb5 | refine below_step ?_ hb6 | refine below_step ?_ hb7)))
          (first
            | (go_at_call 56; (with_reducible refine (CA.out _ ?_).mono ?_); (exact RA.out.below (below_step hW (by repeat (first | (refine below_set ?_ ?hsz _; case hsz => (first | omega | (simp; done) | (simp; omega) | (have hs0 := hb.size; simp at hs0 ⊢; omega) | (have hs1 := hb1.size; simp at hs1 ⊢; omega) | (have hs1 := hb1.size; have hs2 := hb2.size; simp at hs1 hs2 ⊢; omega))) | exact Below.refl _ _ | refine below_alloc ?_ _ | refine below_drew ?_ | refine below_drewn ?_ _ | refine below_step ?_ hb | refine below_step ?_ hb0 | refine below_step ?_ hb1 | refine below_step ?_ hb2 | refine below_step ?_ hb3 | refine below_step ?_ hb4 | refine below_step ?_ hb5 | refine below_step ?_ hb6 | refine below_step ?_ hb7)))); rintro e w4 ⟨rfl, hb4⟩)
            | (go_at_call 56; (with_reducible refine (CB.out _ ?_).mono ?_); (exact RB.out.below (below_step hW (by repeat (first | (refine below_set ?_ ?hsz _; case hsz => (first | omega | (simp; done) | (simp; omega) | (have hs0 := hb.size; simp at hs0 ⊢; omega) | (have hs1 := hb1.size; simp at hs1 ⊢; omega) | (have hs1 := hb1.size; have hs2 := hb2.size; simp at hs1 hs2 ⊢; omega))) | exact Below.refl _ _ | refine below_alloc ?_ _ | refine below_drew ?_ | refine below_drewn ?_ _ | refine below_step ?_ hb | refine below_step ?_ hb0 | refine below_step ?_ hb1 | refine below_step ?_ hb2 | refine below_step ?_ hb3 | refine below_step ?_ hb4 | refine below_step ?_ hb5 | refine below_step ?_ hb6 | refine below_step ?_ hb7)))); rintro e w5 ⟨rfl, hb5⟩))
        all_goals (
          go_wp2_with fail
          go_ret
          refine ⟨ret_int ?_, below_step hW (by repeat (first | (refine below_set ?_ ?hsz _; case hsz => (first | omega | (simp; done) | (simp; omega) | (have hs0 := hb.size; simp at hs0 ⊢; omega) | (have hs1 := hb1.size; simp at hs1 ⊢; omega) | (have hs1 := hb1.size; have hs2 := hb2.size; simp at hs1 hs2 ⊢; omega))) | exact Below.refl _ _ | refine below_alloc ?_ _ | refine below_drew ?_ | refine below_drewn ?_ _ | refine below_step ?_ hb | refine below_step ?_ hb0 | refine below_step ?_ hb1 | refine below_step ?_ hb2 | refine below_step ?_ hb3 | refine below_step ?_ hb4 | refine below_step ?_ hb5 | refine below_step ?_ hb6 | refine below_step ?_ hb7))⟩
          have := V_lt (f := dg lb) (g := dg la) (n := n) (k := x.toNat) (by omega) (fun i _ => dg_range QB.out i) (fun i _ => dg_range QA.out i) (fun i a b => (he.out i (by omega) b).symm) (by rw [← D1.out, ← D2.out]; exact hd)
          exact (sgn_pos (by omega)).symm)
    · obtain rfl : x = -1 := by omega
      clear hx0
      go_wp2_with fail
      go_ret
      refine ⟨ret_int ?_, hW⟩
      rw [V_congr (f := dg la) (g := dg lb) fun i hi => he.out i (by omega) hi, Int.sub_self]
      rfl
end Go.Proofs.YtgppimdakafniaaDoor
