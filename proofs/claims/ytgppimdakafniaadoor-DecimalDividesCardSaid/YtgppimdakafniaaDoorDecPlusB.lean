/- The reference's Plus, its loop. Condition: bounds on the lengths. -/
import Derived.Test.YtgppimdakafniaaDoorDecPlusA
namespace Go.Proofs.YtgppimdakafniaaDoor
open Go Go.RowKit Go.PlainAid
theorem holds_new1 (w : World) (o : Obj) (cs : Array Value) (T : TypeId) : Holds ((w.alloc o).alloc (.cells cs T)) (w.heap.size + 1) T cs := by
  have := heap_alloc_new (w.alloc o) (.cells cs T); unfold Holds; simpa using this
theorem holds_new2 (w : World) (o p : Obj) (cs : Array Value) (T : TypeId) : Holds (((w.alloc o).alloc p).alloc (.cells cs T)) (w.heap.size + 2) T cs := by
  have := heap_alloc_new ((w.alloc o).alloc p) (.cells cs T); unfold Holds; simpa using this
theorem holds_new3 (w : World) (o p q : Obj) (cs : Array Value) (T : TypeId) : Holds ((((w.alloc o).alloc p).alloc q).alloc (.cells cs T)) (w.heap.size + 1 + 1 + 1) T cs := by
  have := heap_alloc_new (((w.alloc o).alloc p).alloc q) (.cells cs T); unfold Holds; simpa using this
/-- what Plus's loop comes to -/
def PlusPost (la lb : List Int) (sx s : Int) (w : World) (e : Ending) (w' : World) : Prop :=
  ∃ (k : Nat) (l : List Int) (c : Int) (A : Option Addr) (m : Nat), e = .returned (.agg #[.int .i64 (if k = 0 then 0 else sx), .slice A k m]) ∧ Carry la lb s l c (max la.length lb.length + 1) ∧ k ≤ l.length ∧ (∀ i, k ≤ i → i < l.length → dg l i = 0) ∧ (k = 0 ∨ dg l (k - 1) ≠ 0) ∧ k ≤ m ∧ m ≤ maxLen ∧ Row w' A (l.take k) ∧ (∀ x, A = some x → w.heap.size ≤ x.block) ∧ Below w.heap.size w w'

set_option maxRecDepth 100000 in
set_option maxHeartbeats 16000000 in
theorem plus_pp (la lb : List Int) (A B : Option Addr) (ca cb : Nat) (w : World) (ha : Row w A la) (hb : Row w B lb) (la' : la.length ≤ 1000) (lb' : lb.length ≤ 1000) (ra : ∀ d ∈ la, 0 ≤ d ∧ d ≤ 9) (rb : ∀ d ∈ lb, 0 ≤ d ∧ d ≤ 9) :
    Calls Tryd.prog 30 #[.agg #[.int .i64 1, .slice A la.length ca], .agg #[.int .i64 1, .slice B lb.length cb]] w (PlusPost la lb 1 1 w) := by
  have RA := hide ha
  have RB := hide hb
  have QA := hide ra
  have QB := hide rb
  obtain ⟨n, hn⟩ : ∃ n, n = max la.length lb.length + 1 := ⟨_, rfl⟩
  have hm : Hid (((n : Nat) : Int) = max (la.length : Int) (lb.length : Int) + 1) := by unfold Hid; omega
  have N := hide hn
  have hn2 : n ≤ 1001 := by omega
  clear ha hb ra rb hn
  go_enter Tryd.func30, Tryd.ntmps30
  go_wp2_with fail
  have hs0 : Adding w ((((w.alloc (.cells #[.int .i64 1, .slice A la.length ca] 42)).alloc (.cells #[.int .i64 1, .slice B lb.length cb] 42)).alloc (.cells #[.int .i64 0, .slice none 0 0] 42)).alloc (.cells #[.int .i64 1, .slice none 0 0] 42)) (w.heap.size + 1 + 1 + 1) #[.int .i64 1, .slice A la.length ca] #[.int .i64 1, .slice B lb.length cb] 1 (.slice none 0 0) [] :=
    ⟨by omega, Holds.alloc (Holds.alloc (Holds.alloc (show Holds _ _ _ _ from heap_alloc_new w _) _) _) _, Holds.alloc (Holds.alloc (holds_new1 w _ _ _) _) _, Holds.alloc (holds_new2 w _ _ _ _) _, holds_new3 w _ _ _ _ _, World.ownsRow_nil _ _ _ _, below_alloc (below_alloc (below2 _ _ _) _) _⟩
  have S0 := hide hs0
  clear hs0
  go_loopw [6, 7] (fun cy i wr => ∃ (k : Nat) (v : Value) (l : List Int) (c : Int), k ≤ n ∧ cy = .int .i64 c ∧ -1 ≤ c ∧ c ≤ 1 ∧ i = .int .i64 k ∧ Adding w wr (w.heap.size + 1 + 1 + 1) #[.int .i64 1, .slice A la.length ca] #[.int .i64 1, .slice B lb.length cb] 1 v l ∧ Hid (Carry la lb 1 l c k)) (fun _ i _ => n - (intOf i).toNat)
  case atStart => exact ⟨0, _, [], 0, Nat.zero_le _, rfl, by decide, by decide, rfl, S0.out, ⟨rfl, fun d hd => (by cases hd), by simp [V]⟩⟩
  case round =>
    obtain ⟨k, v, l, c, hk, rfl, hc0, hc1, rfl, hA, hC⟩ := hrel
    have hg2 := hA.1
    have y0 := hA.2.1.lt
    have y1 := hA.2.2.1.lt
    have a0 : wr.cell? ⟨w.heap.size, 0, none⟩ = some (.int .i64 1) := (hA.2.1.cell 0).trans rfl
    have a1 : wr.cell? ⟨w.heap.size, 1, none⟩ = some (.slice A la.length ca) := (hA.2.1.cell 1).trans rfl
    have b0 : wr.cell? ⟨w.heap.size + 1, 0, none⟩ = some (.int .i64 1) := (hA.2.2.1.cell 0).trans rfl
    have b1 : wr.cell? ⟨w.heap.size + 1, 1, none⟩ = some (.slice B lb.length cb) := (hA.2.2.1.cell 1).trans rfl
    have hW : Below w.heap.size w wr := hA.2.2.2.2.2.2
    have AH := hide hA
    by_cases hlt : k < n
    · have q : decide ((k : Int) < max (la.length : Int) (lb.length : Int) + 1) = true := by rw [← hm.out]; simp; omega
      obtain ⟨d1, e1⟩ : ∃ d, d = dg la k := ⟨_, rfl⟩
      obtain ⟨d2, e2⟩ : ∃ d, d = dg lb k := ⟨_, rfl⟩
      obtain ⟨p0, p1⟩ := dg_range QA.out k
      obtain ⟨p2, p3⟩ := dg_range QB.out k
      rw [← e1] at p0 p1
      rw [← e2] at p2 p3
      have D1 := hide e1
      have D2 := hide e2
      have CA : Hid (∀ W, Row W A la → Calls Tryd.prog 56 #[.agg #[.int .i64 1, .slice A la.length ca], .int .i64 k] W fun e w' => e = .returned (.int .i64 d1) ∧ Below W.heap.size W w') := hide fun W h => by
        have := digit_any 1 A ca la k W h (by omega) (by omega) (by omega)
        rwa [Int.toNat_natCast, ← e1] at this
      have CB : Hid (∀ W, Row W B lb → Calls Tryd.prog 56 #[.agg #[.int .i64 1, .slice B lb.length cb], .int .i64 k] W fun e w' => e = .returned (.int .i64 d2) ∧ Below W.heap.size W w') := hide fun W h => by
        have := digit_any 1 B cb lb k W h (by omega) (by omega) (by omega)
        rwa [Int.toNat_natCast, ← e2] at this
      clear e1 e2 hA
      have u1 : IntKind.i64.wrap (d1 + d2) = d1 + d2 := IntWalk.i64_in _ (by omega)
      have u2 : IntKind.i64.wrap (d1 + d2 + c) = d1 + d2 + c := IntWalk.i64_in _ (by omega)
      have u0 : IntKind.i64.wrap (d2) = d2 := IntWalk.i64_in _ (by omega)
      go_wp2_with fail
      go_region_held3 (fun w' => w'.cell? ⟨w.heap.size, 0, none⟩ = some (.int .i64 1) ∧ w'.cell? ⟨w.heap.size, 1, none⟩ = some (.slice A la.length ca) ∧ w'.cell? ⟨w.heap.size + 1, 0, none⟩ = some (.int .i64 1) ∧ w'.cell? ⟨w.heap.size + 1, 1, none⟩ = some (.slice B lb.length cb) ∧ Below wr.heap.size wr w')
        ((refine keep4 ?_ y0 a0 y0 a1 y1 b0 y1 b1; repeat (first | (refine below_set ?_ ?hsz _; case hsz => (first | omega | (simp; done) | (simp; omega) | (have hs0 := hb.size; simp at hs0 ⊢; omega) | (have hs1 := hb1.size; simp at hs1 ⊢; omega) | (have hs1 := hb1.size; have hs2 := hb2.size; simp at hs1 hs2 ⊢; omega))) | exact Below.refl _ _ | refine below_alloc ?_ _ | refine below_drew ?_ | refine below_drewn ?_ _ | refine below_step ?_ hb | refine below_step ?_ hb0 | refine below_step ?_ hb1 | refine below_step ?_ hb2 | refine below_step ?_ hb3 | refine below_step ?_ hb4 | refine below_step ?_ hb5 | refine below_step ?_ hb6 | refine below_step ?_ hb7)))
        (first
          | (go_at_call 56; (with_reducible refine (CA.out _ ?_).mono ?_); (exact RA.out.below (below_step hW (by repeat (first | (refine below_set ?_ ?hsz _; case hsz => (first | omega | (simp; done) | (simp; omega) | (have hs0 := hb.size; simp at hs0 ⊢; omega) | (have hs1 := hb1.size; simp at hs1 ⊢; omega) | (have hs1 := hb1.size; have hs2 := hb2.size; simp at hs1 hs2 ⊢; omega))) | exact Below.refl _ _ | refine below_alloc ?_ _ | refine below_drew ?_ | refine below_drewn ?_ _ | refine below_step ?_ hb | refine below_step ?_ hb0 | refine below_step ?_ hb1 | refine below_step ?_ hb2 | refine below_step ?_ hb3 | refine below_step ?_ hb4 | refine below_step ?_ hb5 | refine below_step ?_ hb6 | refine below_step ?_ hb7)))); rintro e w3 ⟨rfl, hb3⟩)
          | (go_at_call 56; (with_reducible refine (CB.out _ ?_).mono ?_); (exact RB.out.below (below_step hW (by repeat (first | (refine below_set ?_ ?hsz _; case hsz => (first | omega | (simp; done) | (simp; omega) | (have hs0 := hb.size; simp at hs0 ⊢; omega) | (have hs1 := hb1.size; simp at hs1 ⊢; omega) | (have hs1 := hb1.size; have hs2 := hb2.size; simp at hs1 hs2 ⊢; omega))) | exact Below.refl _ _ | refine below_alloc ?_ _ | refine below_drew ?_ | refine below_drewn ?_ _ | refine below_step ?_ hb | refine below_step ?_ hb0 | refine below_step ?_ hb1 | refine below_step ?_ hb2 | refine below_step ?_ hb3 | refine below_step ?_ hb4 | refine below_step ?_ hb5 | refine below_step ?_ hb6 | refine below_step ?_ hb7)))); rintro e w4 ⟨rfl, hb4⟩))
      have hb4' : Below wr.heap.size wr w4 := by repeat (first | (refine below_set ?_ ?hsz _; case hsz => (first | omega | (simp; done) | (simp; omega) | (have hs0 := hb.size; simp at hs0 ⊢; omega) | (have hs1 := hb1.size; simp at hs1 ⊢; omega) | (have hs1 := hb1.size; have hs2 := hb2.size; simp at hs1 hs2 ⊢; omega))) | exact Below.refl _ _ | refine below_alloc ?_ _ | refine below_drew ?_ | refine below_drewn ?_ _ | refine below_step ?_ hb | refine below_step ?_ hb0 | refine below_step ?_ hb1 | refine below_step ?_ hb2 | refine below_step ?_ hb3 | refine below_step ?_ hb4 | refine below_step ?_ hb5 | refine below_step ?_ hb6 | refine below_step ?_ hb7)
      have hA4 := AH.out.below hb4'
      have hown := hA4.2.2.2.2.2.1
      have gc : w4.cell? ⟨(w.heap.size + 1 + 1 + 1), 1, none⟩ = some v := (hA4.2.2.2.2.1.cell 1).trans rfl
      have hsz : (w.heap.size + 1 + 1 + 1) < w4.heap.size := hA4.2.2.2.2.1.lt
      have hll : l.length = k := hC.out.len
      have LL := hide hll
      have H4 := hide hA4
      have hlen : l.length ≤ 1001 := by omega
      clear hll hA4 hb3 hb4 hb4' u0 u1 u2 a0 a1 b0 b1 q
      by_cases h1 : d1 + d2 + c < 0
      · obtain ⟨i0, hi, hz0, hz1, hz2⟩ := info_parts (show (Tryd.prog.info? 3).map (fun i => (i.zero, i.size, i.bytes)) = some (some (.int .i64 0), 1, 8) by kernel_rfl)
        go_wp2_with (at_builtin; refine wpList_append_own _ rfl _ _ 40 rfl ((w.heap.size + 1 + 1 + 1) + 1) 3 i0 (.int .i64 0) 1 8 Tryd.underlying40 hi hz0 hz1 hz2 rfl (by decide) _ _ _ rfl (hown.alloc _) ⟨w4.heap.size, 0, none⟩ 1 1 [.int .i64 (d1 + d2 + c + 10)] rfl rfl ?c11 ?c12 ?c13 ?c14 ?c15 ?_)
        (try case c11 => exact cell_one_new w4 _ _)
        (try case c12 => first | rfl | (intro u hu; simp at hu; subst hu; rfl))
        (try case c13 => first | (unfold maxLen; omega) | omega)
        (try case c14 => omega)
        (try case c15 => first | omega | (simp; omega))
        intro v' w5 hown' hgrow _
        obtain ⟨g1, g2, g3, g4, g5⟩ := H4.out.behind hgrow
        have z1 : w5.cell? ⟨(w.heap.size + 1 + 1 + 1), 1, none⟩ = some v := (g4.cell 1).trans rfl
        have f1 := g4.free 1
        obtain ⟨A', c', rfl⟩ := own_form hown'
        have M := hide (H4.out.more hgrow (d := d1 + d2 + c + 10) hown')
        clear hown' hgrow g1 g2 g3 g4 g5 hi hz0 hz1 hz2 gc hown
        go_wp2_with fail
        go_roundw
        case rel => exact ⟨k + 1, _, l ++ [d1 + d2 + c + 10], (-1), by omega, rfl, by decide, by decide, by go_num, M.out, hC.out.more ⟨by omega, by omega⟩ (by rw [← D1.out, ← D2.out]; omega)⟩
        case measure => simp [intOf]; omega
      by_cases h2 : 9 < d1 + d2 + c
      · obtain ⟨i0, hi, hz0, hz1, hz2⟩ := info_parts (show (Tryd.prog.info? 3).map (fun i => (i.zero, i.size, i.bytes)) = some (some (.int .i64 0), 1, 8) by kernel_rfl)
        go_wp2_with (at_builtin; refine wpList_append_own _ rfl _ _ 40 rfl ((w.heap.size + 1 + 1 + 1) + 1) 3 i0 (.int .i64 0) 1 8 Tryd.underlying40 hi hz0 hz1 hz2 rfl (by decide) _ _ _ rfl (hown.alloc _) ⟨w4.heap.size, 0, none⟩ 1 1 [.int .i64 (d1 + d2 + c - 10)] rfl rfl ?c21 ?c22 ?c23 ?c24 ?c25 ?_)
        (try case c21 => exact cell_one_new w4 _ _)
        (try case c22 => first | rfl | (intro u hu; simp at hu; subst hu; rfl))
        (try case c23 => first | (unfold maxLen; omega) | omega)
        (try case c24 => omega)
        (try case c25 => first | omega | (simp; omega))
        intro v' w5 hown' hgrow _
        obtain ⟨g1, g2, g3, g4, g5⟩ := H4.out.behind hgrow
        have z1 : w5.cell? ⟨(w.heap.size + 1 + 1 + 1), 1, none⟩ = some v := (g4.cell 1).trans rfl
        have f1 := g4.free 1
        obtain ⟨A', c', rfl⟩ := own_form hown'
        have M := hide (H4.out.more hgrow (d := d1 + d2 + c - 10) hown')
        clear hown' hgrow g1 g2 g3 g4 g5 hi hz0 hz1 hz2 gc hown
        go_wp2_with fail
        go_roundw
        case rel => exact ⟨k + 1, _, l ++ [d1 + d2 + c - 10], (1), by omega, rfl, by decide, by decide, by go_num, M.out, hC.out.more ⟨by omega, by omega⟩ (by rw [← D1.out, ← D2.out]; omega)⟩
        case measure => simp [intOf]; omega
      · obtain ⟨i0, hi, hz0, hz1, hz2⟩ := info_parts (show (Tryd.prog.info? 3).map (fun i => (i.zero, i.size, i.bytes)) = some (some (.int .i64 0), 1, 8) by kernel_rfl)
        go_wp2_with (at_builtin; refine wpList_append_own _ rfl _ _ 40 rfl ((w.heap.size + 1 + 1 + 1) + 1) 3 i0 (.int .i64 0) 1 8 Tryd.underlying40 hi hz0 hz1 hz2 rfl (by decide) _ _ _ rfl (hown.alloc _) ⟨w4.heap.size, 0, none⟩ 1 1 [.int .i64 (d1 + d2 + c)] rfl rfl ?c31 ?c32 ?c33 ?c34 ?c35 ?_)
        (try case c31 => exact cell_one_new w4 _ _)
        (try case c32 => first | rfl | (intro u hu; simp at hu; subst hu; rfl))
        (try case c33 => first | (unfold maxLen; omega) | omega)
        (try case c34 => omega)
        (try case c35 => first | omega | (simp; omega))
        intro v' w5 hown' hgrow _
        obtain ⟨g1, g2, g3, g4, g5⟩ := H4.out.behind hgrow
        have z1 : w5.cell? ⟨(w.heap.size + 1 + 1 + 1), 1, none⟩ = some v := (g4.cell 1).trans rfl
        have f1 := g4.free 1
        obtain ⟨A', c', rfl⟩ := own_form hown'
        have M := hide (H4.out.more hgrow (d := d1 + d2 + c) hown')
        clear hown' hgrow g1 g2 g3 g4 g5 hi hz0 hz1 hz2 gc hown
        go_wp2_with fail
        go_roundw
        case rel => exact ⟨k + 1, _, l ++ [d1 + d2 + c], (0), by omega, rfl, by decide, by decide, by go_num, M.out, hC.out.more ⟨by omega, by omega⟩ (by rw [← D1.out, ← D2.out]; omega)⟩
        case measure => simp [intOf]; omega
    · obtain rfl : n = k := by omega
      have q : decide ((n : Int) < max (la.length : Int) (lb.length : Int) + 1) = false := by rw [← hm.out]; simp
      have hown := hA.2.2.2.2.2.1
      obtain ⟨A', m, hv, hlc, hcm, hrow⟩ := Row.of_own hown
      have hAB : ∀ x, A' = some x → (w.heap.size + 1 + 1 + 1) + 1 ≤ x.block := fun x hx => (hown.lt x.block (by rw [hv, hx]; rfl)).1
      have gc0 : wr.cell? ⟨(w.heap.size + 1 + 1 + 1), 0, none⟩ = some (.int .i64 1) := (hA.2.2.2.2.1.cell 0).trans rfl
      have gc1 : wr.cell? ⟨(w.heap.size + 1 + 1 + 1), 1, none⟩ = some v := (hA.2.2.2.2.1.cell 1).trans rfl
      have B3 := hA.2.2.2.1
      rw [hv] at gc1
      clear hv hown hA hlt
      go_wp2_with fail
      refine (trim_any _ A' m l _ hrow hlc hcm).mono ?_
      rintro e w2 ⟨j, hj, hz, hl, rfl, hb2⟩
      have Z := hide hz
      have HL := hide hl
      have R3 := B3.below hb2
      have r0 : w2.cell? ⟨w.heap.size + 1 + 1, 0, none⟩ = some (.int .i64 0) := (R3.cell 0).trans rfl
      have r1 : w2.cell? ⟨w.heap.size + 1 + 1, 1, none⟩ = some (.slice none 0 0) := (R3.cell 1).trans rfl
      have f0 : w2.frozen? ⟨w.heap.size + 1 + 1, 0, none⟩ = false := R3.free 0
      have f1 : w2.frozen? ⟨w.heap.size + 1 + 1, 1, none⟩ = false := R3.free 1
      have RW := hide (num_kept (b := w.heap.size + 1 + 1) ((hrow.below hb2).take j) (fun x hx => by have := hAB x hx; omega))
      have LC := hide hlc
      have JL := hide hj
      have hBB : Below w.heap.size w w2 := below_step hW hb2
      generalize hsg : (if j = 0 then (0 : Int) else 1) = sg at *
      have SG := hide hsg
      clear hz hl hsg hj hrow hlc R3 B3 a0 a1 b0 b1 hb2 q
      go_wp2_with fail
      refine bodyPost_ret (v := .agg #[.int .i64 sg, .slice A' j m]) (by simp [results, Tryd.results30, go_sem, r0, r1]) rfl ?_
      exact ⟨j, l, c, A', m, by rw [SG.out], N.out ▸ hC.out, JL.out, Z.out, HL.out, Nat.le_trans JL.out LC.out, hcm, RW.out _ _, fun x hx => by have := hAB x hx; omega, (hBB.setCell (by simp; omega) _).setCell (by simp; omega) _⟩
end Go.Proofs.YtgppimdakafniaaDoor
