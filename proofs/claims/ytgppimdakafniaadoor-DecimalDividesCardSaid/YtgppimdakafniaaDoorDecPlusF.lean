/- The reference's Plus, whole. Condition: bounds on the lengths. -/
import Derived.Test.YtgppimdakafniaaDoorDecPlusC
import Derived.Test.YtgppimdakafniaaDoorDecPlusD
import Derived.Test.YtgppimdakafniaaDoorDecPlusE
namespace Go.Proofs.YtgppimdakafniaaDoor
open Go Go.RowKit Go.PlainAid
/-- a call returns the integer z as sign and digits, in new memory -/
def SumNew (z : Int) (w : World) (e : Ending) (w' : World) : Prop :=
  ∃ (A : Option Addr) (c : Nat), e = .returned (.agg #[.int .i64 (sgn z), .slice A (digs z.natAbs).length c]) ∧ (digs z.natAbs).length ≤ c ∧ c ≤ maxLen ∧ Row w' A (digs z.natAbs) ∧ (∀ x, A = some x → w.heap.size ≤ x.block) ∧ Below w.heap.size w w'
theorem plus_sum {x y s : Int} {w w' : World} {e : Ending} (hx : x ≠ 0) (hy : y ≠ 0) (hs : s = sgn x * sgn y) (hxy : s = 1 ∨ (s = -1 ∧ y.natAbs ≤ x.natAbs)) (h : PlusPost (digs x.natAbs) (digs y.natAbs) (sgn x) s w e w') : SumNew (x + y) w e w' := by
  obtain ⟨k, l, c, A, m, rfl, hc, hk, hz, hl, hkm, hm, hr, fr, hb⟩ := h
  have ht := hc.done hxy rfl hk hz hl
  have hsum := sum_sign hx hs hy
  have hT : 0 ≤ (x.natAbs : Int) + s * (y.natAbs : Int) := by rcases hxy with h | ⟨h, h'⟩ <;> rw [h] <;> omega
  obtain ⟨t, htt⟩ : ∃ t : Nat, (x.natAbs : Int) + s * (y.natAbs : Int) = t := ⟨_, (Int.toNat_of_nonneg hT).symm⟩
  rw [htt, Int.toNat_natCast] at ht
  rw [htt] at hsum
  have hna : (x + y).natAbs = t := by
    rw [hsum]
    rcases sgn_cases x with ⟨_, h2⟩ | ⟨h1, _⟩ | ⟨_, h2⟩
    · rw [h2]; omega
    · exact absurd h1 hx
    · rw [h2]; omega
  have hlen : (digs t).length = k := by rw [← ht, List.length_take]; omega
  have hsg : (if k = 0 then (0 : Int) else sgn x) = sgn (x + y) := by
    by_cases h0 : k = 0
    · rw [if_pos h0]
      have : t = 0 := by
        rcases Nat.eq_zero_or_pos t with h | h
        · exact h
        · rw [digs_ne (by omega), List.length_cons] at hlen; omega
      rw [hsum, this]
      simp [sgn]
    · rw [if_neg h0]
      have : 0 < t := by
        rcases Nat.eq_zero_or_pos t with h | h
        · rw [h, digs_zero, List.length_nil] at hlen; omega
        · exact h
      rw [hsum, sgn_mul _ (by omega)]
      rcases sgn_cases x with ⟨_, h2⟩ | ⟨h1, _⟩ | ⟨_, h2⟩
      · rw [h2]; rfl
      · exact absurd h1 hx
      · rw [h2]; rfl
  refine ⟨A, m, by rw [hna, hlen, ← hsg], by rw [hna, hlen]; exact hkm, hm, by rw [hna, ← ht]; exact hr, fr, hb⟩

set_option maxHeartbeats 2000000 in
theorem plus_left (sy : Int) (A B : Option Addr) (na nb ca cb : Nat) (w : World) :
    Calls Tryd.prog 30 #[.agg #[.int .i64 0, .slice A na ca], .agg #[.int .i64 sy, .slice B nb cb]] w fun e w' => e = .returned (.agg #[.int .i64 sy, .slice B nb cb]) ∧ Below w.heap.size w w' := by
  go_enter Tryd.func30, Tryd.ntmps30
  go_wp2_with fail
  exact bodyPost_ret (v := .agg #[.int .i64 sy, .slice B nb cb]) (by simp [results, Tryd.results30, go_sem]) rfl ⟨rfl, by repeat (first | (refine below_set ?_ ?hsz _; case hsz => (first | omega | (simp; done) | (simp; omega) | (have hs0 := hb.size; simp at hs0 ⊢; omega) | (have hs1 := hb1.size; simp at hs1 ⊢; omega) | (have hs1 := hb1.size; have hs2 := hb2.size; simp at hs1 hs2 ⊢; omega))) | exact Below.refl _ _ | refine below_alloc ?_ _ | refine below_drew ?_ | refine below_drewn ?_ _ | refine below_step ?_ hb | refine below_step ?_ hb0 | refine below_step ?_ hb1 | refine below_step ?_ hb2 | refine below_step ?_ hb3 | refine below_step ?_ hb4 | refine below_step ?_ hb5 | refine below_step ?_ hb6 | refine below_step ?_ hb7)⟩
set_option maxHeartbeats 2000000 in
theorem plus_right (sx : Int) (A B : Option Addr) (na nb ca cb : Nat) (w : World) (h : (sx == 0) = false) :
    Calls Tryd.prog 30 #[.agg #[.int .i64 sx, .slice A na ca], .agg #[.int .i64 0, .slice B nb cb]] w fun e w' => e = .returned (.agg #[.int .i64 sx, .slice A na ca]) ∧ Below w.heap.size w w' := by
  go_enter Tryd.func30, Tryd.ntmps30
  go_wp2_with fail
  exact bodyPost_ret (v := .agg #[.int .i64 sx, .slice A na ca]) (by simp [results, Tryd.results30, go_sem]) rfl ⟨rfl, by repeat (first | (refine below_set ?_ ?hsz _; case hsz => (first | omega | (simp; done) | (simp; omega) | (have hs0 := hb.size; simp at hs0 ⊢; omega) | (have hs1 := hb1.size; simp at hs1 ⊢; omega) | (have hs1 := hb1.size; have hs2 := hb2.size; simp at hs1 hs2 ⊢; omega))) | exact Below.refl _ _ | refine below_alloc ?_ _ | refine below_drew ?_ | refine below_drewn ?_ _ | refine below_step ?_ hb | refine below_step ?_ hb0 | refine below_step ?_ hb1 | refine below_step ?_ hb2 | refine below_step ?_ hb3 | refine below_step ?_ hb4 | refine below_step ?_ hb5 | refine below_step ?_ hb6 | refine below_step ?_ hb7)⟩

set_option maxRecDepth 100000 in
set_option maxHeartbeats 8000000 in
theorem rec_pm (z ab : Int) (la lb : List Int) (A B : Option Addr) (na nb ca cb : Nat) (w : World) (ha : Row w A la) (hb : Row w B lb)
    (hab : ∀ W, Row W A la → Row W B lb → Calls Tryd.prog 55 #[.agg #[.int .i64 1, .slice A na ca], .agg #[.int .i64 (-1), .slice B nb cb]] W fun e w' => e = .returned (.int .i64 ab) ∧ Below W.heap.size W w') (hneg : ab < 0)
    (hrec : ∀ W, Row W A la → Row W B lb → Calls Tryd.prog 30 #[.agg #[.int .i64 (-1), .slice B nb cb], .agg #[.int .i64 1, .slice A na ca]] W (SumNew z W)) :
    Calls Tryd.prog 30 #[.agg #[.int .i64 1, .slice A na ca], .agg #[.int .i64 (-1), .slice B nb cb]] w (SumNew z w) := by
  have RA := hide ha
  have RB := hide hb
  have CAB := hide hab
  have CR := hide hrec
  clear ha hb hab hrec
  go_enter Tryd.func30, Tryd.ntmps30
  go_wp2_with fail
  refine (CAB.out _ (RA.out.below (by repeat (first | (refine below_set ?_ ?hsz _; case hsz => (first | omega | (simp; done) | (simp; omega) | (have hs0 := hb.size; simp at hs0 ⊢; omega) | (have hs1 := hb1.size; simp at hs1 ⊢; omega) | (have hs1 := hb1.size; have hs2 := hb2.size; simp at hs1 hs2 ⊢; omega))) | exact Below.refl _ _ | refine below_alloc ?_ _ | refine below_drew ?_ | refine below_drewn ?_ _ | refine below_step ?_ hb | refine below_step ?_ hb0 | refine below_step ?_ hb1 | refine below_step ?_ hb2 | refine below_step ?_ hb3 | refine below_step ?_ hb4 | refine below_step ?_ hb5 | refine below_step ?_ hb6 | refine below_step ?_ hb7))) (RB.out.below (by repeat (first | (refine below_set ?_ ?hsz _; case hsz => (first | omega | (simp; done) | (simp; omega) | (have hs0 := hb.size; simp at hs0 ⊢; omega) | (have hs1 := hb1.size; simp at hs1 ⊢; omega) | (have hs1 := hb1.size; have hs2 := hb2.size; simp at hs1 hs2 ⊢; omega))) | exact Below.refl _ _ | refine below_alloc ?_ _ | refine below_drew ?_ | refine below_drewn ?_ _ | refine below_step ?_ hb | refine below_step ?_ hb0 | refine below_step ?_ hb1 | refine below_step ?_ hb2 | refine below_step ?_ hb3 | refine below_step ?_ hb4 | refine below_step ?_ hb5 | refine below_step ?_ hb6 | refine below_step ?_ hb7)))).mono ?_
  rintro e w0 ⟨rfl, hb0⟩
  have B1 : Holds w0 w.heap.size 42 #[.int .i64 1, .slice A na ca] := (Holds.alloc (Holds.alloc (show Holds _ _ _ _ from heap_alloc_new w _) _) _).below hb0
  have B2 : Holds w0 (w.heap.size + 1) 42 #[.int .i64 (-1), .slice B nb cb] := (Holds.alloc (holds_new1 w _ _ _) _).below hb0
  have B3 : Holds w0 (w.heap.size + 2) 42 #[.int .i64 0, .slice none 0 0] := (holds_new2 w _ _ _ _).below hb0
  have hW0 : Below w.heap.size w w0 := below_step (below_alloc (below2 _ _ _) _) hb0
  have x0 : w0.cell? ⟨w.heap.size, 0, none⟩ = some (.int .i64 1) := (B1.cell 0).trans rfl
  have x1 : w0.cell? ⟨w.heap.size, 1, none⟩ = some (.slice A na ca) := (B1.cell 1).trans rfl
  have x2 : w0.cell? ⟨w.heap.size + 1, 0, none⟩ = some (.int .i64 (-1)) := (B2.cell 0).trans rfl
  have x3 : w0.cell? ⟨w.heap.size + 1, 1, none⟩ = some (.slice B nb cb) := (B2.cell 1).trans rfl
  have l3 : w.heap.size + 2 < w0.heap.size := B3.lt
  clear hb0 B1 B2
  go_wp2_with fail
  refine (CR.out _ (RA.out.below hW0) (RB.out.below hW0)).mono ?_
  rintro e w2 ⟨A', m, rfl, la', lm, hr, fr, hb2⟩
  have R3 := B3.below hb2
  have r0 : w2.cell? ⟨w.heap.size + 1 + 1, 0, none⟩ = some (.int .i64 0) := (R3.cell 0).trans rfl
  have r1 : w2.cell? ⟨w.heap.size + 1 + 1, 1, none⟩ = some (.slice none 0 0) := (R3.cell 1).trans rfl
  have f0 : w2.frozen? ⟨w.heap.size + 1 + 1, 0, none⟩ = false := R3.free 0
  have f1 : w2.frozen? ⟨w.heap.size + 1 + 1, 1, none⟩ = false := R3.free 1
  have RW := hide (num_kept (b := w.heap.size + 1 + 1) hr (fun x hx => by have := fr x hx; omega))
  have F := hide fr
  have LA := hide la'
  have hBB : Below w.heap.size w w2 := below_step hW0 hb2
  generalize hd : digs z.natAbs = D at *
  generalize hn : D.length = nD at *
  clear fr hr la' R3 B3 x0 x1 x2 x3 hb2
  go_wp2_with fail
  refine bodyPost_ret (v := .agg #[.int .i64 (sgn z), .slice A' nD m]) (by simp [results, Tryd.results30, go_sem, r0, r1]) rfl ?_
  subst hn hd
  exact ⟨A', m, rfl, LA.out, lm, RW.out _ _, fun x hx => by have := F.out x hx; omega, (hBB.setCell (by simp; omega) _).setCell (by simp; omega) _⟩

set_option maxRecDepth 100000 in
set_option maxHeartbeats 8000000 in
theorem rec_mp (z ab : Int) (la lb : List Int) (A B : Option Addr) (na nb ca cb : Nat) (w : World) (ha : Row w A la) (hb : Row w B lb)
    (hab : ∀ W, Row W A la → Row W B lb → Calls Tryd.prog 55 #[.agg #[.int .i64 (-1), .slice A na ca], .agg #[.int .i64 1, .slice B nb cb]] W fun e w' => e = .returned (.int .i64 ab) ∧ Below W.heap.size W w') (hneg : ab < 0)
    (hrec : ∀ W, Row W A la → Row W B lb → Calls Tryd.prog 30 #[.agg #[.int .i64 1, .slice B nb cb], .agg #[.int .i64 (-1), .slice A na ca]] W (SumNew z W)) :
    Calls Tryd.prog 30 #[.agg #[.int .i64 (-1), .slice A na ca], .agg #[.int .i64 1, .slice B nb cb]] w (SumNew z w) := by
  have RA := hide ha
  have RB := hide hb
  have CAB := hide hab
  have CR := hide hrec
  clear ha hb hab hrec
  go_enter Tryd.func30, Tryd.ntmps30
  go_wp2_with fail
  refine (CAB.out _ (RA.out.below (by repeat (first | (refine below_set ?_ ?hsz _; case hsz => (first | omega | (simp; done) | (simp; omega) | (have hs0 := hb.size; simp at hs0 ⊢; omega) | (have hs1 := hb1.size; simp at hs1 ⊢; omega) | (have hs1 := hb1.size; have hs2 := hb2.size; simp at hs1 hs2 ⊢; omega))) | exact Below.refl _ _ | refine below_alloc ?_ _ | refine below_drew ?_ | refine below_drewn ?_ _ | refine below_step ?_ hb | refine below_step ?_ hb0 | refine below_step ?_ hb1 | refine below_step ?_ hb2 | refine below_step ?_ hb3 | refine below_step ?_ hb4 | refine below_step ?_ hb5 | refine below_step ?_ hb6 | refine below_step ?_ hb7))) (RB.out.below (by repeat (first | (refine below_set ?_ ?hsz _; case hsz => (first | omega | (simp; done) | (simp; omega) | (have hs0 := hb.size; simp at hs0 ⊢; omega) | (have hs1 := hb1.size; simp at hs1 ⊢; omega) | (have hs1 := hb1.size; have hs2 := hb2.size; simp at hs1 hs2 ⊢; omega))) | exact Below.refl _ _ | refine below_alloc ?_ _ | refine below_drew ?_ | refine below_drewn ?_ _ | refine below_step ?_ hb | refine below_step ?_ hb0 | refine below_step ?_ hb1 | refine below_step ?_ hb2 | refine below_step ?_ hb3 | refine below_step ?_ hb4 | refine below_step ?_ hb5 | refine below_step ?_ hb6 | refine below_step ?_ hb7)))).mono ?_
  rintro e w0 ⟨rfl, hb0⟩
  have B1 : Holds w0 w.heap.size 42 #[.int .i64 (-1), .slice A na ca] := (Holds.alloc (Holds.alloc (show Holds _ _ _ _ from heap_alloc_new w _) _) _).below hb0
  have B2 : Holds w0 (w.heap.size + 1) 42 #[.int .i64 1, .slice B nb cb] := (Holds.alloc (holds_new1 w _ _ _) _).below hb0
  have B3 : Holds w0 (w.heap.size + 2) 42 #[.int .i64 0, .slice none 0 0] := (holds_new2 w _ _ _ _).below hb0
  have hW0 : Below w.heap.size w w0 := below_step (below_alloc (below2 _ _ _) _) hb0
  have x0 : w0.cell? ⟨w.heap.size, 0, none⟩ = some (.int .i64 (-1)) := (B1.cell 0).trans rfl
  have x1 : w0.cell? ⟨w.heap.size, 1, none⟩ = some (.slice A na ca) := (B1.cell 1).trans rfl
  have x2 : w0.cell? ⟨w.heap.size + 1, 0, none⟩ = some (.int .i64 1) := (B2.cell 0).trans rfl
  have x3 : w0.cell? ⟨w.heap.size + 1, 1, none⟩ = some (.slice B nb cb) := (B2.cell 1).trans rfl
  have l3 : w.heap.size + 2 < w0.heap.size := B3.lt
  clear hb0 B1 B2
  go_wp2_with fail
  refine (CR.out _ (RA.out.below hW0) (RB.out.below hW0)).mono ?_
  rintro e w2 ⟨A', m, rfl, la', lm, hr, fr, hb2⟩
  have R3 := B3.below hb2
  have r0 : w2.cell? ⟨w.heap.size + 1 + 1, 0, none⟩ = some (.int .i64 0) := (R3.cell 0).trans rfl
  have r1 : w2.cell? ⟨w.heap.size + 1 + 1, 1, none⟩ = some (.slice none 0 0) := (R3.cell 1).trans rfl
  have f0 : w2.frozen? ⟨w.heap.size + 1 + 1, 0, none⟩ = false := R3.free 0
  have f1 : w2.frozen? ⟨w.heap.size + 1 + 1, 1, none⟩ = false := R3.free 1
  have RW := hide (num_kept (b := w.heap.size + 1 + 1) hr (fun x hx => by have := fr x hx; omega))
  have F := hide fr
  have LA := hide la'
  have hBB : Below w.heap.size w w2 := below_step hW0 hb2
  generalize hd : digs z.natAbs = D at *
  generalize hn : D.length = nD at *
  clear fr hr la' R3 B3 x0 x1 x2 x3 hb2
  go_wp2_with fail
  refine bodyPost_ret (v := .agg #[.int .i64 (sgn z), .slice A' nD m]) (by simp [results, Tryd.results30, go_sem, r0, r1]) rfl ?_
  subst hn hd
  exact ⟨A', m, rfl, LA.out, lm, RW.out _ _, fun x hx => by have := F.out x hx; omega, (hBB.setCell (by simp; omega) _).setCell (by simp; omega) _⟩

theorem SumNew.is {z : Int} {w w' : World} {e : Ending} (h : SumNew z w e w') : SumIs z w e w' := by
  obtain ⟨A, c, h1, h2, h3, h4, _, h5⟩ := h
  exact ⟨A, c, h1, h2, h3, h4, h5⟩
theorem abv (x y : Int) (sx sy : Int) (A B : Option Addr) (ca cb : Nat) (W : World) (h1 : Row W A (digs x.natAbs)) (h2 : Row W B (digs y.natAbs)) (la : (digs x.natAbs).length ≤ 1000) (lb : (digs y.natAbs).length ≤ 1000) :
    Calls Tryd.prog 55 #[.agg #[.int .i64 sx, .slice A (digs x.natAbs).length ca], .agg #[.int .i64 sy, .slice B (digs y.natAbs).length cb]] W fun e w' => e = .returned (.int .i64 (sgn ((x.natAbs : Int) - (y.natAbs : Int)))) ∧ Below W.heap.size W w' := by
  have := above_any sx sy A B ca cb _ _ W h1 h2 (by omega) (by omega) (digs_range _) (digs_range _)
  rwa [digs_V, digs_V] at this
theorem refPlus_any (x y : Int) (A B : Option Addr) (ca cb : Nat) (w : World) (ha : Row w A (digs x.natAbs)) (hb : Row w B (digs y.natAbs)) (la : (digs x.natAbs).length ≤ 1000) (lb : (digs y.natAbs).length ≤ 1000)
    (lca : (digs x.natAbs).length ≤ ca) (lcb : (digs y.natAbs).length ≤ cb) (mca : ca ≤ maxLen) (mcb : cb ≤ maxLen) :
    Calls Tryd.prog 30 #[.agg #[.int .i64 (sgn x), .slice A (digs x.natAbs).length ca], .agg #[.int .i64 (sgn y), .slice B (digs y.natAbs).length cb]] w (SumIs (x + y) w) := by
  have gp : ∀ {p q : Int}, q.natAbs ≤ p.natAbs → 0 ≤ sgn (V (dg (digs p.natAbs)) (digs p.natAbs).length - V (dg (digs q.natAbs)) (digs q.natAbs).length) := fun {p q} h => by
    rw [digs_V, digs_V]; unfold sgn; split <;> (try split) <;> omega
  rcases sgn_cases x with ⟨hx, ex⟩ | ⟨hx, ex⟩ | ⟨hx, ex⟩
  · rcases sgn_cases y with ⟨hy, ey⟩ | ⟨hy, ey⟩ | ⟨hy, ey⟩
    · rw [ex, ey]
      refine (plus_mm _ _ A B ca cb w ha hb la lb (digs_range _) (digs_range _)).mono fun e w' h => ?_
      exact (plus_sum (s := 1) (by omega) (by omega) (by rw [ex, ey]; rfl) (.inl rfl) (by rw [ex]; exact h)).is
    · rw [ex, ey]
      refine (plus_right _ A B _ _ ca cb w (by decide)).mono ?_
      rintro e w' ⟨rfl, hbb⟩
      subst hy
      rw [Int.add_zero]
      exact ⟨A, ca, by rw [ex], lca, mca, ha.below hbb, hbb⟩
    · by_cases hc : y.natAbs ≤ x.natAbs
      · rw [ex, ey]
        refine (plus_mp _ _ A B ca cb w ha hb la lb (digs_range _) (digs_range _) (gp hc)).mono fun e w' h => ?_
        exact (plus_sum (s := -1) (by omega) (by omega) (by rw [ex, ey]; rfl) (.inr ⟨rfl, hc⟩) (by rw [ex]; exact h)).is
      · rw [ex, ey]
        refine (rec_mp (x + y) (sgn ((x.natAbs : Int) - (y.natAbs : Int))) _ _ A B _ _ ca cb w ha hb (fun W h1 h2 => abv x y _ _ A B ca cb W h1 h2 la lb) (by rw [sgn_of_neg (by omega)]; decide) fun W h1 h2 => ?_).mono fun e w' h => h.is
        refine (plus_pm _ _ B A cb ca W h2 h1 lb la (digs_range _) (digs_range _) (gp (by omega))).mono fun e w' h => ?_
        have := plus_sum (x := y) (y := x) (s := -1) (by omega) (by omega) (by rw [ex, ey]; rfl) (.inr ⟨rfl, by omega⟩) (by rw [ey]; exact h)
        rwa [Int.add_comm] at this
  · rw [ex]
    refine (plus_left _ A B _ _ ca cb w).mono ?_
    rintro e w' ⟨rfl, hbb⟩
    subst hx
    rw [Int.zero_add]
    exact ⟨B, cb, rfl, lcb, mcb, hb.below hbb, hbb⟩
  · rcases sgn_cases y with ⟨hy, ey⟩ | ⟨hy, ey⟩ | ⟨hy, ey⟩
    · by_cases hc : y.natAbs ≤ x.natAbs
      · rw [ex, ey]
        refine (plus_pm _ _ A B ca cb w ha hb la lb (digs_range _) (digs_range _) (gp hc)).mono fun e w' h => ?_
        exact (plus_sum (s := -1) (by omega) (by omega) (by rw [ex, ey]; rfl) (.inr ⟨rfl, hc⟩) (by rw [ex]; exact h)).is
      · rw [ex, ey]
        refine (rec_pm (x + y) (sgn ((x.natAbs : Int) - (y.natAbs : Int))) _ _ A B _ _ ca cb w ha hb (fun W h1 h2 => abv x y _ _ A B ca cb W h1 h2 la lb) (by rw [sgn_of_neg (by omega)]; decide) fun W h1 h2 => ?_).mono fun e w' h => h.is
        refine (plus_mp _ _ B A cb ca W h2 h1 lb la (digs_range _) (digs_range _) (gp (by omega))).mono fun e w' h => ?_
        have := plus_sum (x := y) (y := x) (s := -1) (by omega) (by omega) (by rw [ex, ey]; rfl) (.inr ⟨rfl, by omega⟩) (by rw [ey]; exact h)
        rwa [Int.add_comm] at this
    · rw [ex, ey]
      refine (plus_right _ A B _ _ ca cb w (by decide)).mono ?_
      rintro e w' ⟨rfl, hbb⟩
      subst hy
      rw [Int.add_zero]
      exact ⟨A, ca, by rw [ex], lca, mca, ha.below hbb, hbb⟩
    · rw [ex, ey]
      refine (plus_pp _ _ A B ca cb w ha hb la lb (digs_range _) (digs_range _)).mono fun e w' h => ?_
      exact (plus_sum (s := 1) (by omega) (by omega) (by rw [ex, ey]; rfl) (.inl rfl) (by rw [ex]; exact h)).is
end Go.Proofs.YtgppimdakafniaaDoor
