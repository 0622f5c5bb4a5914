/- The reference's Mul. Condition: none. -/
import Derived.Test.YtgppimdakafniaaDoorDecTimes
import Derived.Test.YtgppimdakafniaaDoorDecRefAdd
import Derived.Test.YtgppimdakafniaaDoorDecH
namespace Go.Proofs.YtgppimdakafniaaDoor
open Go Go.RowKit Go.PlainAid

theorem keepB {B : Nat} {W X : World} {a0 a1 b0 b1 : Addr} {v0 v1 u0 u1 : Value} (h : Below B W X) (l0 : a0.block < B) (c0 : W.cell? a0 = some v0) (l1 : a1.block < B) (c1 : W.cell? a1 = some v1) (m0 : b0.block < B) (d0 : W.cell? b0 = some u0) (m1 : b1.block < B) (d1 : W.cell? b1 = some u1) :
    X.cell? a0 = some v0 ∧ X.cell? a1 = some v1 ∧ X.cell? b0 = some u0 ∧ X.cell? b1 = some u1 ∧ Below B W X :=
  ⟨(h.cell l0).trans c0, (h.cell l1).trans c1, (h.cell m0).trans d0, (h.cell m1).trans d1, h⟩
theorem lb0 (n : Nat) : n < n + 2 := by omega
theorem lb1 (n : Nat) : n + 1 < n + 2 := by omega
theorem below_drewB {B : Nat} {a w : World} (h : Below B a w) : Below B a w.drew := ⟨h.os, h.tape, h.output, h.size, h.block⟩
theorem sgn_prod (x y : Int) : sgn (x * y) = sgn x * sgn y := by
  rcases sgn_cases x with ⟨h1, h2⟩ | ⟨h1, h2⟩ | ⟨h1, h2⟩ <;> rcases sgn_cases y with ⟨g1, g2⟩ | ⟨g1, g2⟩ | ⟨g1, g2⟩ <;> rw [h2, g2]
  · exact sgn_pos (Int.mul_pos_of_neg_of_neg h1 g1)
  · rw [g1, Int.mul_zero]; rfl
  · exact sgn_of_neg (Int.mul_neg_of_neg_of_pos h1 g1)
  · rw [h1, Int.zero_mul]; rfl
  · rw [h1, Int.zero_mul]; rfl
  · rw [h1, Int.zero_mul]; rfl
  · exact sgn_of_neg (Int.mul_neg_of_pos_of_neg h1 g1)
  · rw [g1, Int.mul_zero]; rfl
  · exact sgn_pos (Int.mul_pos h1 g1)
theorem refTimes_any (x y : Int) (A B : Option Addr) (ca cb : Nat) (w : World) (ha : Row w A (digs x.natAbs)) (hb : Row w B (digs y.natAbs)) (la : (digs x.natAbs).length ≤ 15) (lb : (digs y.natAbs).length ≤ 15) :
    Calls Tryd.prog 52 #[.agg #[.int .i64 (sgn x), .slice A (digs x.natAbs).length ca], .agg #[.int .i64 (sgn y), .slice B (digs y.natAbs).length cb]] w (SumIs (x * y) w) := by
  have hp : IntKind.i64.wrap (sgn x * sgn y) = sgn x * sgn y := by
    rcases sgn_cases x with ⟨_, h⟩ | ⟨_, h⟩ | ⟨_, h⟩ <;> rcases sgn_cases y with ⟨_, g⟩ | ⟨_, g⟩ | ⟨_, g⟩ <;> rw [h, g] <;> rfl
  refine (times_loop (sgn x) (sgn y) _ _ A B ca cb w ha hb la lb (digs_range _) (digs_range _) hp).mono ?_
  rintro e w' ⟨k, l, P, m, rfl, hV, hr, hk, hz, hl, hkm, hm, hrow, hbb⟩
  rw [digs_V, digs_V] at hV
  have ht := digs_trim hr hk hz hl
  have hna : (V (dg l) l.length).toNat = (x * y).natAbs := by
    rw [hV, Int.natAbs_mul, ← Int.natCast_mul, Int.toNat_natCast]
  rw [hna] at ht
  have hlen : (digs (x * y).natAbs).length = k := by rw [← ht, List.length_take]; omega
  have hsg : (if k = 0 then (0 : Int) else sgn x * sgn y) = sgn (x * y) := by
    by_cases h0 : k = 0
    · rw [if_pos h0]
      have : (x * y).natAbs = 0 := by
        rcases Nat.eq_zero_or_pos (x * y).natAbs with h | h
        · exact h
        · rw [digs_ne (by omega), List.length_cons] at hlen; omega
      rw [Int.natAbs_eq_zero.1 this]; rfl
    · rw [if_neg h0, sgn_prod]
  exact ⟨P, m, by rw [hlen, hsg], by rw [hlen]; exact hkm, hm, by rw [← ht]; exact hrow, hbb⟩

set_option maxHeartbeats 16000000 in
theorem refMul_ok (a sa b sb : Int) (w : World) (h : Both a sa b sb) :
    Calls Tryd.prog 26 #[(.agg #[.int .i64 (a), .int .i64 (sa)]), (.agg #[.int .i64 (b), .int .i64 (sb)])] w (MulPost a sa b sb w) := by
  have b1 := h.1.2.2.2
  have b2 := h.2.2.2.2
  have b3 := h.1.2.2.1
  have b4 := h.2.2.2.1
  have H := hide h
  have HA := hide h.1
  have HB := hide h.2
  have DA := hide ((small_digs a).1 ⟨h.1.1, h.1.2.1⟩)
  have DB := hide ((small_digs b).1 ⟨h.2.1, h.2.2.1⟩)
  have CA : Hid (∀ W, Calls Tryd.prog 34 #[.int .i64 a, .int .i64 0] W (NumIs a W)) := hide fun W => by
    have := of_any a 0 W h.1.1 h.1.2.1 (by decide)
    rwa [show a * ((10 ^ 0 : Nat) : Int) = a by simp] at this
  have CB : Hid (∀ W, Calls Tryd.prog 34 #[.int .i64 b, .int .i64 0] W (NumIs b W)) := hide fun W => by
    have := of_any b 0 W h.2.1 h.2.2.1 (by decide)
    rwa [show b * ((10 ^ 0 : Nat) : Int) = b by simp] at this
  have ws : IntKind.i64.wrap (sa + sb) = sa + sb := IntWalk.i64_in _ (by omega)
  clear h
  go_enter Tryd.func26, Tryd.ntmps26
  go_wp2_with fail
  refine (is_yes _ _ _ HA.out).mono ?_
  rintro e w1 ⟨rfl, hb1⟩
  obtain ⟨hc1, hf1⟩ := bcell hb1
  have y1 : w.heap.size + 1 < w1.heap.size := by have := hb1.size; simp at this; omega
  have z1 : w.heap.size + 1 + 1 < w1.heap.size := by have := hb1.size; simp at this; omega
  go_wp2_with fail
  refine (is_yes _ _ _ HB.out).mono ?_
  rintro e w2 ⟨rfl, hb2⟩
  have hb0 := below_step hb1 hb2
  obtain ⟨hc2, hf2⟩ := bcell hb0
  have hB2 : Below w.heap.size w w2 := by repeat (first | (refine below_set ?_ ?hsz _; case hsz => (first | omega | (simp; done) | (simp; omega) | (have hs0 := hb.size; simp at hs0 ⊢; omega) | (have hs1 := hb1.size; simp at hs1 ⊢; omega) | (have hs1 := hb1.size; have hs2 := hb2.size; simp at hs1 hs2 ⊢; omega))) | exact Below.refl _ _ | refine below_alloc ?_ _ | refine below_drew ?_ | refine below_drewn ?_ _ | refine below_step ?_ hb | refine below_step ?_ hb0 | refine below_step ?_ hb1 | refine below_step ?_ hb2 | refine below_step ?_ hb3 | refine below_step ?_ hb4 | refine below_step ?_ hb5 | refine below_step ?_ hb6 | refine below_step ?_ hb7)
  have y0 : w.heap.size < w2.heap.size := by have := hb0.size; simp at this; omega
  have y2 : w.heap.size + 1 < w2.heap.size := by have := hb0.size; simp at this; omega
  have z2 : w.heap.size + 1 + 1 < w2.heap.size := by have := hb0.size; simp at this; omega
  clear hc1 hf1 hb1 hb2 y1 z1
  have ca0w : w2.cell? ⟨w.heap.size, 0, none⟩ = some (.int .i64 a) := by rw [hc2 _ _ (by simp; omega)]; simp [go_sem]
  have ca1w : w2.cell? ⟨w.heap.size, 1, none⟩ = some (.int .i64 sa) := by rw [hc2 _ _ (by simp; omega)]; simp [go_sem]
  have cb0w : w2.cell? ⟨w.heap.size + 1, 0, none⟩ = some (.int .i64 b) := by rw [hc2 _ _ (by simp)]; simp [go_sem]
  have cb1w : w2.cell? ⟨w.heap.size + 1, 1, none⟩ = some (.int .i64 sb) := by rw [hc2 _ _ (by simp)]; simp [go_sem]
  have r0w : w2.cell? ⟨w.heap.size + 1 + 1, 0, none⟩ = some (.int .i64 0) := by rw [hc2 _ _ (by simp)]; simp [go_sem]
  have r1w : w2.cell? ⟨w.heap.size + 1 + 1, 1, none⟩ = some (.int .i64 0) := by rw [hc2 _ _ (by simp)]; simp [go_sem]
  have f0w : w2.frozen? ⟨w.heap.size + 1 + 1, 0, none⟩ = false := by rw [hf2 _ _ (by simp)]; simp [go_sem]
  have f1w : w2.frozen? ⟨w.heap.size + 1 + 1, 1, none⟩ = false := by rw [hf2 _ _ (by simp)]; simp [go_sem]
  clear hb0 hc2 hf2
  go_wp2_with fail
  have hB2' : w.heap.size + 2 ≤ w2.heap.size := by omega
  go_region_held3 (fun w' => w'.cell? ⟨w.heap.size, 0, none⟩ = some (.int .i64 a) ∧ w'.cell? ⟨w.heap.size, 1, none⟩ = some (.int .i64 sa) ∧ w'.cell? ⟨w.heap.size + 1, 0, none⟩ = some (.int .i64 b) ∧ w'.cell? ⟨w.heap.size + 1, 1, none⟩ = some (.int .i64 sb) ∧ Below (w.heap.size + 2) w2 w')
    ((refine keepB ?_ (lb0 _) ca0w (lb0 _) ca1w (lb1 _) cb0w (lb1 _) cb1w; first | exact Below.refl _ _ | exact hV3.mono hB2' | exact hV4.mono hB2' | exact hV5.mono hB2' | exact hV6.mono hB2' | exact ((hV6.mono hB2').setCell (by simp) _).setCell (by simp) _ | exact below_drewB (Below.refl _ _)))
    (first | (go_at_call 34; (with_reducible refine (CA.out _).mono ?_); rintro e w3 ⟨A, ca, rfl, la, lca, ra, fa, hb3⟩; have RA := hide ra; clear ra fa la; have hV3 : Below w2.heap.size w2 w3 := (by repeat (first | (refine below_set ?_ ?hsz _; case hsz => (first | omega | (simp; done) | (simp; omega) | (have hs0 := hb.size; simp at hs0 ⊢; omega) | (have hs1 := hb1.size; simp at hs1 ⊢; omega) | (have hs1 := hb1.size; have hs2 := hb2.size; simp at hs1 hs2 ⊢; omega))) | exact Below.refl _ _ | refine below_alloc ?_ _ | refine below_drew ?_ | refine below_drewn ?_ _ | refine below_step ?_ hb | refine below_step ?_ hb0 | refine below_step ?_ hb1 | refine below_step ?_ hb2 | refine below_step ?_ hb3 | refine below_step ?_ hb4 | refine below_step ?_ hb5 | refine below_step ?_ hb6 | refine below_step ?_ hb7))) | (go_at_call 34; (with_reducible refine (CB.out _).mono ?_); rintro e w4 ⟨B, cb, rfl, lb, lcb, rb, fb, hb4⟩; have RB := hide rb; clear rb fb lb; have hV4 : Below w2.heap.size w2 w4 := (by repeat (first | (refine below_set ?_ ?hsz _; case hsz => (first | omega | (simp; done) | (simp; omega) | (have hs0 := hb.size; simp at hs0 ⊢; omega) | (have hs1 := hb1.size; simp at hs1 ⊢; omega) | (have hs1 := hb1.size; have hs2 := hb2.size; simp at hs1 hs2 ⊢; omega))) | exact Below.refl _ _ | refine below_alloc ?_ _ | refine below_drew ?_ | refine below_drewn ?_ _ | refine below_step ?_ hb | refine below_step ?_ hb0 | refine below_step ?_ hb1 | refine below_step ?_ hb2 | refine below_step ?_ hb3 | refine below_step ?_ hb4 | refine below_step ?_ hb5 | refine below_step ?_ hb6 | refine below_step ?_ hb7))) | (go_at_call 52; (with_reducible refine (refTimes_any a b A B ca cb _ ?_ ?_ DA.out DB.out).mono ?_); (exact RA.out.below (by repeat (first | (refine below_set ?_ ?hsz _; case hsz => (first | omega | (simp; done) | (simp; omega) | (have hs0 := hb.size; simp at hs0 ⊢; omega) | (have hs1 := hb1.size; simp at hs1 ⊢; omega) | (have hs1 := hb1.size; have hs2 := hb2.size; simp at hs1 hs2 ⊢; omega))) | exact Below.refl _ _ | refine below_alloc ?_ _ | refine below_drew ?_ | refine below_drewn ?_ _ | refine below_step ?_ hb | refine below_step ?_ hb0 | refine below_step ?_ hb1 | refine below_step ?_ hb2 | refine below_step ?_ hb3 | refine below_step ?_ hb4 | refine below_step ?_ hb5 | refine below_step ?_ hb6 | refine below_step ?_ hb7))); (exact RB.out.below (by repeat (first | (refine below_set ?_ ?hsz _; case hsz => (first | omega | (simp; done) | (simp; omega) | (have hs0 := hb.size; simp at hs0 ⊢; omega) | (have hs1 := hb1.size; simp at hs1 ⊢; omega) | (have hs1 := hb1.size; have hs2 := hb2.size; simp at hs1 hs2 ⊢; omega))) | exact Below.refl _ _ | refine below_alloc ?_ _ | refine below_drew ?_ | refine below_drewn ?_ _ | refine below_step ?_ hb | refine below_step ?_ hb0 | refine below_step ?_ hb1 | refine below_step ?_ hb2 | refine below_step ?_ hb3 | refine below_step ?_ hb4 | refine below_step ?_ hb5 | refine below_step ?_ hb6 | refine below_step ?_ hb7))); rintro e w5 ⟨P, cp, rfl, lp, lcp, rp, hb5⟩; have RP := hide rp; clear rp lp; have hV5 : Below w2.heap.size w2 w5 := (by repeat (first | (refine below_set ?_ ?hsz _; case hsz => (first | omega | (simp; done) | (simp; omega) | (have hs0 := hb.size; simp at hs0 ⊢; omega) | (have hs1 := hb1.size; simp at hs1 ⊢; omega) | (have hs1 := hb1.size; have hs2 := hb2.size; simp at hs1 hs2 ⊢; omega))) | exact Below.refl _ _ | refine below_alloc ?_ _ | refine below_drew ?_ | refine below_drewn ?_ _ | refine below_step ?_ hb | refine below_step ?_ hb0 | refine below_step ?_ hb1 | refine below_step ?_ hb2 | refine below_step ?_ hb3 | refine below_step ?_ hb4 | refine below_step ?_ hb5 | refine below_step ?_ hb6 | refine below_step ?_ hb7))) | (go_at_call 48; (with_reducible refine (fit_any _ _ P cp _ ?_).mono ?_); (exact RP.out.below (by repeat (first | (refine below_set ?_ ?hsz _; case hsz => (first | omega | (simp; done) | (simp; omega) | (have hs0 := hb.size; simp at hs0 ⊢; omega) | (have hs1 := hb1.size; simp at hs1 ⊢; omega) | (have hs1 := hb1.size; have hs2 := hb2.size; simp at hs1 hs2 ⊢; omega))) | exact Below.refl _ _ | refine below_alloc ?_ _ | refine below_drew ?_ | refine below_drewn ?_ _ | refine below_step ?_ hb | refine below_step ?_ hb0 | refine below_step ?_ hb1 | refine below_step ?_ hb2 | refine below_step ?_ hb3 | refine below_step ?_ hb4 | refine below_step ?_ hb5 | refine below_step ?_ hb6 | refine below_step ?_ hb7))); rintro e w6 ⟨n, t, x, rfl, hN, hb6⟩; have HN := hide hN; clear hN; have hV6 : Below w2.heap.size w2 w6 := (by repeat (first | (refine below_set ?_ ?hsz _; case hsz => (first | omega | (simp; done) | (simp; omega) | (have hs0 := hb.size; simp at hs0 ⊢; omega) | (have hs1 := hb1.size; simp at hs1 ⊢; omega) | (have hs1 := hb1.size; have hs2 := hb2.size; simp at hs1 hs2 ⊢; omega))) | exact Below.refl _ _ | refine below_alloc ?_ _ | refine below_drew ?_ | refine below_drewn ?_ _ | refine below_step ?_ hb | refine below_step ?_ hb0 | refine below_step ?_ hb1 | refine below_step ?_ hb2 | refine below_step ?_ hb3 | refine below_step ?_ hb4 | refine below_step ?_ hb5 | refine below_step ?_ hb6 | refine below_step ?_ hb7)); have r0 := (hV6.cell (p := ⟨w.heap.size + 1 + 1, 0, none⟩) z2).trans r0w; have r1 := (hV6.cell (p := ⟨w.heap.size + 1 + 1, 1, none⟩) z2).trans r1w; have f0 := (hV6.frozen (p := ⟨w.heap.size + 1 + 1, 0, none⟩) z2).trans f0w; have f1 := (hV6.frozen (p := ⟨w.heap.size + 1 + 1, 1, none⟩) z2).trans f1w))
  all_goals (
    go_wp2_with fail
    exact bodyPost_ret (v := .tuple #[(.agg #[.int .i64 (n), .int .i64 (t)]), .int .i64 x]) (by simp [results, Tryd.results26, go_sem, r0, r1]) rfl ⟨n, t, x, rfl, by rcases HN.out with ⟨h1, h2⟩ | ⟨h1, h2⟩; (exact .inl ⟨H.out, h1, h2⟩); exact .inr (.inl ⟨H.out, h1, h2⟩), (below_step hB2 hV6).setCell (by simp; omega) _ |>.setCell (by simp; omega) _⟩)
set_option maxHeartbeats 2000000 in
theorem refMul_no (a sa b sb : Int) (w : World) (h : ¬ Both a sa b sb) :
    Calls Tryd.prog 26 #[(.agg #[.int .i64 (a), .int .i64 (sa)]), (.agg #[.int .i64 (b), .int .i64 (sb)])] w (MulPost a sa b sb w) := by
  have H := hide h
  by_cases ha : okN a sa
  · have hb : ¬ okN b sb := fun g => h ⟨ha, g⟩
    have HA := hide ha
    have HB := hide hb
    clear h ha hb
    go_enter Tryd.func26, Tryd.ntmps26
    go_wp2_with fail
    refine (is_yes _ _ _ HA.out).mono ?_
    rintro e w1 ⟨rfl, hb1⟩
    obtain ⟨hc1, hf1⟩ := bcell hb1
    have z1 : w.heap.size + 1 + 1 < w1.heap.size := by have := hb1.size; simp at this; omega
    go_wp2_with fail
    refine (is_no _ _ _ HB.out).mono ?_
    rintro e w2 ⟨rfl, hb2⟩
    have hb0 := below_step hb1 hb2
    obtain ⟨hc2, hf2⟩ := bcell hb0
    have r0 : w2.cell? ⟨w.heap.size + 1 + 1, 0, none⟩ = some (.int .i64 0) := by rw [hc2 _ _ (by simp)]; simp [go_sem]
    have r1 : w2.cell? ⟨w.heap.size + 1 + 1, 1, none⟩ = some (.int .i64 0) := by rw [hc2 _ _ (by simp)]; simp [go_sem]
    have f0 : w2.frozen? ⟨w.heap.size + 1 + 1, 0, none⟩ = false := by rw [hf2 _ _ (by simp)]; simp [go_sem]
    have f1 : w2.frozen? ⟨w.heap.size + 1 + 1, 1, none⟩ = false := by rw [hf2 _ _ (by simp)]; simp [go_sem]
    clear hc1 hf1 hc2 hf2 hb1 hb2
    go_wp2_with fail
    exact bodyPost_ret (v := .tuple #[(.agg #[.int .i64 (0), .int .i64 (0)]), .int .i64 2]) (by simp [results, Tryd.results26, go_sem, r0, r1]) rfl ⟨0, 0, 2, rfl, .inr (.inr ⟨H.out, rfl, rfl, rfl⟩), by repeat (first | (refine below_set ?_ ?hsz _; case hsz => (first | omega | (simp; done) | (simp; omega) | (have hs0 := hb.size; simp at hs0 ⊢; omega) | (have hs1 := hb1.size; simp at hs1 ⊢; omega) | (have hs1 := hb1.size; have hs2 := hb2.size; simp at hs1 hs2 ⊢; omega))) | exact Below.refl _ _ | refine below_alloc ?_ _ | refine below_drew ?_ | refine below_drewn ?_ _ | refine below_step ?_ hb | refine below_step ?_ hb0 | refine below_step ?_ hb1 | refine below_step ?_ hb2 | refine below_step ?_ hb3 | refine below_step ?_ hb4 | refine below_step ?_ hb5 | refine below_step ?_ hb6 | refine below_step ?_ hb7)⟩
  · have HA := hide ha
    clear h ha
    go_enter Tryd.func26, Tryd.ntmps26
    go_wp2_with fail
    refine (is_no _ _ _ HA.out).mono ?_
    rintro e w1 ⟨rfl, hb1⟩
    obtain ⟨hc1, hf1⟩ := bcell hb1
    have r0 : w1.cell? ⟨w.heap.size + 1 + 1, 0, none⟩ = some (.int .i64 0) := by rw [hc1 _ _ (by simp)]; simp [go_sem]
    have r1 : w1.cell? ⟨w.heap.size + 1 + 1, 1, none⟩ = some (.int .i64 0) := by rw [hc1 _ _ (by simp)]; simp [go_sem]
    have f0 : w1.frozen? ⟨w.heap.size + 1 + 1, 0, none⟩ = false := by rw [hf1 _ _ (by simp)]; simp [go_sem]
    have f1 : w1.frozen? ⟨w.heap.size + 1 + 1, 1, none⟩ = false := by rw [hf1 _ _ (by simp)]; simp [go_sem]
    go_wp2_with fail
    exact bodyPost_ret (v := .tuple #[(.agg #[.int .i64 (0), .int .i64 (0)]), .int .i64 2]) (by simp [results, Tryd.results26, go_sem, r0, r1]) rfl ⟨0, 0, 2, rfl, .inr (.inr ⟨H.out, rfl, rfl, rfl⟩), by repeat (first | (refine below_set ?_ ?hsz _; case hsz => (first | omega | (simp; done) | (simp; omega) | (have hs0 := hb.size; simp at hs0 ⊢; omega) | (have hs1 := hb1.size; simp at hs1 ⊢; omega) | (have hs1 := hb1.size; have hs2 := hb2.size; simp at hs1 hs2 ⊢; omega))) | exact Below.refl _ _ | refine below_alloc ?_ _ | refine below_drew ?_ | refine below_drewn ?_ _ | refine below_step ?_ hb | refine below_step ?_ hb0 | refine below_step ?_ hb1 | refine below_step ?_ hb2 | refine below_step ?_ hb3 | refine below_step ?_ hb4 | refine below_step ?_ hb5 | refine below_step ?_ hb6 | refine below_step ?_ hb7)⟩

theorem refMul_any (a sa b sb : Int) (w : World) : Calls Tryd.prog 26 #[(.agg #[.int .i64 (a), .int .i64 (sa)]), (.agg #[.int .i64 (b), .int .i64 (sb)])] w (MulPost a sa b sb w) := by
  by_cases h : Both a sa b sb
  · exact refMul_ok a sa b sb w h
  · exact refMul_no a sa b sb w h
end Go.Proofs.YtgppimdakafniaaDoor
