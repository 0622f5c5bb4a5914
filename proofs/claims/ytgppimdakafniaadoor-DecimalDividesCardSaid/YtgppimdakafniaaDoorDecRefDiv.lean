/- The reference's Div. Condition: none. -/
import Derived.Test.YtgppimdakafniaaDoorDecNearB
import Derived.Test.YtgppimdakafniaaDoorDecRefMul
import Derived.Test.YtgppimdakafniaaDoorDecTwo
namespace Go.Proofs.YtgppimdakafniaaDoor
open Go Go.RowKit Go.PlainAid

/-- the sign of a quotient -/
theorem div_sign (a b x z : Int) (m n Y : Nat) (hb : b ≠ 0) (hx : x = a * ((10 ^ m : Nat) : Int)) (hY : Y = (b * ((10 ^ n : Nat) : Int)).natAbs) (hz : z = if b < 0 then -x else x) :
    (if z < 0 then -(he z.natAbs Y : Int) else (he z.natAbs Y : Int)) = sg a b * (quoN a.natAbs b.natAbs ((m : Int) - (n : Int)) : Int) := by
  have pm : 0 < 10 ^ m := Nat.pow_pos (by decide)
  have e1 : z.natAbs = a.natAbs * 10 ^ m := by
    have : x.natAbs = a.natAbs * 10 ^ m := by rw [hx, Int.natAbs_mul, Int.natAbs_natCast]
    rw [hz]; split
    · rw [Int.natAbs_neg]; exact this
    · exact this
  have e2 : Y = b.natAbs * 10 ^ n := by rw [hY, Int.natAbs_mul, Int.natAbs_natCast]
  rw [e1, e2, he_quo _ _ _ _ (by omega)]
  have hxs : (a < 0 → x < 0) ∧ (a = 0 → x = 0) ∧ (0 < a → 0 < x) := by
    rw [hx]
    exact ⟨fun h => Int.mul_neg_of_neg_of_pos h (by omega), fun h => by rw [h, Int.zero_mul], fun h => Int.mul_pos h (by omega)⟩
  have q0 : a = 0 → quoN a.natAbs b.natAbs ((m : Int) - (n : Int)) = 0 := fun h => by
    rw [← he_quo _ _ _ _ (by omega), h]
    have := he_le (x := (0 : Int).natAbs * 10 ^ m) (y := b.natAbs * 10 ^ n) (Nat.mul_pos (by omega) (Nat.pow_pos (by decide)))
    simp at this ⊢; omega
  generalize quoN a.natAbs b.natAbs ((m : Int) - (n : Int)) = q at *
  unfold sg
  rcases Int.lt_trichotomy a 0 with h | h | h
  · have h2 := hxs.1 h
    by_cases g : b < 0
    · rw [hz, if_pos g, if_neg (by omega), if_pos (by simp [h, g]), Int.one_mul]
    · rw [hz, if_neg g, if_pos h2, if_neg (by simp [h, g]), Int.neg_mul, Int.one_mul]
  · have h3 := q0 h
    subst h3
    simp
  · have h2 := hxs.2.2 h
    have h4 : ¬ a < 0 := by omega
    by_cases g : b < 0
    · rw [hz, if_pos g, if_pos (by omega), if_neg (by simp [h4, g]), Int.neg_mul, Int.one_mul]
    · rw [hz, if_neg g, if_neg (by omega), if_pos (by simp [h4, g]), Int.one_mul]
theorem digs_len40 (a : Int) (m : Nat) (h1 : -999999999999999 ≤ a) (h2 : a ≤ 999999999999999) (hm : m ≤ 24) : (digs (a * ((10 ^ m : Nat) : Int)).natAbs).length ≤ 900 := by
  have e : (a * ((10 ^ m : Nat) : Int)).natAbs = a.natAbs * 10 ^ m := by rw [Int.natAbs_mul, Int.natAbs_natCast]
  have h3 : a.natAbs < 10 ^ 15 := by have : (10 : Nat) ^ 15 = 1000000000000000 := by decide
                                     omega
  have h4 : 10 ^ m ≤ 10 ^ 24 := Nat.pow_le_pow_right (by decide) hm
  have h5 : a.natAbs * 10 ^ m < 10 ^ 39 := by
    have h6 : a.natAbs * 10 ^ m ≤ a.natAbs * 10 ^ 24 := Nat.mul_le_mul_left _ h4
    have h7 : a.natAbs * 10 ^ 24 < 10 ^ 15 * 10 ^ 24 := Nat.mul_lt_mul_of_pos_right h3 (by decide)
    rw [← Nat.pow_add] at h7
    omega
  have := digs_len (n := (a * ((10 ^ m : Nat) : Int)).natAbs) (k := 39) (by rw [e]; exact h5)
  omega

set_option maxRecDepth 100000 in
set_option maxHeartbeats 16000000 in
theorem refDiv_ok (a sa b sb c : Int) (w : World) (h : Both a sa b sb) (c0 : 0 ≤ c) (c1 : c ≤ 12) (hb0 : b ≠ 0) :
    Calls Tryd.prog 28 #[(.agg #[.int .i64 (a), .int .i64 (sa)]), (.agg #[.int .i64 (b), .int .i64 (sb)]), .int .i64 c] w (DivPost a sa b sb c w) := by
  have b1 := h.1.2.2.2
  have b2 := h.2.2.2.2
  have b3 := h.1.2.2.1
  have b4 := h.2.2.2.1
  have H := hide h
  have HA := hide h.1
  have HB := hide h.2
  obtain ⟨m, hm⟩ : ∃ m : Nat, (m : Int) = sb + c := ⟨(sb + c).toNat, by omega⟩
  obtain ⟨n, hn⟩ : ∃ n : Nat, (n : Int) = sa := ⟨sa.toNat, by omega⟩
  have m24 : m ≤ 24 := by omega
  have n12 : n ≤ 12 := by omega
  obtain ⟨x, hx⟩ : ∃ x, x = a * ((10 ^ m : Nat) : Int) := ⟨_, rfl⟩
  obtain ⟨y, hy⟩ : ∃ y, y = b * ((10 ^ n : Nat) : Int) := ⟨_, rfl⟩
  have CA : Hid (∀ W, Calls Tryd.prog 34 #[.int .i64 a, .int .i64 (sb + c)] W (NumIs x W)) := hide fun W => by
    have := of_any a m W h.1.1 h.1.2.1 (by omega)
    rw [hm] at this
    rwa [hx]
  have CB : Hid (∀ W, Calls Tryd.prog 34 #[.int .i64 b, .int .i64 sa] W (NumIs y W)) := hide fun W => by
    have := of_any b n W h.2.1 h.2.2.1 (by omega)
    rw [hn] at this
    rwa [hy]
  have HX := hide hx
  have HY := hide hy
  have HM := hide hm
  have HNN := hide hn
  have ws : IntKind.i64.wrap (sb + c) = sb + c := IntWalk.i64_in _ (by omega)
  have q1 : decide (c < 0) = false := by simp; omega
  have q2 : decide (12 < c) = false := by simp; omega
  have q3 : (b == 0) = false := by simpa using hb0
  have HB0 := hide hb0
  clear h hx hy hm hn hb0
  go_enter Tryd.func28, Tryd.ntmps28
  go_wp2_with fail
  refine (is_yes _ _ _ HA.out).mono ?_
  rintro e w1 ⟨rfl, hb1⟩
  obtain ⟨hc1, hf1⟩ := bcell hb1
  have y1 : w.heap.size + 1 < w1.heap.size := by have := hb1.size; simp at this; omega
  have z1 : w.heap.size + 1 + 1 < w1.heap.size := by have := hb1.size; simp at this; omega
  go_wp2_with fail
  refine (is_yes _ _ _ HB.out).mono ?_
  rintro e w2 ⟨rfl, hb2⟩
  have hb0 := below_step hb1 hb2
  obtain ⟨hc2, hf2⟩ := bcell hb0
  have hB2 : Below w.heap.size w w2 := by repeat (first | (refine below_set ?_ ?hsz _; case hsz => (first | omega | (simp; done) | (simp; omega) | (have hs0 := hb.size; simp at hs0 ⊢; omega) | (have hs1 := hb1.size; simp at hs1 ⊢; omega) | (have hs1 := hb1.size; have hs2 := hb2.size; simp at hs1 hs2 ⊢; omega))) | exact Below.refl _ _ | refine below_alloc ?_ _ | refine below_drew ?_ | refine below_drewn ?_ _ | refine below_step ?_ hb | refine below_step ?_ hb0 | refine below_step ?_ hb1 | refine below_step ?_ hb2 | refine below_step ?_ hb3 | refine below_step ?_ hb4 | refine below_step ?_ hb5 | refine below_step ?_ hb6 | refine below_step ?_ hb7)
  have y0 : w.heap.size < w2.heap.size := by have := hb0.size; simp at this; omega
  have y2 : w.heap.size + 1 < w2.heap.size := by have := hb0.size; simp at this; omega
  have z2 : w.heap.size + 1 + 1 < w2.heap.size := by have := hb0.size; simp at this; omega
  clear hc1 hf1 hb1 hb2 y1 z1
  have ca0w : w2.cell? ⟨w.heap.size, 0, none⟩ = some (.int .i64 a) := by rw [hc2 _ _ (by simp; omega)]; simp [go_sem]
  have ca1w : w2.cell? ⟨w.heap.size, 1, none⟩ = some (.int .i64 sa) := by rw [hc2 _ _ (by simp; omega)]; simp [go_sem]
  have cb0w : w2.cell? ⟨w.heap.size + 1, 0, none⟩ = some (.int .i64 b) := by rw [hc2 _ _ (by simp)]; simp [go_sem]
  have cb1w : w2.cell? ⟨w.heap.size + 1, 1, none⟩ = some (.int .i64 sb) := by rw [hc2 _ _ (by simp)]; simp [go_sem]
  have r0w : w2.cell? ⟨w.heap.size + 1 + 1, 0, none⟩ = some (.int .i64 0) := by rw [hc2 _ _ (by simp)]; simp [go_sem]
  have r1w : w2.cell? ⟨w.heap.size + 1 + 1, 1, none⟩ = some (.int .i64 0) := by rw [hc2 _ _ (by simp)]; simp [go_sem]
  have f0w : w2.frozen? ⟨w.heap.size + 1 + 1, 0, none⟩ = false := by rw [hf2 _ _ (by simp)]; simp [go_sem]
  have f1w : w2.frozen? ⟨w.heap.size + 1 + 1, 1, none⟩ = false := by rw [hf2 _ _ (by simp)]; simp [go_sem]
  clear hb0 hc2 hf2
  go_wp2_with fail
  go_upto_region 5 with fail
  go_cut [8, 9] (fun s8 s9 w0 => ∃ wx : World, wx = w0 ∧ Two w2 wx s8 s9 x y)
  case first =>
    go_region_held3 (fun w' => w'.cell? ⟨w.heap.size, 0, none⟩ = some (.int .i64 a) ∧ w'.cell? ⟨w.heap.size, 1, none⟩ = some (.int .i64 sa) ∧ w'.cell? ⟨w.heap.size + 1, 0, none⟩ = some (.int .i64 b) ∧ w'.cell? ⟨w.heap.size + 1, 1, none⟩ = some (.int .i64 sb) ∧ Below w2.heap.size w2 w')
      ((refine keep4 ?_ y0 ca0w y0 ca1w y2 cb0w y2 cb1w; repeat (first | (refine below_set ?_ ?hsz _; case hsz => (first | omega | (simp; done) | (simp; omega) | (have hs0 := hb.size; simp at hs0 ⊢; omega) | (have hs1 := hb1.size; simp at hs1 ⊢; omega) | (have hs1 := hb1.size; have hs2 := hb2.size; simp at hs1 hs2 ⊢; omega))) | exact Below.refl _ _ | refine below_alloc ?_ _ | refine below_drew ?_ | refine below_drewn ?_ _ | refine below_step ?_ hb | refine below_step ?_ hb0 | refine below_step ?_ hb1 | refine below_step ?_ hb2 | refine below_step ?_ hb3 | refine below_step ?_ hb4 | refine below_step ?_ hb5 | refine below_step ?_ hb6 | refine below_step ?_ hb7)))
      (first
      | (go_at_call 34; (with_reducible refine (CA.out _).mono ?_); rintro e w3 ⟨A, ca, rfl, la, lca, ra, fa, hb3⟩; have RA := hide ra; have LA := hide la; have FA := hide fa; clear ra fa la; obtain ⟨hc3, hf3⟩ := bcell hb3; have sz3 := hb3.size; (try simp at sz3); (try (have z2x3 : w2.heap.size < w3.heap.size := by omega)); (try (have z4x3 : w4.heap.size < w3.heap.size := by omega)); (try (have p2x3 : w2.heap.size + 1 < w3.heap.size := by omega)))
      | (go_at_call 34; (with_reducible refine (CB.out _).mono ?_); rintro e w4 ⟨B, cb, rfl, lb, lcb, rb, fb, hb4⟩; have RB := hide rb; have LB := hide lb; have FB := hide fb; clear rb fb lb; obtain ⟨hc4, hf4⟩ := bcell hb4; have sz4 := hb4.size; (try simp at sz4); (try (have z2x4 : w2.heap.size < w4.heap.size := by omega)); (try (have z3x4 : w3.heap.size < w4.heap.size := by omega)); (try (have p2x4 : w2.heap.size + 1 < w4.heap.size := by omega)); (try (have p3x4 : w3.heap.size + 1 < w4.heap.size := by omega))))
    all_goals (go_wp2_with fail; go_meet)
    all_goals (
      have hW4 : Below w2.heap.size w2 w4 := (by repeat (first | (refine below_set ?_ ?hsz _; case hsz => (first | omega | (simp; done) | (simp; omega) | (have hs0 := hb.size; simp at hs0 ⊢; omega) | (have hs1 := hb1.size; simp at hs1 ⊢; omega) | (have hs1 := hb1.size; have hs2 := hb2.size; simp at hs1 hs2 ⊢; omega))) | exact Below.refl _ _ | refine below_alloc ?_ _ | refine below_drew ?_ | refine below_drewn ?_ _ | refine below_step ?_ hb | refine below_step ?_ hb0 | refine below_step ?_ hb1 | refine below_step ?_ hb2 | refine below_step ?_ hb3 | refine below_step ?_ hb4 | refine below_step ?_ hb5 | refine below_step ?_ hb6 | refine below_step ?_ hb7))
      have hA4 : Row w4 A (digs x.natAbs) := RA.out.below (by repeat (first | (refine below_set ?_ ?hsz _; case hsz => (first | omega | (simp; done) | (simp; omega) | (have hs0 := hb.size; simp at hs0 ⊢; omega) | (have hs1 := hb1.size; simp at hs1 ⊢; omega) | (have hs1 := hb1.size; have hs2 := hb2.size; simp at hs1 hs2 ⊢; omega))) | exact Below.refl _ _ | refine below_alloc ?_ _ | refine below_drew ?_ | refine below_drewn ?_ _ | refine below_step ?_ hb | refine below_step ?_ hb0 | refine below_step ?_ hb1 | refine below_step ?_ hb2 | refine below_step ?_ hb3 | refine below_step ?_ hb4 | refine below_step ?_ hb5 | refine below_step ?_ hb6 | refine below_step ?_ hb7))
      have hB4 : Row w4 B (digs y.natAbs) := RB.out
      have lA := LA.out
      have lB := LB.out
      first
      | (refine ⟨_, rfl, ?_⟩; with_reducible exact tw1 _ _ hW4 lA lca lB lcb hA4 hB4)
      | (refine ⟨_, rfl, ?_⟩; with_reducible exact (tw1 _ _ hW4 lB lcb lA lca hB4 hA4).swap)
      | (refine ⟨_, rfl, ?_⟩; with_reducible refine tw2 _ hW4 ?_ ?_ lA lca lB lcb hA4 hB4 ?_ ?_)
      | (refine ⟨_, rfl, ?_⟩; with_reducible refine (tw2 _ hW4 ?_ ?_ lB lcb lA lca hB4 hA4 ?_ ?_).swap)
      | (refine ⟨_, rfl, ?_⟩; with_reducible refine tw3 hW4 ?_ ?_ ?_ ?_ ?_ lA lca lB lcb hA4 hB4 ?_ ?_))
    all_goals (first
      | omega
      | ((repeat (first | exact There.new _ _ _ _ (by first | rfl | (simp; done) | (simp; omega)) | refine There.below ?_ hb4 | refine There.below ?_ hb3 | refine There.below ?_ (below1 _ _) | refine There.below ?_ (below_drew (Below.refl _ _)))); done)
      | (intro h0 a0 e0; obtain ⟨b0, o0, e1, hlt0, -⟩ := RA.out h0; have hf0 := FA.out a0 e0; rw [e0] at e1; injection e1 with e1; subst e1; simp at hf0; constructor <;> (simp; omega))
      | (intro h0 a0 e0; obtain ⟨b0, o0, e1, hlt0, -⟩ := RB.out h0; have hf0 := FB.out a0 e0; rw [e0] at e1; injection e1 with e1; subst e1; simp at hf0; constructor <;> (simp; omega)))
  case rest =>
    obtain ⟨wx, hwx, g, h, P, Q, cp, cq, e8, e9, hgh, ⟨a1, a2, a3, a4⟩, ⟨f1, f2, f3, f4⟩, ⟨s1, s2, s3, s4⟩, ⟨l1, l2, l3, l4⟩, ⟨r1, r2⟩, ⟨n1, n2⟩, hb⟩ := hcut
    subst hwx
    subst e8
    subst e9
    have RP := hide r1
    have RQ := hide r2
    have NP := hide n1
    have NQ := hide n2
    have HBX := hide (below_step hB2 hb)
    obtain ⟨hc3, hf3⟩ := bcell hb
    have r0 : wx.cell? ⟨w.heap.size + 1 + 1, 0, none⟩ = some (.int .i64 0) := (hb.cell (p := ⟨w.heap.size + 1 + 1, 0, none⟩) z2).trans r0w
    have r1 : wx.cell? ⟨w.heap.size + 1 + 1, 1, none⟩ = some (.int .i64 0) := (hb.cell (p := ⟨w.heap.size + 1 + 1, 1, none⟩) z2).trans r1w
    have f0 : wx.frozen? ⟨w.heap.size + 1 + 1, 0, none⟩ = false := (hb.frozen (p := ⟨w.heap.size + 1 + 1, 0, none⟩) z2).trans f0w
    have f1' : wx.frozen? ⟨w.heap.size + 1 + 1, 1, none⟩ = false := (hb.frozen (p := ⟨w.heap.size + 1 + 1, 1, none⟩) z2).trans f1w
    have zx : w.heap.size + 1 + 1 < wx.heap.size := by have := hb.size; omega
    clear hc3 hf3 r2 n1 n2 hb ca0w ca1w cb0w cb1w r0w r1w f0w f1w CA CB
    obtain ⟨Y, hY⟩ : ∃ Y : Nat, Y = y.natAbs := ⟨_, rfl⟩
    have hp10 : 0 < 10 ^ n := Nat.pow_pos (by decide)
    have hys : (b < 0 → y = -(Y : Int) ∧ y < 0) ∧ (0 < b → y = (Y : Int) ∧ 0 < y) := by
      have h1 : b < 0 → y < 0 := fun h => by rw [HY.out]; exact Int.mul_neg_of_neg_of_pos h (by omega)
      have h2 : 0 < b → 0 < y := fun h => by rw [HY.out]; exact Int.mul_pos h (by omega)
      exact ⟨fun h => by have := h1 h; omega, fun h => by have := h2 h; omega⟩
    have hY0 : 0 < Y := by
      have := HB0.out
      rcases Int.lt_or_lt_of_ne this with h | h
      · have := hys.1 h; omega
      · have := hys.2 h; omega
    have lx : (digs x.natAbs).length ≤ 900 := by rw [HX.out]; exact digs_len40 a m HA.out.1 HA.out.2.1 m24
    have ly : (digs Y).length ≤ 900 := by rw [hY, HY.out]; exact digs_len40 b n HB.out.1 HB.out.2.1 (by omega)
    rw [← hY] at a4 RQ l3
    have HYY := hide hY
    obtain ⟨Z, hZ⟩ : ∃ Z : Int, Z = sg a b * (quoN a.natAbs b.natAbs (sb + c - sa) : Int) := ⟨_, rfl⟩
    have NZ : Hid (∀ (z : Int) W, z = (if b < 0 then -x else x) → Row W P (digs x.natAbs) → Row W Q (digs Y) → Calls Tryd.prog 54 #[.agg #[.int .i64 (sgn z), .slice P (digs x.natAbs).length cp], .agg #[.int .i64 (sgn (Y : Int)), .slice Q (digs Y).length cq]] W (SumIs Z W)) := hide fun z W hz hrp hrq => by
      have ez : z.natAbs = x.natAbs := by rw [hz]; split <;> simp
      have e2 := div_sign a b x z m n Y HB0.out HX.out (by rw [HYY.out, HY.out]) hz
      rw [HM.out, HNN.out, ← hZ] at e2
      rw [← ez] at hrp lx ⊢
      rw [← e2]
      exact nearest_any z Y P Q cp cq W hrp hrq lx ly hY0 l3 l4
    have DO : Hid (∀ n' t' x' : Int, (c ≤ 12 ∧ NumOut Z c n' t' x') ∨ (12 < c ∧ n' = 0 ∧ t' = 0 ∧ x' = 14) → DivOut a sa b sb c n' t' x') := hide fun n' t' x' hh => by
      rcases hh with ⟨_, hh⟩ | ⟨hh, _⟩
      · exact .inl ⟨H.out, c0, c1, HB0.out, by rw [← hZ]; exact hh⟩
      · omega
    have HZ := hide hZ
    clear hY hZ lx ly hp10
    by_cases hbn : b < 0
    · have sy : decide (sgn y < 0) = true := by rw [sgn_of_neg (hys.1 hbn).2]; rfl
      have MA : Hid (∀ W, Calls Tryd.prog 32 #[.agg #[.int .i64 (sgn x), .slice P (digs x.natAbs).length cp]] W fun e w' => e = .returned (.agg #[.int .i64 (sgn (-x)), .slice P (digs x.natAbs).length cp]) ∧ Below W.heap.size W w') := hide fun W => by
        have := minus_any x P cp W
        rwa [Int.natAbs_neg] at this
      have MB : Hid (∀ W, Calls Tryd.prog 32 #[.agg #[.int .i64 (sgn y), .slice Q (digs Y).length cq]] W fun e w' => e = .returned (.agg #[.int .i64 (sgn (Y : Int)), .slice Q (digs Y).length cq]) ∧ Below W.heap.size W w') := hide fun W => by
        have := minus_any y Q cq W
        rwa [Int.natAbs_neg, ← HYY.out, show -y = (Y : Int) by have := (hys.1 hbn).1; omega] at this
      have HBN := hide hbn
      clear hys hbn
      go_wp2_with fail
      go_region_with (first
        | (go_at_call 32; (with_reducible refine (MA.out _).mono ?_); rintro e w3 ⟨rfl, hb3⟩; have H3 : Hid (Below wx.heap.size wx w3) := hide (by repeat (first | (refine below_set ?_ ?hsz _; case hsz => (first | omega | (simp; done) | (simp; omega) | (have hs0 := hb.size; simp at hs0 ⊢; omega) | (have hs1 := hb1.size; simp at hs1 ⊢; omega) | (have hs1 := hb1.size; have hs2 := hb2.size; simp at hs1 hs2 ⊢; omega))) | exact Below.refl _ _ | refine below_alloc ?_ _ | refine below_drew ?_ | refine below_drewn ?_ _ | refine below_step ?_ hb | refine below_step ?_ hb0 | refine below_step ?_ hb1 | refine below_step ?_ hb2 | refine below_step ?_ hb3 | refine below_step ?_ hb4 | refine below_step ?_ hb5 | refine below_step ?_ hb6 | refine below_step ?_ hb7)); have g3 : g < w3.heap.size := Nat.lt_of_lt_of_le s3 H3.out.size; have h3 : h < w3.heap.size := Nat.lt_of_lt_of_le s4 H3.out.size; have ta1 := (H3.out.cell (p := ⟨g, 0, none⟩) s3).trans a1; have tf1 := (H3.out.frozen (p := ⟨g, 0, none⟩) s3).trans f1; have ta2 := (H3.out.cell (p := ⟨g, 1, none⟩) s3).trans a2; have tf2 := (H3.out.frozen (p := ⟨g, 1, none⟩) s3).trans f2; have ta3 := (H3.out.cell (p := ⟨h, 0, none⟩) s4).trans a3; have tf3 := (H3.out.frozen (p := ⟨h, 0, none⟩) s4).trans f3; have ta4 := (H3.out.cell (p := ⟨h, 1, none⟩) s4).trans a4; have tf4 := (H3.out.frozen (p := ⟨h, 1, none⟩) s4).trans f4)
        | (go_at_call 32; (with_reducible refine (MB.out _).mono ?_); rintro e w4 ⟨rfl, hb4⟩; have H4 : Hid (Below wx.heap.size wx w4) := hide (by repeat (first | (refine below_set ?_ ?hsz _; case hsz => (first | omega | (simp; done) | (simp; omega) | (have hs0 := hb.size; simp at hs0 ⊢; omega) | (have hs1 := hb1.size; simp at hs1 ⊢; omega) | (have hs1 := hb1.size; have hs2 := hb2.size; simp at hs1 hs2 ⊢; omega))) | exact Below.refl _ _ | refine below_alloc ?_ _ | refine below_drew ?_ | refine below_drewn ?_ _ | refine below_step ?_ hb | refine below_step ?_ hb0 | refine below_step ?_ hb1 | refine below_step ?_ hb2 | refine below_step ?_ hb3 | refine below_step ?_ hb4 | refine below_step ?_ hb5 | refine below_step ?_ hb6 | refine below_step ?_ hb7)); have g4 : g < w4.heap.size := Nat.lt_of_lt_of_le s3 H4.out.size; have h4 : h < w4.heap.size := Nat.lt_of_lt_of_le s4 H4.out.size; have ua1 := (H4.out.cell (p := ⟨g, 0, none⟩) s3).trans a1; have uf1 := (H4.out.frozen (p := ⟨g, 0, none⟩) s3).trans f1; have ua2 := (H4.out.cell (p := ⟨g, 1, none⟩) s3).trans a2; have uf2 := (H4.out.frozen (p := ⟨g, 1, none⟩) s3).trans f2; have ua3 := (H4.out.cell (p := ⟨h, 0, none⟩) s4).trans a3; have uf3 := (H4.out.frozen (p := ⟨h, 0, none⟩) s4).trans f3; have ua4 := (H4.out.cell (p := ⟨h, 1, none⟩) s4).trans a4; have uf4 := (H4.out.frozen (p := ⟨h, 1, none⟩) s4).trans f4))
      all_goals (
        have s5 : w.heap.size + 1 + 1 < g := Nat.lt_of_lt_of_le z2 s1
        have s6 : w.heap.size + 1 + 1 < h := Nat.lt_of_lt_of_le z2 s2
        have HB4 : Hid (Below w.heap.size w w4) := hide (below_step HBX.out H4.out)
        have R4 := RP.out.below H4.out
        have Q4 := RQ.out.below H4.out
        obtain ⟨X5, hX5⟩ : ∃ X5, X5 = put2 (put2 w4 g (.int .i64 (sgn (-x))) (.slice P (digs x.natAbs).length cp)) h (.int .i64 (sgn (Y : Int))) (.slice Q (digs Y).length cq) := ⟨_, rfl⟩
        have RX : Hid (Row X5 P (digs x.natAbs)) := hide (by rw [hX5]; exact (R4.put fun h0 a e => (NP.out h0 a e).1).put fun h0 a e => (NP.out h0 a e).2)
        have QX : Hid (Row X5 Q (digs Y)) := hide (by rw [hX5]; exact (Q4.put fun h0 a e => (NQ.out (by rw [← HYY.out]; exact h0) a e).1).put fun h0 a e => (NQ.out (by rw [← HYY.out]; exact h0) a e).2)
        have BX : Hid (Below w.heap.size w X5) := hide (by rw [hX5]; exact (((HB4.out.setCell (by simp; omega) _).setCell (by simp; omega) _).setCell (by simp; omega) _).setCell (by simp; omega) _)
        have x0 : X5.cell? ⟨w.heap.size + 1 + 1, 0, none⟩ = some (.int .i64 0) := by rw [hX5, put2_other (by omega), put2_other (by omega)]; exact (H4.out.cell (p := ⟨w.heap.size + 1 + 1, 0, none⟩) zx).trans r0
        have x1 : X5.cell? ⟨w.heap.size + 1 + 1, 1, none⟩ = some (.int .i64 0) := by rw [hX5, put2_other (by omega), put2_other (by omega)]; exact (H4.out.cell (p := ⟨w.heap.size + 1 + 1, 1, none⟩) zx).trans r1
        have k0 : X5.frozen? ⟨w.heap.size + 1 + 1, 0, none⟩ = false := by rw [hX5, put2_free, put2_free]; exact (H4.out.frozen (p := ⟨w.heap.size + 1 + 1, 0, none⟩) zx).trans f0
        have k1 : X5.frozen? ⟨w.heap.size + 1 + 1, 1, none⟩ = false := by rw [hX5, put2_free, put2_free]; exact (H4.out.frozen (p := ⟨w.heap.size + 1 + 1, 1, none⟩) zx).trans f1'
        have l5 : w.heap.size + 1 + 1 < X5.heap.size := World.block_lt_of_cell? _ _ x0
        have HX5 := hide hX5
        have NX := hide (NZ.out (-x) X5 (by rw [if_pos HBN.out]) RX.out QX.out)
        clear hX5 R4 Q4
        go_wp2_with fail
        rw [show (((w4.setCell ⟨g, 0, none⟩ (.int .i64 (sgn (-x)))).setCell ⟨g, 1, none⟩ (.slice P (digs x.natAbs).length cp)).setCell ⟨h, 0, none⟩ (.int .i64 (sgn (Y : Int)))).setCell ⟨h, 1, none⟩ (.slice Q (digs Y).length cq) = X5 from HX5.out.symm]
        refine NX.out.mono ?_
        rintro e w5 ⟨N, cn, rfl, ln, mn, rn, hb5⟩
        have RN := hide rn
        have HB5 := hide hb5
        clear rn hb5 ln mn
        go_wp2_with fail
        refine (fit_any Z c N cn _ RN.out).mono ?_
        rintro e w6 ⟨n', t', x', rfl, hF, hb6⟩
        have HF := hide hF
        have HB6 : Hid (Below X5.heap.size X5 w6) := hide (below_step HB5.out hb6)
        have p0 := (HB6.out.cell (p := ⟨w.heap.size + 1 + 1, 0, none⟩) l5).trans x0
        have p1 := (HB6.out.cell (p := ⟨w.heap.size + 1 + 1, 1, none⟩) l5).trans x1
        have o0 := (HB6.out.frozen (p := ⟨w.heap.size + 1 + 1, 0, none⟩) l5).trans k0
        have o1 := (HB6.out.frozen (p := ⟨w.heap.size + 1 + 1, 1, none⟩) l5).trans k1
        clear hF hb6 x0 x1 k0 k1
        go_wp2_with fail
        exact bodyPost_ret (v := .tuple #[(.agg #[.int .i64 (n'), .int .i64 (t')]), .int .i64 x']) (by simp [results, Tryd.results28, go_sem, p0, p1]) rfl ⟨n', t', x', rfl, DO.out _ _ _ HF.out, (below_step BX.out HB6.out).setCell (by simp; omega) _ |>.setCell (by simp; omega) _⟩)
    · have hbp : 0 < b := by have := HB0.out; omega
      have sy : decide (sgn y < 0) = false := by rw [sgn_pos (hys.2 hbp).2]; rfl
      rw [(hys.2 hbp).1] at a3 sy
      have HBN := hide hbp
      clear hys hbn hbp
      go_wp2_with fail
      refine (NZ.out x _ (by rw [if_neg (by have := HBN.out; omega)]) RP.out RQ.out).mono ?_
      rintro e w5 ⟨N, cn, rfl, ln, mn, rn, hb5⟩
      have RN := hide rn
      have HB5 := hide hb5
      clear rn hb5 ln mn
      go_wp2_with fail
      refine (fit_any Z c N cn _ RN.out).mono ?_
      rintro e w6 ⟨n', t', x', rfl, hF, hb6⟩
      have HF := hide hF
      have HB6 : Hid (Below wx.heap.size wx w6) := hide (below_step HB5.out hb6)
      have p0 := (HB6.out.cell (p := ⟨w.heap.size + 1 + 1, 0, none⟩) zx).trans r0
      have p1 := (HB6.out.cell (p := ⟨w.heap.size + 1 + 1, 1, none⟩) zx).trans r1
      have k0 := (HB6.out.frozen (p := ⟨w.heap.size + 1 + 1, 0, none⟩) zx).trans f0
      have k1 := (HB6.out.frozen (p := ⟨w.heap.size + 1 + 1, 1, none⟩) zx).trans f1'
      clear hF hb6 r0 r1 f0 f1'
      go_wp2_with fail
      exact bodyPost_ret (v := .tuple #[(.agg #[.int .i64 (n'), .int .i64 (t')]), .int .i64 x']) (by simp [results, Tryd.results28, go_sem, p0, p1]) rfl ⟨n', t', x', rfl, DO.out _ _ _ HF.out, (below_step HBX.out HB6.out).setCell (by simp; omega) _ |>.setCell (by simp; omega) _⟩
end Go.Proofs.YtgppimdakafniaaDoor
