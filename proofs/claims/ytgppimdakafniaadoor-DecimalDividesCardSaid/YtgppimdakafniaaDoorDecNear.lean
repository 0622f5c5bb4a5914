/- DecimalNearest, walked. Condition: the tables hold what the program's text lays. -/
import Derived.Test.YtgppimdakafniaaDoorDecQuo
import Derived.Test.YtgppimdakafniaaDoorDecRefAdd
import Derived.Test.YtgppimdakafniaaDoorDecM
namespace Go.Proofs.YtgppimdakafniaaDoor
open Go Go.RowKit Go.PlainAid

set_option maxHeartbeats 2000000 in
theorem minus_any (z : Int) (A : Option Addr) (c : Nat) (w : World) :
    Calls Tryd.prog 32 #[.agg #[.int .i64 (sgn z), .slice A (digs z.natAbs).length c]] w fun e w' => e = .returned (.agg #[.int .i64 (sgn (-z)), .slice A (digs (-z).natAbs).length c]) ∧ Below w.heap.size w w' := by
  have hw : IntKind.i64.wrap (-sgn z) = sgn (-z) := by
    rw [sgn_neg]
    have := sgn_range z
    exact IntWalk.i64_in _ (by omega)
  rw [Int.natAbs_neg]
  generalize sgn (-z) = y at *
  generalize sgn z = x at *
  generalize (digs z.natAbs).length = l at *
  go_enter Tryd.func32, Tryd.ntmps32
  go_wp2_with fail
  exact bodyPost_ret (v := .agg #[.int .i64 y, .slice A l c]) (by simp [results, Tryd.results32, go_sem]) rfl ⟨rfl, below2 _ _ _⟩

/-- where a row lies -/
def Loc (lo hi : Nat) (A : Option Addr) (n : Nat) : Prop := 0 < n → ∃ g off, A = some ⟨g, off, none⟩ ∧ lo ≤ g ∧ g < hi
theorem Row.loc {w : World} {A : Option Addr} {l : List Int} {lo : Nat} (h : Row w A l) (hf : ∀ x, A = some x → lo ≤ x.block) : Loc lo w.heap.size A l.length := fun h0 => by
  obtain ⟨g, off, e, hg, _⟩ := h h0
  exact ⟨g, off, e, hf _ e, hg⟩
theorem Row.loc0 {w : World} {A : Option Addr} {l : List Int} (h : Row w A l) : Loc 0 w.heap.size A l.length := h.loc fun _ _ => Nat.zero_le _
/-- a call returns the integer z as sign and digits, in new memory, or in that of A or B -/
def SumFrom (z : Int) (A B : Option Addr) (na nb : Nat) (w : World) (e : Ending) (w' : World) : Prop :=
  ∃ (P : Option Addr) (c : Nat), e = .returned (.agg #[.int .i64 (sgn z), .slice P (digs z.natAbs).length c]) ∧ (digs z.natAbs).length ≤ c ∧ c ≤ maxLen ∧ Row w' P (digs z.natAbs) ∧
    (Loc w.heap.size w'.heap.size P (digs z.natAbs).length ∨ (P = A ∧ (digs z.natAbs).length = na) ∨ (P = B ∧ (digs z.natAbs).length = nb)) ∧ Below w.heap.size w w'
theorem SumNew.from {z : Int} {A B : Option Addr} {na nb : Nat} {w w' : World} {e : Ending} (h : SumNew z w e w') : SumFrom z A B na nb w e w' := by
  obtain ⟨P, c, h1, h2, h3, h4, h6, h5⟩ := h
  exact ⟨P, c, h1, h2, h3, h4, .inl (h4.loc h6), h5⟩
theorem plus_from (x y : Int) (A B : Option Addr) (ca cb : Nat) (w : World) (ha : Row w A (digs x.natAbs)) (hb : Row w B (digs y.natAbs)) (la : (digs x.natAbs).length ≤ 1000) (lb : (digs y.natAbs).length ≤ 1000)
    (lca : (digs x.natAbs).length ≤ ca) (lcb : (digs y.natAbs).length ≤ cb) (mca : ca ≤ maxLen) (mcb : cb ≤ maxLen) :
    Calls Tryd.prog 30 #[.agg #[.int .i64 (sgn x), .slice A (digs x.natAbs).length ca], .agg #[.int .i64 (sgn y), .slice B (digs y.natAbs).length cb]] w (SumFrom (x + y) A B (digs x.natAbs).length (digs y.natAbs).length w) := by
  have gp : ∀ {p q : Int}, q.natAbs ≤ p.natAbs → 0 ≤ sgn (V (dg (digs p.natAbs)) (digs p.natAbs).length - V (dg (digs q.natAbs)) (digs q.natAbs).length) := fun {p q} h => by
    rw [digs_V, digs_V]; unfold sgn; split <;> (try split) <;> omega
  rcases sgn_cases x with ⟨hx, ex⟩ | ⟨hx, ex⟩ | ⟨hx, ex⟩
  · rcases sgn_cases y with ⟨hy, ey⟩ | ⟨hy, ey⟩ | ⟨hy, ey⟩
    · rw [ex, ey]
      refine (plus_mm _ _ A B ca cb w ha hb la lb (digs_range _) (digs_range _)).mono fun e w' h => ?_
      exact (plus_sum (s := 1) (by omega) (by omega) (by rw [ex, ey]; rfl) (.inl rfl) (by rw [ex]; exact h)).from
    · rw [ex, ey]
      refine (plus_right _ A B _ _ ca cb w (by decide)).mono ?_
      rintro e w' ⟨rfl, hbb⟩
      subst hy
      rw [Int.add_zero]
      exact ⟨A, ca, by rw [ex], lca, mca, ha.below hbb, .inr (.inl ⟨rfl, rfl⟩), hbb⟩
    · by_cases hc : y.natAbs ≤ x.natAbs
      · rw [ex, ey]
        refine (plus_mp _ _ A B ca cb w ha hb la lb (digs_range _) (digs_range _) (gp hc)).mono fun e w' h => ?_
        exact (plus_sum (s := -1) (by omega) (by omega) (by rw [ex, ey]; rfl) (.inr ⟨rfl, hc⟩) (by rw [ex]; exact h)).from
      · rw [ex, ey]
        refine (rec_mp (x + y) (sgn ((x.natAbs : Int) - (y.natAbs : Int))) _ _ A B _ _ ca cb w ha hb (fun W h1 h2 => abv x y _ _ A B ca cb W h1 h2 la lb) (by rw [sgn_of_neg (by omega)]; decide) fun W h1 h2 => ?_).mono fun e w' h => h.from
        refine (plus_pm _ _ B A cb ca W h2 h1 lb la (digs_range _) (digs_range _) (gp (by omega))).mono fun e w' h => ?_
        have := plus_sum (x := y) (y := x) (s := -1) (by omega) (by omega) (by rw [ex, ey]; rfl) (.inr ⟨rfl, by omega⟩) (by rw [ey]; exact h)
        rwa [Int.add_comm] at this
  · rw [ex]
    refine (plus_left _ A B _ _ ca cb w).mono ?_
    rintro e w' ⟨rfl, hbb⟩
    subst hx
    rw [Int.zero_add]
    exact ⟨B, cb, rfl, lcb, mcb, hb.below hbb, .inr (.inr ⟨rfl, rfl⟩), hbb⟩
  · rcases sgn_cases y with ⟨hy, ey⟩ | ⟨hy, ey⟩ | ⟨hy, ey⟩
    · by_cases hc : y.natAbs ≤ x.natAbs
      · rw [ex, ey]
        refine (plus_pm _ _ A B ca cb w ha hb la lb (digs_range _) (digs_range _) (gp hc)).mono fun e w' h => ?_
        exact (plus_sum (s := -1) (by omega) (by omega) (by rw [ex, ey]; rfl) (.inr ⟨rfl, hc⟩) (by rw [ex]; exact h)).from
      · rw [ex, ey]
        refine (rec_pm (x + y) (sgn ((x.natAbs : Int) - (y.natAbs : Int))) _ _ A B _ _ ca cb w ha hb (fun W h1 h2 => abv x y _ _ A B ca cb W h1 h2 la lb) (by rw [sgn_of_neg (by omega)]; decide) fun W h1 h2 => ?_).mono fun e w' h => h.from
        refine (plus_mp _ _ B A cb ca W h2 h1 lb la (digs_range _) (digs_range _) (gp (by omega))).mono fun e w' h => ?_
        have := plus_sum (x := y) (y := x) (s := -1) (by omega) (by omega) (by rw [ex, ey]; rfl) (.inr ⟨rfl, by omega⟩) (by rw [ey]; exact h)
        rwa [Int.add_comm] at this
    · rw [ex, ey]
      refine (plus_right _ A B _ _ ca cb w (by decide)).mono ?_
      rintro e w' ⟨rfl, hbb⟩
      subst hy
      rw [Int.add_zero]
      exact ⟨A, ca, by rw [ex], lca, mca, ha.below hbb, .inr (.inl ⟨rfl, rfl⟩), hbb⟩
    · rw [ex, ey]
      refine (plus_pp _ _ A B ca cb w ha hb la lb (digs_range _) (digs_range _)).mono fun e w' h => ?_
      exact (plus_sum (s := 1) (by omega) (by omega) (by rw [ex, ey]; rfl) (.inl rfl) (by rw [ex]; exact h)).from
theorem plus_minus (x y : Int) (A B : Option Addr) (ca cb : Nat) (w : World) (ha : Row w A (digs x.natAbs)) (hb : Row w B (digs y.natAbs)) (la : (digs x.natAbs).length ≤ 1000) (lb : (digs y.natAbs).length ≤ 1000)
    (lca : (digs x.natAbs).length ≤ ca) (lcb : (digs y.natAbs).length ≤ cb) (mca : ca ≤ maxLen) (mcb : cb ≤ maxLen) :
    Calls Tryd.prog 30 #[.agg #[.int .i64 (sgn x), .slice A (digs x.natAbs).length ca], .agg #[.int .i64 (sgn (-y)), .slice B (digs y.natAbs).length cb]] w (SumFrom (x + -y) A B (digs x.natAbs).length (digs y.natAbs).length w) := by
  have := plus_from x (-y) A B ca cb w ha (by rw [Int.natAbs_neg]; exact hb) la (by rw [Int.natAbs_neg]; exact lb) lca (by rw [Int.natAbs_neg]; exact lcb) mca mcb
  rwa [Int.natAbs_neg] at this

/-- a slot that points to a new struct of sign and digits, whose digits lie elsewhere -/
def DPair (W wx : World) (s : Value) (z : Int) : Prop := ∃ (g : Nat) (P : Option Addr) (cp : Nat), s = .pointer (some ⟨g, 0, none⟩) ∧ wx.cell? ⟨g, 0, none⟩ = some (.int .i64 (sgn z)) ∧ wx.cell? ⟨g, 1, none⟩ = some (.slice P (digs z.natAbs).length cp) ∧
  wx.frozen? ⟨g, 0, none⟩ = false ∧ wx.frozen? ⟨g, 1, none⟩ = false ∧ g < wx.heap.size ∧ W.heap.size ≤ g ∧ (digs z.natAbs).length ≤ cp ∧ cp ≤ maxLen ∧ Row wx P (digs z.natAbs) ∧ (0 < (digs z.natAbs).length → ∀ x, P = some x → x.block ≠ g) ∧ Below W.heap.size W wx
theorem Row.far {w : World} {P : Option Addr} {l : List Int} {g : Nat} (h : Row w P l) (ha : 0 < l.length → ∀ x, P = some x → x.block ≠ g) (i : Nat) (v : Value) : Row (w.setCell ⟨g, i, none⟩ v) P l := fun h0 => by
  obtain ⟨b, off, e, hb, hc⟩ := h h0
  have hne := ha h0 _ e
  exact ⟨b, off, e, by simpa [World.setCell] using hb, fun j hj => (World.cell?_setCell_other _ _ _ _ (fun e => hne (by injection e with e1; exact e1.symm))).trans (hc j hj)⟩
theorem DPair.alloc {W X : World} {z : Int} {P : Option Addr} {cp : Nat} (h : Below W.heap.size W X) (h1 : (digs z.natAbs).length ≤ cp) (h2 : cp ≤ maxLen) (hr : Row X P (digs z.natAbs)) (T : TypeId) :
    DPair W (X.alloc (.cells #[.int .i64 (sgn z), .slice P (digs z.natAbs).length cp] T)) (.pointer (some ⟨X.heap.size, 0, none⟩)) z :=
  ⟨X.heap.size, P, cp, rfl, one0 _ _ _ _, one1 _ _ _ _, by simp [go_sem], by simp [go_sem], by simp, h.size, h1, h2, hr.below (below1 _ _), fun h0 x hx => by
    obtain ⟨b, off, e, hb, _⟩ := hr h0
    rw [hx] at e
    injection e with e
    rw [e]
    exact Nat.ne_of_lt hb, below_alloc h _⟩
theorem DPair.set {W X : World} {z : Int} {P : Option Addr} {cp g : Nat} {u v : Value} (h : Below W.heap.size W X) (h1 : (digs z.natAbs).length ≤ cp) (h2 : cp ≤ maxLen) (hr : Row X P (digs z.natAbs)) (hg : W.heap.size ≤ g)
    (c0 : X.cell? ⟨g, 0, none⟩ = some u) (c1 : X.cell? ⟨g, 1, none⟩ = some v) (f0 : X.frozen? ⟨g, 0, none⟩ = false) (f1 : X.frozen? ⟨g, 1, none⟩ = false) (ha : 0 < (digs z.natAbs).length → ∀ x, P = some x → x.block ≠ g) :
    DPair W ((X.setCell ⟨g, 0, none⟩ (.int .i64 (sgn z))).setCell ⟨g, 1, none⟩ (.slice P (digs z.natAbs).length cp)) (.pointer (some ⟨g, 0, none⟩)) z := by
  obtain ⟨g', e, a0, a1, b0, b1, b2, b3, b4⟩ := NewPair.set h hg c0 c1 f0 f1 (.int .i64 (sgn z)) (.slice P (digs z.natAbs).length cp)
  obtain rfl : g = g' := by injection e with e; injection e with e; injection e with e
  exact ⟨g, P, cp, rfl, a0, a1, b0, b1, b2, b3, h1, h2, (hr.far ha _ _).far ha _ _, ha, b4⟩

set_option maxRecDepth 100000 in
set_option maxHeartbeats 16000000 in
theorem decimalNearest_walk (a sa c : Int) (w : World) (hL : Laid w) :
    Calls Tryd.prog 9 #[(.agg #[.int .i64 (a), .int .i64 (sa)]), .int .i64 c] w fun e w' => e = .returned (.bool true) ∧ Below w.heap.size w w' := by
  have PH := hide hL.pows
  clear hL
  go_enter Tryd.func9, Tryd.ntmps9
  go_wp2_with fail
  refine (round_any a sa c _ (PH.out.below (below1 _ _))).mono ?_
  rintro e w1 ⟨n, t, x, rfl, hN, hb1⟩
  have k1 := new0 hb1
  have k2 := new1 hb1
  have hB : Below w.heap.size w w1 := below_new (Below.refl _ _) hb1
  have l1 : w.heap.size < w1.heap.size := World.block_lt_of_cell? _ _ k1
  have HN := hide hN
  clear hb1 hN
  go_wp2_with fail
  refine (known_any _ (PH.out.below (below_alloc hB _))).mono ?_
  rintro e w2 ⟨rfl, hb2⟩
  have p1 := new0 hb2
  have p2 := new1 hb2
  replace k1 := lift1 hb2 k1
  replace k2 := lift1 hb2 k2
  replace hB := below_new hB hb2
  have l2 : w1.heap.size < w2.heap.size := World.block_lt_of_cell? _ _ p1
  have l1' : w.heap.size < w2.heap.size := World.block_lt_of_cell? _ _ k1
  clear hb2
  by_cases hx : x = 0
  · subst hx
    obtain ⟨oa, c0, c1, hs, htc, hnn⟩ := HN.out.ok rfl
    clear hnn
    obtain rfl : t = c := htc
    have OA := hide oa
    have OX : Hid (okN n t) := hide ⟨hs.1, hs.2, c0, c1⟩
    have HS := hide hs
    clear oa hs
    go_wp2_with fail
    refine (round_any n t t _ (PH.out.below hB)).mono ?_
    rintro e w3 ⟨n', t', x', rfl, hN', hb3⟩
    obtain ⟨en, et, ex⟩ := rnd_again HS.out c0 c1 hN'
    obtain rfl : n = n' := en.symm
    obtain rfl : t = t' := et.symm
    obtain rfl : 0 = x' := ex.symm
    replace k1 := lift0 hb3 k1
    replace k2 := lift0 hb3 k2
    replace p1 := lift0 hb3 p1
    replace p2 := lift0 hb3 p2
    replace hB := below_step hB hb3
    have l3 : w1.heap.size < w3.heap.size := World.block_lt_of_cell? _ _ p1
    have l4 : w.heap.size < w3.heap.size := World.block_lt_of_cell? _ _ k1
    clear hN' hb3 l2 l1'
    go_wp2_with fail
    refine (is_yes _ _ _ OA.out).mono ?_
    rintro e w4 ⟨rfl, hb4⟩
    replace k1 := lift1 hb4 k1
    replace k2 := lift1 hb4 k2
    replace p1 := lift1 hb4 p1
    replace p2 := lift1 hb4 p2
    replace hB := below_new hB hb4
    have l5 : w1.heap.size < w4.heap.size := World.block_lt_of_cell? _ _ p1
    have l6 : w.heap.size < w4.heap.size := World.block_lt_of_cell? _ _ k1
    clear hb4 l3 l4
    go_wp2_with fail
    refine (is_yes _ _ _ OX.out).mono ?_
    rintro e w5 ⟨rfl, hb5⟩
    replace k1 := lift0 hb5 k1
    replace k2 := lift0 hb5 k2
    replace p1 := lift0 hb5 p1
    replace p2 := lift0 hb5 p2
    replace hB := below_step hB hb5
    have l7 : w1.heap.size < w5.heap.size := World.block_lt_of_cell? _ _ p1
    have l8 : w.heap.size < w5.heap.size := World.block_lt_of_cell? _ _ k1
    clear hb5 l5 l6
    obtain ⟨m, hm⟩ : ∃ m, m = max sa t := ⟨_, rfl⟩
    have m1 : sa ≤ m := by omega
    have m2 : t ≤ m := by omega
    have m3 : m ≤ 12 := by have := OA.out.2.2.2; omega
    have HM := hide hm
    have CA : Hid (∀ W, Calls Tryd.prog 31 #[(.agg #[.int .i64 (a), .int .i64 (sa)]), .int .i64 m] W (NumIs (sca a sa m) W)) := hide fun W => at_any a sa m W OA.out m1 m3
    have CX : Hid (∀ W, Calls Tryd.prog 31 #[(.agg #[.int .i64 (n), .int .i64 (t)]), .int .i64 m] W (NumIs (sca n t m) W)) := hide fun W => at_any n t m W OX.out m2 m3
    have DA := hide (digs_len_sca OA.out m1 m3)
    have DX := hide (digs_len_sca OX.out m2 m3)
    have HNR := hide (rnd_near HN.out)
    have BA := hide (Fits.scaled (s := sa) (m := m) ⟨OA.out.1, OA.out.2.1⟩ m1 (by have := OA.out.2.2.1; omega))
    have BX := hide (Fits.scaled (s := t) (m := m) ⟨OX.out.1, OX.out.2.1⟩ m2 (by have := OX.out.2.2.1; omega))
    obtain ⟨z1, hz1⟩ : ∃ z, z = sca a sa m := ⟨_, rfl⟩
    obtain ⟨z2, hz2⟩ : ∃ z, z = sca n t m := ⟨_, rfl⟩
    rw [← hz1] at CA DA BA
    rw [← hz2] at CX DX BX
    have HZ1 := hide hz1
    have HZ2 := hide hz2
    clear hm hz1 hz2 HN
    go_wp2_with fail
    rw [← HM.out]
    go_cut [10] (fun s10 wx => DPair w5 wx s10 (z1 + -z2))
    case first =>
      go_region_held3 (fun w' => w'.cell? ⟨w.heap.size, 0, none⟩ = some (.int .i64 a) ∧ w'.cell? ⟨w.heap.size, 1, none⟩ = some (.int .i64 sa) ∧ w'.cell? ⟨w1.heap.size, 0, none⟩ = some (.int .i64 n) ∧ w'.cell? ⟨w1.heap.size, 1, none⟩ = some (.int .i64 t) ∧ Below w5.heap.size w5 w')
        ((refine keep4 ?_ l8 k1 l8 k2 l7 p1 l7 p2; repeat (first | (refine below_set ?_ ?hsz _; case hsz => (first | omega | (simp; done) | (simp; omega) | (have hs0 := hb.size; simp at hs0 ⊢; omega) | (have hs1 := hb1.size; simp at hs1 ⊢; omega) | (have hs1 := hb1.size; have hs2 := hb2.size; simp at hs1 hs2 ⊢; omega))) | exact Below.refl _ _ | refine below_alloc ?_ _ | refine below_drew ?_ | refine below_drewn ?_ _ | refine below_step ?_ hb | refine below_step ?_ hb0 | refine below_step ?_ hb1 | refine below_step ?_ hb2 | refine below_step ?_ hb3 | refine below_step ?_ hb4 | refine below_step ?_ hb5 | refine below_step ?_ hb6 | refine below_step ?_ hb7)))
        (first
        | (go_at_call 31; (with_reducible refine (CA.out _).mono ?_); rintro e w6 ⟨A, ca, rfl, la, lca, ra, fa, hb6⟩; have LCA := hide (ra.loc fa); have RA := hide ra; have LA := hide la; clear ra fa la; obtain ⟨hc6, hf6⟩ := bcell hb6; have sz6 := hb6.size; (try simp at sz6); (try (have z5x6 : w5.heap.size < w6.heap.size := by omega)); (try (have z7x6 : w7.heap.size < w6.heap.size := by omega)); (try (have z8x6 : w8.heap.size < w6.heap.size := by omega)); (try (have z9x6 : w9.heap.size < w6.heap.size := by omega)))
        | (go_at_call 31; (with_reducible refine (CX.out _).mono ?_); rintro e w7 ⟨B, cb, rfl, lb, lcb, rb, fb, hb7⟩; have LCB := hide (rb.loc fb); have RB := hide rb; have LB := hide lb; clear rb fb lb; obtain ⟨hc7, hf7⟩ := bcell hb7; have sz7 := hb7.size; (try simp at sz7); (try (have z5x7 : w5.heap.size < w7.heap.size := by omega)); (try (have z6x7 : w6.heap.size < w7.heap.size := by omega)); (try (have z8x7 : w8.heap.size < w7.heap.size := by omega)); (try (have z9x7 : w9.heap.size < w7.heap.size := by omega)))
        | (go_at_call 32; (with_reducible refine (minus_any z2 B cb _).mono ?_); rintro e w8 ⟨rfl, hb1⟩; obtain ⟨hc8, hf8⟩ := bcell hb1; have sz8 := hb1.size; (try simp at sz8); (try (have z5x8 : w5.heap.size < w8.heap.size := by omega)); (try (have z6x8 : w6.heap.size < w8.heap.size := by omega)); (try (have z7x8 : w7.heap.size < w8.heap.size := by omega)); (try (have z9x8 : w9.heap.size < w8.heap.size := by omega)))
        | (go_at_call 30; (with_reducible refine (plus_minus z1 z2 A B ca cb _ ?_ ?_ ?_ ?_ ?_ ?_ ?_ ?_).mono ?_); (exact RA.out.below (by repeat (first | (refine below_set ?_ ?hsz _; case hsz => (first | omega | (simp; done) | (simp; omega) | (have hs0 := hb.size; simp at hs0 ⊢; omega) | (have hs1 := hb1.size; simp at hs1 ⊢; omega) | (have hs1 := hb1.size; have hs2 := hb2.size; simp at hs1 hs2 ⊢; omega))) | exact Below.refl _ _ | refine below_alloc ?_ _ | refine below_drew ?_ | refine below_drewn ?_ _ | refine below_step ?_ hb | refine below_step ?_ hb0 | refine below_step ?_ hb1 | refine below_step ?_ hb2 | refine below_step ?_ hb3 | refine below_step ?_ hb4 | refine below_step ?_ hb5 | refine below_step ?_ hb6 | refine below_step ?_ hb7))); (exact RB.out.below (by repeat (first | (refine below_set ?_ ?hsz _; case hsz => (first | omega | (simp; done) | (simp; omega) | (have hs0 := hb.size; simp at hs0 ⊢; omega) | (have hs1 := hb1.size; simp at hs1 ⊢; omega) | (have hs1 := hb1.size; have hs2 := hb2.size; simp at hs1 hs2 ⊢; omega))) | exact Below.refl _ _ | refine below_alloc ?_ _ | refine below_drew ?_ | refine below_drewn ?_ _ | refine below_step ?_ hb | refine below_step ?_ hb0 | refine below_step ?_ hb1 | refine below_step ?_ hb2 | refine below_step ?_ hb3 | refine below_step ?_ hb4 | refine below_step ?_ hb5 | refine below_step ?_ hb6 | refine below_step ?_ hb7))); (have := DA.out; omega); (have := DX.out; omega); (exact LA.out); (exact LB.out); (exact lca); (exact lcb); rintro e w9 ⟨P, cp, rfl, lp, lcp, rp, lo, hb2⟩; have RP := hide rp; have LP := hide lp; have LCP := hide lo; clear rp lp lo; have hW : Below w5.heap.size w5 w9 := (by repeat (first | (refine below_set ?_ ?hsz _; case hsz => (first | omega | (simp; done) | (simp; omega) | (have hs0 := hb.size; simp at hs0 ⊢; omega) | (have hs1 := hb1.size; simp at hs1 ⊢; omega) | (have hs1 := hb1.size; have hs2 := hb2.size; simp at hs1 hs2 ⊢; omega))) | exact Below.refl _ _ | refine below_alloc ?_ _ | refine below_drew ?_ | refine below_drewn ?_ _ | refine below_step ?_ hb | refine below_step ?_ hb0 | refine below_step ?_ hb1 | refine below_step ?_ hb2 | refine below_step ?_ hb3 | refine below_step ?_ hb4 | refine below_step ?_ hb5 | refine below_step ?_ hb6 | refine below_step ?_ hb7)); obtain ⟨hc9, hf9⟩ := bcell hb2; have sz9 := hb2.size; (try simp at sz9); (try (have z5x9 : w5.heap.size < w9.heap.size := by omega)); (try (have z6x9 : w6.heap.size < w9.heap.size := by omega)); (try (have z7x9 : w7.heap.size < w9.heap.size := by omega)); (try (have z8x9 : w8.heap.size < w9.heap.size := by omega))))
      all_goals (go_wp2_with fail; go_meet)
      all_goals (first
        | (exact DPair.alloc hW LP.out lcp RP.out _)
        | (refine DPair.set (u := .int .i64 0) (v := .slice none 0 0) hW LP.out lcp RP.out ?qb ?qc ?qd ?qe ?qf ?qa
           case qb => first | (simp; done) | omega
           case qc => first | (simp [*]; done) | (simp [*, go_sem]; done)
           case qd => first | (simp [*]; done) | (simp [*, go_sem]; done)
           case qe => first | (simp [*]; done) | (simp [*, go_sem]; done)
           case qf => first | (simp [*]; done) | (simp [*, go_sem]; done)
           case qa =>
             intro h0 x hx
             rcases LCP.out with h | ⟨h, hn⟩ | ⟨h, hn⟩
             · obtain ⟨g', off, e, ha, hb⟩ := h h0
               rw [hx] at e
               injection e with e
               subst e
               first | (simp at ha ⊢; omega) | (simp at ⊢; omega) | omega
             · obtain ⟨g', off, e, ha, hb⟩ := LCA.out (by omega)
               rw [← h, hx] at e
               injection e with e
               subst e
               first | (simp at ha ⊢; omega) | (simp at ⊢; omega) | omega
             · obtain ⟨g', off, e, ha, hb⟩ := LCB.out (by omega)
               rw [← h, hx] at e
               injection e with e
               subst e
               first | (simp at ha ⊢; omega) | (simp at ⊢; omega) | omega))
    case rest =>
      obtain ⟨g, P, cp, rfl, d0, d1, f0, f1, hg, hg', hl1, hl2, hrow, hap, hb⟩ := hcut
      have px := lift0 hb p1
      have lx := World.block_lt_of_cell? _ _ px
      have hgx : w1.heap.size ≠ g := by omega
      clear p1 p2 k1 k2
      obtain ⟨D, hD⟩ : ∃ D, D = z1 + -z2 := ⟨_, rfl⟩
      have LD : (digs D.natAbs).length ≤ 1000 := by
        have h1 := BA.out
        have h2 := BX.out
        have := digs_len (n := D.natAbs) (k := 28) (by
          have e : (10 : Nat) ^ 28 = 10000000000000000000000000000 := by decide
          omega)
        omega
      rw [← hD] at d0 d1 hl1 hrow hap
      have HD := hide hD
      have HAP := hide hap
      have HROW := hide hrow
      have HLD := hide LD
      clear hD CA CX hap hrow LD
      go_upto_region 11 with fail
      go_cut [] (fun w0 => ∃ wx : World, wx = w0 ∧ (∃ (Q : Option Addr) (cq : Nat), wx.cell? ⟨g, 0, none⟩ = some (.int .i64 (sgn (D + D))) ∧ wx.cell? ⟨g, 1, none⟩ = some (.slice Q (digs (D + D).natAbs).length cq) ∧ wx.frozen? ⟨g, 0, none⟩ = false ∧ wx.frozen? ⟨g, 1, none⟩ = false ∧ Row wx Q (digs (D + D).natAbs) ∧ (0 < (digs (D + D).natAbs).length → ∀ x, Q = some x → x.block ≠ g)) ∧ wx.cell? ⟨w1.heap.size, 0, none⟩ = some (.int .i64 n) ∧ Below w5.heap.size w5 wx)
      case first =>
        go_wp2_with fail
        refine (plus_from D D P P cp cp _ HROW.out HROW.out HLD.out HLD.out hl1 hl1 hl2 hl2).mono ?_
        rintro e w6 ⟨Q, cq, rfl, lq, lcq, rq, lo, hb6⟩
        have e0 := lift0 hb6 d0
        have e1 := lift0 hb6 d1
        obtain ⟨_, hf6⟩ := bcell hb6
        have g0 := (hf6 g 0 hg).trans f0
        have g1 := (hf6 g 1 hg).trans f1
        have ha : 0 < (digs (D + D).natAbs).length → ∀ x, Q = some x → x.block ≠ g := fun h0 x hx => by
          rcases lo with h | ⟨h, hn⟩ | ⟨h, hn⟩
          · obtain ⟨g', off, e, ha, hb⟩ := h h0
            rw [hx] at e
            injection e with e
            subst e
            show g' ≠ g
            omega
          · exact HAP.out (by omega) x (by rw [← h, hx])
          · exact HAP.out (by omega) x (by rw [← h, hx])
        have hd2 := DPair.set (below_step hb hb6) lq lcq rq hg' e0 e1 g0 g1 ha
        have px6 := (World.cell?_setCell_other _ ⟨g, 1, none⟩ ⟨w1.heap.size, 0, none⟩ (.slice Q (digs (D + D).natAbs).length cq) (by first | (simp; done) | (simp; omega))).trans ((World.cell?_setCell_other _ ⟨g, 0, none⟩ ⟨w1.heap.size, 0, none⟩ (.int .i64 (sgn (D + D))) (by first | (simp; done) | (simp; omega))).trans (lift0 hb6 px))
        obtain ⟨g9, Q9, cq9, h1, h2, h3, h4, h5, _, _, _, _, h6, h7, h8⟩ := hd2
        obtain rfl : g = g9 := by injection h1 with h1; injection h1 with h1; injection h1 with h1
        have H2 := hide h2
        have H3 := hide h3
        have H4 := hide h4
        have H5 := hide h5
        have H6 := hide h6
        have H7 := hide h7
        have H8 := hide h8
        have PX6 := hide px6
        clear h2 h3 h4 h5 h6 h7 h8 px6 ha lo lq lcq rq
        go_wp2_with fail
        go_meet
        exact ⟨_, rfl, ⟨Q9, cq9, H2.out, H3.out, H4.out, H5.out, H6.out, H7.out⟩, PX6.out, H8.out⟩
      case rest =>
        obtain ⟨W0, hw0, ⟨Q, cq, e0, e1, g0, g1, hq, hqa⟩, px6, hb6⟩ := hcut
        subst hw0
        clear hb px f0 f1 d0 d1 HROW HAP
        have hwt : IntKind.i64.wrap (m - t) = m - t := IntWalk.i64_in _ (by omega)
        obtain ⟨ze, hze⟩ : ∃ ze : Nat, m - t = ze := ⟨(m - t).toNat, by omega⟩
        obtain ⟨Z, hZ⟩ : ∃ Z : Int, Z = ((10 ^ ze : Nat) : Int) := ⟨_, rfl⟩
        have CF : Hid (∀ W, Calls Tryd.prog 34 #[.int .i64 1, .int .i64 (m - t)] W (NumIs Z W)) := hide fun W => by
          have := of_any 1 ze W (by decide) (by decide) (by omega)
          rw [Int.one_mul, ← hZ, ← hze] at this
          exact this
        have LZ : Hid ((digs Z.natAbs).length ≤ 1000) := hide (by
          have h1 : 10 ^ ze ≤ 10 ^ 12 := Nat.pow_le_pow_right (by decide) (by omega)
          have h2 : Z.natAbs = 10 ^ ze := by rw [hZ]; rfl
          have e : (10 : Nat) ^ 13 = 10 * 10 ^ 12 := by decide
          have := digs_len (n := Z.natAbs) (k := 13) (by rw [h2]; omega)
          omega)
        have HR : Hid ((2 * D ≤ Z ∧ -(2 * D) ≤ Z) ∧ ((2 * D = Z ∨ -(2 * D) = Z) → n % 2 = 0)) := hide (by
          have h := HNR.out
          rw [← HM.out, ← HZ1.out, ← HZ2.out, ← HD.out] at h
          have hz : ten (m - t) = Z := by unfold ten; rw [hze, Int.toNat_natCast, hZ]; push_cast; rfl
          rw [hz] at h
          exact h)
        have hD28 : Hid (D.natAbs < 10000000000000000000000000000) := hide (by
          have h1 := BA.out
          have h2 := BX.out
          have h3 := HD.out
          omega)
        have HZZ := hide hZ
        have HZE := hide hze
        clear hZ hze HNR
        by_cases neg : D < 0
        · obtain ⟨E, hE⟩ : ∃ E, E = -(D + D) := ⟨_, rfl⟩
          have q1 : decide (sgn (D + D) < 0) = true := by rw [sgn_of_neg (by omega)]; rfl
          have LE : Hid ((digs E.natAbs).length ≤ 1000) := hide (by
            have e : (10 : Nat) ^ 29 = 100000000000000000000000000000 := by decide
            have := hD28.out
            have := digs_len (n := E.natAbs) (k := 29) (by omega)
            omega)
          have HK : Hid (sgn (E - Z) = -1 ∨ (sgn (E - Z) = 0 ∧ n % 2 = 0)) := hide (by
            obtain ⟨⟨h1, h2⟩, h3⟩ := HR.out
            rcases Int.lt_or_le E Z with h | h
            · exact .inl (sgn_of_neg (by omega))
            · have : E = Z := by omega
              exact .inr ⟨by rw [this, Int.sub_self]; rfl, h3 (.inr (by omega))⟩)
          have CM : Hid (∀ W, Calls Tryd.prog 32 #[.agg #[.int .i64 (sgn (D + D)), .slice Q (digs (D + D).natAbs).length cq]] W fun e w' => e = .returned (.agg #[.int .i64 (sgn E), .slice Q (digs E.natAbs).length cq]) ∧ Below W.heap.size W w') := hide fun W => by
            have := minus_any (D + D) Q cq W
            rw [← hE] at this
            exact this
          have hEl : (digs (D + D).natAbs).length = (digs E.natAbs).length := by rw [hE, Int.natAbs_neg]
          have HRQ : Hid (∀ W, Row W Q (digs (D + D).natAbs) → Row W Q (digs E.natAbs)) := hide fun W h => by
            rw [hE, Int.natAbs_neg]; exact h
          have HQQ := hide hq
          have HQA := hide hqa
          clear hE hq hqa hEl
          go_wp2_with fail
          refine (CM.out _).mono ?_
          rintro e w7 ⟨rfl, hb7⟩
          have y0 := lift0 hb7 e0
          have y1 := lift0 hb7 e1
          have hgy := World.block_lt_of_cell? _ _ e0
          obtain ⟨_, hf7⟩ := bcell hb7
          have z0 := (hf7 g 0 hgy).trans g0
          have z1' := (hf7 g 1 hgy).trans g1
          have HQ7 := HQQ.out.below hb7
          have HQ8 := HRQ.out _ ((HQ7.far HQA.out 0 (.int .i64 (sgn E))).far HQA.out 1 (.slice Q (digs E.natAbs).length cq))
          have pz : ((w7.setCell ⟨g, 0, none⟩ (.int .i64 (sgn E))).setCell ⟨g, 1, none⟩ (.slice Q (digs E.natAbs).length cq)).cell? ⟨w1.heap.size, 0, none⟩ = some (.int .i64 n) := (World.cell?_setCell_other _ _ _ _ (by first | (simp; done) | (simp; omega))).trans ((World.cell?_setCell_other _ _ _ _ (by first | (simp; done) | (simp; omega))).trans (lift0 hb7 px6))
          have u0 : ((w7.setCell ⟨g, 0, none⟩ (.int .i64 (sgn E))).setCell ⟨g, 1, none⟩ (.slice Q (digs E.natAbs).length cq)).cell? ⟨g, 0, none⟩ = some (.int .i64 (sgn E)) := (World.cell?_setCell_other _ _ _ _ (by simp)).trans (World.cell?_setCell_same _ _ _ y0)
          have u1 : ((w7.setCell ⟨g, 0, none⟩ (.int .i64 (sgn E))).setCell ⟨g, 1, none⟩ (.slice Q (digs E.natAbs).length cq)).cell? ⟨g, 1, none⟩ = some (.slice Q (digs E.natAbs).length cq) := World.cell?_setCell_same _ _ _ ((World.cell?_setCell_other _ _ _ _ (by simp)).trans y1)
          have BW : Below w5.heap.size w5 ((w7.setCell ⟨g, 0, none⟩ (.int .i64 (sgn E))).setCell ⟨g, 1, none⟩ (.slice Q (digs E.natAbs).length cq)) := ((below_step hb6 hb7).setCell hg' _).setCell hg' _
          go_upto_region 14 with fail
          have HQ := hide HQ8
          clear HQ8 HQ7 HQQ y0 y1 z0 z1' hf7 hgy e0 e1 g0 g1 px6 hb7 hb6
          generalize hV0 : (w7.setCell ⟨g, 0, none⟩ (.int .i64 (sgn E))).setCell ⟨g, 1, none⟩ (.slice Q (digs E.natAbs).length cq) = V0 at *
          clear hV0
          have KB : Hid (Below w.heap.size w V0) := hide (below_step hB BW)
          have gW : g < V0.heap.size := World.block_lt_of_cell? _ _ u0
          have pW : w1.heap.size < V0.heap.size := World.block_lt_of_cell? _ _ pz
          obtain ⟨kv, hkv, hk2⟩ : ∃ kv : Int, kv = sgn (E - Z) ∧ (kv = -1 ∨ (kv = 0 ∧ n % 2 = 0)) := ⟨_, rfl, HK.out⟩
          have CO : Hid (∀ (W : World) (B : Option Addr) (cb : Nat), Row W Q (digs E.natAbs) → Row W B (digs Z.natAbs) → Calls Tryd.prog 33 #[.agg #[.int .i64 (sgn E), .slice Q (digs E.natAbs).length cq], .agg #[.int .i64 (sgn Z), .slice B (digs Z.natAbs).length cb]] W fun e w' => e = .returned (.int .i64 kv) ∧ Below W.heap.size W w') := hide fun W B cb h1 h2 => by
            rw [hkv]
            exact order_any E Z Q B cq cb W h1 h2 (by have := LE.out; omega) (by have := LZ.out; omega)
          clear hkv
          have HAVE : Hid (kv = -1 ∨ (kv = 0 ∧ n % 2 = 0)) := hide hk2
          clear hk2
          go_cut [11] (fun s11 wx => s11 = .int .i64 kv ∧ wx.cell? ⟨w1.heap.size, 0, none⟩ = some (.int .i64 n) ∧ Below V0.heap.size V0 wx)
          case first =>
            go_region_held3 (fun w' => w'.cell? ⟨g, 0, none⟩ = some (.int .i64 (sgn E)) ∧ w'.cell? ⟨g, 1, none⟩ = some (.slice Q (digs E.natAbs).length cq) ∧ w'.cell? ⟨w1.heap.size, 0, none⟩ = some (.int .i64 n) ∧ w'.cell? ⟨w1.heap.size, 0, none⟩ = some (.int .i64 n) ∧ Below V0.heap.size V0 w')
              ((refine keep4 ?_ gW u0 gW u1 pW pz pW pz; repeat (first | (refine below_set ?_ ?hsz _; case hsz => (first | omega | (simp; done) | (simp; omega) | (have hs0 := hb.size; simp at hs0 ⊢; omega) | (have hs1 := hb1.size; simp at hs1 ⊢; omega) | (have hs1 := hb1.size; have hs2 := hb2.size; simp at hs1 hs2 ⊢; omega))) | exact Below.refl _ _ | refine below_alloc ?_ _ | refine below_drew ?_ | refine below_drewn ?_ _ | refine below_step ?_ hb | refine below_step ?_ hb0 | refine below_step ?_ hb1 | refine below_step ?_ hb2 | refine below_step ?_ hb3 | refine below_step ?_ hb4 | refine below_step ?_ hb5 | refine below_step ?_ hb6 | refine below_step ?_ hb7)))
              (first
                | (go_at_call 34; (with_reducible refine (CF.out _).mono ?_); rintro e w8 ⟨B, cb, rfl, lb, lcb, rb, fb, hb1⟩; have RB := hide rb; clear rb fb lb)
                | (go_at_call 33; (with_reducible refine (CO.out _ B cb ?_ ?_).mono ?_); (exact HQ.out.below (by repeat (first | (refine below_set ?_ ?hsz _; case hsz => (first | omega | (simp; done) | (simp; omega) | (have hs0 := hb.size; simp at hs0 ⊢; omega) | (have hs1 := hb1.size; simp at hs1 ⊢; omega) | (have hs1 := hb1.size; have hs2 := hb2.size; simp at hs1 hs2 ⊢; omega))) | exact Below.refl _ _ | refine below_alloc ?_ _ | refine below_drew ?_ | refine below_drewn ?_ _ | refine below_step ?_ hb | refine below_step ?_ hb0 | refine below_step ?_ hb1 | refine below_step ?_ hb2 | refine below_step ?_ hb3 | refine below_step ?_ hb4 | refine below_step ?_ hb5 | refine below_step ?_ hb6 | refine below_step ?_ hb7))); (exact RB.out.below (by repeat (first | (refine below_set ?_ ?hsz _; case hsz => (first | omega | (simp; done) | (simp; omega) | (have hs0 := hb.size; simp at hs0 ⊢; omega) | (have hs1 := hb1.size; simp at hs1 ⊢; omega) | (have hs1 := hb1.size; have hs2 := hb2.size; simp at hs1 hs2 ⊢; omega))) | exact Below.refl _ _ | refine below_alloc ?_ _ | refine below_drew ?_ | refine below_drewn ?_ _ | refine below_step ?_ hb | refine below_step ?_ hb0 | refine below_step ?_ hb1 | refine below_step ?_ hb2 | refine below_step ?_ hb3 | refine below_step ?_ hb4 | refine below_step ?_ hb5 | refine below_step ?_ hb6 | refine below_step ?_ hb7))); rintro e w9 ⟨rfl, hb2⟩; have hX : Below V0.heap.size V0 w9 := (by repeat (first | (refine below_set ?_ ?hsz _; case hsz => (first | omega | (simp; done) | (simp; omega) | (have hs0 := hb.size; simp at hs0 ⊢; omega) | (have hs1 := hb1.size; simp at hs1 ⊢; omega) | (have hs1 := hb1.size; have hs2 := hb2.size; simp at hs1 hs2 ⊢; omega))) | exact Below.refl _ _ | refine below_alloc ?_ _ | refine below_drew ?_ | refine below_drewn ?_ _ | refine below_step ?_ hb | refine below_step ?_ hb0 | refine below_step ?_ hb1 | refine below_step ?_ hb2 | refine below_step ?_ hb3 | refine below_step ?_ hb4 | refine below_step ?_ hb5 | refine below_step ?_ hb6 | refine below_step ?_ hb7))))
            all_goals (go_wp2_with fail; go_meet)
            all_goals (first
              | exact ⟨rfl, lift0 hX pz, hX⟩
              | exact ⟨rfl, lift0 (below_drew hX) pz, below_drew hX⟩)
          case rest =>
            obtain ⟨rfl, pz9, hX⟩ := hcut
            rcases HAVE.out with rfl | ⟨rfl, hev⟩
            · go_wp2_with fail
              go_ret
              exact ⟨rfl, below_step KB.out hX⟩
            · have o1 : (Int.tmod n 2 == 0) = true := by
                have : Int.tmod n 2 = 0 := Int.tmod_eq_zero_of_dvd (Int.dvd_of_emod_eq_zero hev)
                simp [this]
              go_wp2_with fail
              go_ret
              exact ⟨rfl, below_step KB.out hX⟩
        · obtain ⟨E, hE⟩ : ∃ E, E = D + D := ⟨_, rfl⟩
          have q1 : decide (sgn (D + D) < 0) = false := by
            have : ¬ sgn (D + D) < 0 := by unfold sgn; split <;> (try split) <;> omega
            simpa using this
          have LE : Hid ((digs E.natAbs).length ≤ 1000) := hide (by
            have e : (10 : Nat) ^ 29 = 100000000000000000000000000000 := by decide
            have := hD28.out
            have := digs_len (n := E.natAbs) (k := 29) (by omega)
            omega)
          have HK : Hid (sgn (E - Z) = -1 ∨ (sgn (E - Z) = 0 ∧ n % 2 = 0)) := hide (by
            obtain ⟨⟨h1, h2⟩, h3⟩ := HR.out
            rcases Int.lt_or_le E Z with h | h
            · exact .inl (sgn_of_neg (by omega))
            · have : E = Z := by omega
              exact .inr ⟨by rw [this, Int.sub_self]; rfl, h3 (.inl (by omega))⟩)
          have HQ := hide hq
          go_upto_region 14 with fail
          rw [← hE] at e0 e1 HQ
          have u0 := e0
          have u1 := e1
          have pz := px6
          have BW := hb6
          clear hE hq hqa e0 e1 px6 hb6
          have KB : Hid (Below w.heap.size w W0) := hide (below_step hB BW)
          have gW : g < W0.heap.size := World.block_lt_of_cell? _ _ u0
          have pW : w1.heap.size < W0.heap.size := World.block_lt_of_cell? _ _ pz
          obtain ⟨kv, hkv, hk2⟩ : ∃ kv : Int, kv = sgn (E - Z) ∧ (kv = -1 ∨ (kv = 0 ∧ n % 2 = 0)) := ⟨_, rfl, HK.out⟩
          have CO : Hid (∀ (W : World) (B : Option Addr) (cb : Nat), Row W Q (digs E.natAbs) → Row W B (digs Z.natAbs) → Calls Tryd.prog 33 #[.agg #[.int .i64 (sgn E), .slice Q (digs E.natAbs).length cq], .agg #[.int .i64 (sgn Z), .slice B (digs Z.natAbs).length cb]] W fun e w' => e = .returned (.int .i64 kv) ∧ Below W.heap.size W w') := hide fun W B cb h1 h2 => by
            rw [hkv]
            exact order_any E Z Q B cq cb W h1 h2 (by have := LE.out; omega) (by have := LZ.out; omega)
          clear hkv
          have HAVE : Hid (kv = -1 ∨ (kv = 0 ∧ n % 2 = 0)) := hide hk2
          clear hk2
          go_cut [11] (fun s11 wx => s11 = .int .i64 kv ∧ wx.cell? ⟨w1.heap.size, 0, none⟩ = some (.int .i64 n) ∧ Below W0.heap.size W0 wx)
          case first =>
            go_region_held3 (fun w' => w'.cell? ⟨g, 0, none⟩ = some (.int .i64 (sgn E)) ∧ w'.cell? ⟨g, 1, none⟩ = some (.slice Q (digs E.natAbs).length cq) ∧ w'.cell? ⟨w1.heap.size, 0, none⟩ = some (.int .i64 n) ∧ w'.cell? ⟨w1.heap.size, 0, none⟩ = some (.int .i64 n) ∧ Below W0.heap.size W0 w')
              ((refine keep4 ?_ gW u0 gW u1 pW pz pW pz; repeat (first | (refine below_set ?_ ?hsz _; case hsz => (first | omega | (simp; done) | (simp; omega) | (have hs0 := hb.size; simp at hs0 ⊢; omega) | (have hs1 := hb1.size; simp at hs1 ⊢; omega) | (have hs1 := hb1.size; have hs2 := hb2.size; simp at hs1 hs2 ⊢; omega))) | exact Below.refl _ _ | refine below_alloc ?_ _ | refine below_drew ?_ | refine below_drewn ?_ _ | refine below_step ?_ hb | refine below_step ?_ hb0 | refine below_step ?_ hb1 | refine below_step ?_ hb2 | refine below_step ?_ hb3 | refine below_step ?_ hb4 | refine below_step ?_ hb5 | refine below_step ?_ hb6 | refine below_step ?_ hb7)))
              (first
                | (go_at_call 34; (with_reducible refine (CF.out _).mono ?_); rintro e w8 ⟨B, cb, rfl, lb, lcb, rb, fb, hb1⟩; have RB := hide rb; clear rb fb lb)
                | (go_at_call 33; (with_reducible refine (CO.out _ B cb ?_ ?_).mono ?_); (exact HQ.out.below (by repeat (first | (refine below_set ?_ ?hsz _; case hsz => (first | omega | (simp; done) | (simp; omega) | (have hs0 := hb.size; simp at hs0 ⊢; omega) | (have hs1 := hb1.size; simp at hs1 ⊢; omega) | (have hs1 := hb1.size; have hs2 := hb2.size; simp at hs1 hs2 ⊢; omega))) | exact Below.refl _ _ | refine below_alloc ?_ _ | refine below_drew ?_ | refine below_drewn ?_ _ | refine below_step ?_ hb | refine below_step ?_ hb0 | refine below_step ?_ hb1 | refine below_step ?_ hb2 | refine below_step ?_ hb3 | refine below_step ?_ hb4 | refine below_step ?_ hb5 | refine below_step ?_ hb6 | refine below_step ?_ hb7))); (exact RB.out.below (by repeat (first | (refine below_set ?_ ?hsz _; case hsz => (first | omega | (simp; done) | (simp; omega) | (have hs0 := hb.size; simp at hs0 ⊢; omega) | (have hs1 := hb1.size; simp at hs1 ⊢; omega) | (have hs1 := hb1.size; have hs2 := hb2.size; simp at hs1 hs2 ⊢; omega))) | exact Below.refl _ _ | refine below_alloc ?_ _ | refine below_drew ?_ | refine below_drewn ?_ _ | refine below_step ?_ hb | refine below_step ?_ hb0 | refine below_step ?_ hb1 | refine below_step ?_ hb2 | refine below_step ?_ hb3 | refine below_step ?_ hb4 | refine below_step ?_ hb5 | refine below_step ?_ hb6 | refine below_step ?_ hb7))); rintro e w9 ⟨rfl, hb2⟩; have hX : Below W0.heap.size W0 w9 := (by repeat (first | (refine below_set ?_ ?hsz _; case hsz => (first | omega | (simp; done) | (simp; omega) | (have hs0 := hb.size; simp at hs0 ⊢; omega) | (have hs1 := hb1.size; simp at hs1 ⊢; omega) | (have hs1 := hb1.size; have hs2 := hb2.size; simp at hs1 hs2 ⊢; omega))) | exact Below.refl _ _ | refine below_alloc ?_ _ | refine below_drew ?_ | refine below_drewn ?_ _ | refine below_step ?_ hb | refine below_step ?_ hb0 | refine below_step ?_ hb1 | refine below_step ?_ hb2 | refine below_step ?_ hb3 | refine below_step ?_ hb4 | refine below_step ?_ hb5 | refine below_step ?_ hb6 | refine below_step ?_ hb7))))
            all_goals (go_wp2_with fail; go_meet)
            all_goals (first
              | exact ⟨rfl, lift0 hX pz, hX⟩
              | exact ⟨rfl, lift0 (below_drew hX) pz, below_drew hX⟩)
          case rest =>
            obtain ⟨rfl, pz9, hX⟩ := hcut
            rcases HAVE.out with rfl | ⟨rfl, hev⟩
            · go_wp2_with fail
              go_ret
              exact ⟨rfl, below_step KB.out hX⟩
            · have o1 : (Int.tmod n 2 == 0) = true := by
                have : Int.tmod n 2 = 0 := Int.tmod_eq_zero_of_dvd (Int.dvd_of_emod_eq_zero hev)
                simp [this]
              go_wp2_with fail
              go_ret
              exact ⟨rfl, below_step KB.out hX⟩
  · have q1 : (x != 0) = true := by simpa using hx
    clear HN
    go_wp2_with fail
    refine (known_any _ (PH.out.below hB)).mono ?_
    rintro e w3 ⟨rfl, hb3⟩
    replace hB := below_step hB hb3
    clear hb3
    go_wp2_with fail
    go_ret
    exact ⟨rfl, hB⟩
end Go.Proofs.YtgppimdakafniaaDoor
