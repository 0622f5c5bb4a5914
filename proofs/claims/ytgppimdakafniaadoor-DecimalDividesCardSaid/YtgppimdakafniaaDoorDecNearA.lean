/- What the reference's Nearest is made of: append of digits, trim, a difference that is not negative. Condition: bounds on the lengths. -/
import Derived.Test.YtgppimdakafniaaDoorDecTimes
import Derived.Test.YtgppimdakafniaaDoorDecNear
import Derived.Test.YtgppimdakafniaaDoorDecNearM
import Derived.Deep.RegionLaw
import Derived.Deep.LoopGhost
import Derived.Deep.CutRange
import Derived.RegionTactic
import Derived.BigRegion
import Derived.Lib.SlFresh
namespace Go.Proofs.YtgppimdakafniaaDoor
open Go Go.RowKit Go.PlainAid

theorem add_pl (b off k : Nat) : (⟨b, off, none⟩ : Addr).add k = ⟨b, off + k, none⟩ := by unfold Addr.add; split <;> simp_all
/-- append of digits to one digit -/
theorem append_ints (W : World) (b : Nat) (x : Int) (hx : W.cell? ⟨b, 0, none⟩ = some (.int .i64 x)) (A : Option Addr) (cap : Nat) (l : List Int) (hr : Row W A l) (h1 : 0 < l.length) (h3 : l.length ≤ 1000) :
    ∃ (c : Nat) (W' : World), (Builtin.append_ #[40, 40] 40 #[.slice (some ⟨b, 0, none⟩) 1 1, .slice A l.length cap]).run Tryd.prog W = .ok (.slice (some ⟨W.heap.size, 0, none⟩) (l.length + 1) c) W' ∧ l.length + 1 ≤ c ∧ c ≤ maxLen ∧ Row W' (some ⟨W.heap.size, 0, none⟩) (x :: l) ∧ Below W.heap.size W W' := by
  obtain ⟨i, hi, hz0, hz1, hz2⟩ := info_parts (show (Tryd.prog.info? 3).map (fun i => (i.zero, i.size, i.bytes)) = some (some (.int .i64 0), 1, 8) by kernel_rfl)
  obtain ⟨g, off, rfl, hg, hc⟩ := hr h1
  have hnews : ∀ (j : Nat) (v : Value), (l.map (Value.int .i64))[j]? = some v → W.cell? ((⟨g, off, none⟩ : Addr).add j) = some v := fun j v hj => by
    have hjl : j < (l.map (Value.int .i64)).length := (List.getElem?_eq_some_iff.1 hj).1
    rw [List.length_map] at hjl
    rw [add_pl, hc j hjl, ← hj]
    simp [dg, List.getD, hjl]
  have hr := run_append_grow (P := Tryd.prog) W 40 40 3 i (.int .i64 0) Tryd.underlying40 hi hz0 ⟨b, 0, none⟩ 1 1 [.int .i64 x] (by rw [hz1]; rfl) (by
    intro j v hj
    have hj0 : j = 0 := by
      have := (List.getElem?_eq_some_iff.1 hj).1
      simp at this; exact this
    subst hj0
    rw [add_pl, hx, ← hj]; rfl) ⟨g, off, none⟩ l.length cap (l.map (Value.int .i64)) (by rw [List.length_map, hz1, Nat.mul_one]) hnews (by omega) (by omega) (growslice_fits (by omega) (by rw [hz2]; omega))
  have hge := grownCap_ge W (1 + l.length) 1 3
  have hle := grownCap_le_maxLen W (1 + l.length) 1 3 (by unfold maxLen; omega)
  rw [Nat.add_comm l.length 1]
  refine ⟨_, _, hr, hge, hle, fun _ => ⟨W.heap.size, 0, rfl, by simp, fun j hj => ?_⟩, (below_drew (Below.refl _ W)).alloc (Nat.le_refl _) _⟩
  have hH : Holds (W.drew.alloc (.cells (([.int .i64 x] : List Value).toArray ++ (l.map (Value.int .i64)).toArray ++ Builtin.zeroCells (Value.int .i64 0).cells (grownCap W (1 + l.length) 1 3 - (1 + l.length))) 3)) W.heap.size 3 (([.int .i64 x] : List Value).toArray ++ (l.map (Value.int .i64)).toArray ++ Builtin.zeroCells (Value.int .i64 0).cells (grownCap W (1 + l.length) 1 3 - (1 + l.length))) := heap_alloc_new W.drew _
  rw [Nat.zero_add, hH.cell j]
  rw [List.length_cons] at hj
  rw [Array.getElem?_append_left (by simp; omega)]
  cases j with
  | zero => simp [dg]
  | succ j =>
    have hjl : j < l.length := by omega
    simp [dg, List.getD, hjl]
theorem append_ints_none (W : World) (b0 : Addr) (A : Option Addr) (cap : Nat) :
    (Builtin.append_ #[40, 40] 40 #[.slice (some b0) 1 1, .slice A 0 cap]).run Tryd.prog W = .ok (.slice (some b0) 1 1) W := by
  obtain ⟨i, hi, hz0, hz1, hz2⟩ := info_parts (show (Tryd.prog.info? 3).map (fun i => (i.zero, i.size, i.bytes)) = some (some (.int .i64 0), 1, 8) by kernel_rfl)
  cases A <;> simp [Builtin.append_, run_underlying Tryd.underlying40, sizeOf, typeInfo, hi, Builtin.lenOf, Builtin.firstCells, loadCells, loadCellsFrom, storeCells]

/-- what append of digits to the digit x in block b comes to -/
def AppPost (W : World) (b : Nat) (x : Int) (l : List Int) (v' : Value) (W' : World) : Prop := ∃ b' c : Nat, v' = .slice (some ⟨b', 0, none⟩) (l.length + 1) c ∧ l.length + 1 ≤ c ∧ c ≤ maxLen ∧ Row W' (some ⟨b', 0, none⟩) (x :: l) ∧ b ≤ b' ∧ Below W.heap.size W W'
theorem append_digs (W : World) (b : Nat) (x : Int) (hx : W.cell? ⟨b, 0, none⟩ = some (.int .i64 x)) (A : Option Addr) (cap : Nat) (l : List Int) (hr : Row W A l) (h3 : l.length ≤ 1000) :
    ∃ (v' : Value) (W' : World), (Builtin.append_ #[40, 40] 40 #[.slice (some ⟨b, 0, none⟩) 1 1, .slice A l.length cap]).run Tryd.prog W = .ok v' W' ∧ AppPost W b x l v' W' := by
  by_cases h : l.length = 0
  · have hl : l = [] := List.eq_nil_of_length_eq_zero h
    subst hl
    exact ⟨_, _, append_ints_none W _ A cap, b, 1, rfl, Nat.le_refl _, by unfold maxLen; omega, fun _ => ⟨b, 0, rfl, World.block_lt_of_cell? _ _ hx, fun i hi => by
      have : i = 0 := by simpa using hi
      subst this; exact hx⟩, Nat.le_refl _, Below.refl _ _⟩
  · obtain ⟨c, W', hr, h1, h2, h3, h4⟩ := append_ints W b x hx A cap l hr (by omega) h3
    exact ⟨_, _, hr, W.heap.size, c, rfl, h1, h2, h3, Nat.le_of_lt (World.block_lt_of_cell? _ _ hx), h4⟩
/-- append in a region that draws its order, its run known -/
theorem step_append_ex {P : Program} {ops : Array Oper} {o : Oper} {a : Act} {w : World} {K : Act → World → Prop} {Q : Exit → Act → World → Prop} {E : Prop}
    (hg : o.guard = none) (s x : Operand) (t : TypeId) (ho : o.op = .call { callee := .builtin .append, args := #[s, x], argTypes := #[t, t] }) (v u : Value) (hs : a.eval s = v) (hx : a.eval x = u)
    {R : Value → World → Prop} (hr : ∃ v' w', (Builtin.append_ #[t, t] o.type #[v, u]).run P w = .ok v' w' ∧ R v' w') (h : ∀ v' w', R v' w' → K (a.put o.dst v') w') :
    if Region.wanted o (yielded ops a.tmps) = true then Oper.wp P o a w K Q else E := by
  rw [if_pos (by simp [Region.wanted, hg])]
  obtain ⟨v', w', hr, hR⟩ := hr
  exact Lib.wp_append_run_sl w s x t ho v u hs hx hr (h v' w' hR)

/-- trim of digits whose value is N -/
theorem trim_is (A : Option Addr) (c N : Nat) (l : List Int) (w : World) (hr : Row w A l) (hl : l.length ≤ c) (hc : c ≤ maxLen) (hd : ∀ d ∈ l, 0 ≤ d ∧ d ≤ 9) (hv : V (dg l) l.length = (N : Int)) :
    Calls Tryd.prog 57 #[.agg #[.int .i64 1, .slice A l.length c]] w fun e w' => e = .returned (.agg #[.int .i64 (sgn (N : Int)), .slice A (digs N).length c]) ∧ (digs N).length ≤ l.length ∧ Row w' A (digs N) ∧ Below w.heap.size w w' := by
  refine (trim_any 1 A c l w hr hl hc).mono ?_
  rintro e w' ⟨k, hk, hz, hk0, rfl, hb⟩
  have ht := digs_trim hd hk hz hk0
  rw [hv, Int.toNat_natCast] at ht
  have hlen : (digs N).length = k := by rw [← ht, List.length_take]; omega
  refine ⟨?_, by omega, by rw [← ht]; exact (hr.below hb).take k, hb⟩
  rw [hlen]
  by_cases h0 : k = 0
  · subst h0
    have : N = 0 := by
      rcases Nat.eq_zero_or_pos N with h | h
      · exact h
      · rw [digs_ne (by omega), List.length_cons] at hlen; omega
    subst this
    rfl
  · have : 0 < N := by
      rcases Nat.eq_zero_or_pos N with h | h
      · rw [h, digs_zero, List.length_nil] at hlen; omega
      · exact h
    rw [if_neg h0, sgn_pos (by omega)]

theorem trim_cons (a t c : Nat) (A : Option Addr) (w : World) (hr : Row w A ((a : Int) :: digs t)) (hl : (digs t).length + 1 ≤ c) (hc : c ≤ maxLen) (ha : a ≤ 9) :
    Calls Tryd.prog 57 #[.agg #[.int .i64 1, .slice A ((digs t).length + 1) c]] w fun e w' => e = .returned (.agg #[.int .i64 (sgn ((10 * t + a : Nat) : Int)), .slice A (digs (10 * t + a)).length c]) ∧ (digs (10 * t + a)).length ≤ (digs t).length + 1 ∧ Row w' A (digs (10 * t + a)) ∧ Below w.heap.size w w' :=
  trim_is A c (10 * t + a) ((a : Int) :: digs t) w hr hl hc (cons_range ⟨by omega, by omega⟩) (V_cons_digs a t)

theorem row_nil0 (w : World) : Row w none (digs 0) := fun h => by
  rw [digs_zero] at h
  exact absurd h (by simp)
theorem holds_new5 (w : World) (o p q r u : Obj) (cs : Array Value) (T : TypeId) : Holds ((((((w.alloc o).alloc p).alloc q).alloc r).alloc u).alloc (.cells cs T)) (w.heap.size + 1 + 1 + 1 + 1 + 1) T cs := by
  have := heap_alloc_new (((((w.alloc o).alloc p).alloc q).alloc r).alloc u) (.cells cs T); unfold Holds; simpa using this
/-- a difference that is not negative, in new memory -/
theorem plus_new (x y : Nat) (A B : Option Addr) (ca cb : Nat) (w : World) (ha : Row w A (digs x)) (hb : Row w B (digs y)) (la : (digs x).length ≤ 1000) (lb : (digs y).length ≤ 1000) (hy : 0 < y) (hxy : y ≤ x) :
    Calls Tryd.prog 30 #[.agg #[.int .i64 (sgn (x : Int)), .slice A (digs x).length ca], .agg #[.int .i64 (sgn (-(y : Int))), .slice B (digs y).length cb]] w fun e w' => ∃ (P : Option Addr) (c : Nat), e = .returned (.agg #[.int .i64 (sgn ((x - y : Nat) : Int)), .slice P (digs (x - y)).length c]) ∧ (digs (x - y)).length ≤ c ∧ c ≤ maxLen ∧ Row w' P (digs (x - y)) ∧ (∀ a, P = some a → w.heap.size ≤ a.block) ∧ Below w.heap.size w w' := by
  have ex : sgn (x : Int) = 1 := sgn_pos (by omega)
  have ey : sgn (-(y : Int)) = -1 := sgn_of_neg (by omega)
  rw [ex, ey]
  refine (plus_pm _ _ A B ca cb w ha hb la lb (digs_range _) (digs_range _) (by rw [digs_V, digs_V]; unfold sgn; split <;> (try split) <;> omega)).mono fun e w' h => ?_
  have := plus_sum (x := (x : Int)) (y := -(y : Int)) (s := -1) (by omega) (by omega) (by rw [ex, ey]; rfl) (.inr ⟨rfl, by omega⟩) (by rw [ex, Int.natAbs_neg, Int.natAbs_natCast, Int.natAbs_natCast]; exact h)
  rw [show (x : Int) + -(y : Int) = ((x - y : Nat) : Int) by omega] at this
  exact this
theorem minus_nat (y : Nat) (A : Option Addr) (c : Nat) (w : World) :
    Calls Tryd.prog 32 #[.agg #[.int .i64 (sgn (y : Int)), .slice A (digs y).length c]] w fun e w' => e = .returned (.agg #[.int .i64 (sgn (-(y : Int))), .slice A (digs y).length c]) ∧ Below w.heap.size w w' := by
  have := minus_any (y : Int) A c w
  rwa [Int.natAbs_neg, Int.natAbs_natCast] at this
theorem above_nat (x y : Nat) (sx sy : Int) (A B : Option Addr) (ca cb : Nat) (W : World) (h1 : Row W A (digs x)) (h2 : Row W B (digs y)) (la : (digs x).length ≤ 1000) (lb : (digs y).length ≤ 1000) :
    Calls Tryd.prog 55 #[.agg #[.int .i64 sx, .slice A (digs x).length ca], .agg #[.int .i64 sy, .slice B (digs y).length cb]] W fun e w' => e = .returned (.int .i64 (sgn ((x : Int) - (y : Int)))) ∧ Below W.heap.size W w' := by
  have := above_any sx sy A B ca cb _ _ W h1 h2 (by omega) (by omega) (digs_range _) (digs_range _)
  rwa [digs_V, digs_V] at this
/-- a sum, and where its digits lie -/
theorem plus_loc (x y : Nat) (A B : Option Addr) (ca cb : Nat) (w : World) (ha : Row w A (digs x)) (hb : Row w B (digs y)) (la : (digs x).length ≤ 1000) (lb : (digs y).length ≤ 1000)
    (lca : (digs x).length ≤ ca) (lcb : (digs y).length ≤ cb) (mca : ca ≤ maxLen) (mcb : cb ≤ maxLen) :
    Calls Tryd.prog 30 #[.agg #[.int .i64 (sgn (x : Int)), .slice A (digs x).length ca], .agg #[.int .i64 (sgn (y : Int)), .slice B (digs y).length cb]] w fun e w' => ∃ (P : Option Addr) (c : Nat), e = .returned (.agg #[.int .i64 (sgn ((x + y : Nat) : Int)), .slice P (digs (x + y)).length c]) ∧ (digs (x + y)).length ≤ c ∧ c ≤ maxLen ∧ Row w' P (digs (x + y)) ∧
      (Loc w.heap.size w'.heap.size P (digs (x + y)).length ∨ (P = A ∧ (digs (x + y)).length = (digs x).length) ∨ (P = B ∧ (digs (x + y)).length = (digs y).length)) ∧ Below w.heap.size w w' := by
  have := plus_from (x : Int) (y : Int) A B ca cb w ha hb la lb lca lcb mca mcb
  refine this.mono ?_
  rintro e w' ⟨P, c, rfl, h1, h2, h3, h4, h5⟩
  rw [← Int.natCast_add, Int.natAbs_natCast] at h1 h3 h4 ⊢
  rw [Int.natAbs_natCast, Int.natAbs_natCast] at h4
  exact ⟨P, c, rfl, h1, h2, h3, h4, h5⟩
theorem one_nat (W : World) : Calls Tryd.prog 34 #[.int .i64 1, .int .i64 0] W fun e w' => ∃ (B : Option Addr) (cb : Nat), e = .returned (.agg #[.int .i64 (sgn 1), .slice B (digs 1).length cb]) ∧ (digs 1).length ≤ cb ∧ cb ≤ maxLen ∧ Row w' B (digs 1) ∧ (∀ x, B = some x → W.heap.size ≤ x.block) ∧ Below W.heap.size W w' := by
  have := of_any 1 0 W (by decide) (by decide) (by decide)
  rw [show (1 : Int) * ((10 ^ 0 : Nat) : Int) = ((1 : Nat) : Int) by rfl] at this
  exact this

/-- Nearest's structs: what is left, the digits so far -/
def Nearing (w wr : World) (g d : Nat) (va vb : Array Value) (t : Nat) (l : List Int) : Prop :=
  w.heap.size + 3 < g ∧ w.heap.size + 3 < d ∧ g ≠ d ∧ Holds wr w.heap.size 42 va ∧ Holds wr (w.heap.size + 1) 42 vb ∧ Holds wr (w.heap.size + 2) 42 #[.int .i64 0, .slice none 0 0] ∧
    Holds wr g 42 #[.int .i64 1, .slice (some ⟨d, 0, none⟩) l.length l.length] ∧ Holds wr d 3 (ints l) ∧
    (∃ (P : Option Addr) (cp : Nat), Holds wr (w.heap.size + 3) 42 #[.int .i64 (sgn (t : Int)), .slice P (digs t).length cp] ∧ (digs t).length ≤ cp ∧ cp ≤ maxLen ∧ Row wr P (digs t) ∧ (0 < (digs t).length → ∀ x, P = some x → w.heap.size + 3 < x.block ∧ x.block ≠ g ∧ x.block ≠ d)) ∧ Below w.heap.size w wr
theorem Nearing.below {w wr X : World} {g d : Nat} {va vb : Array Value} {t : Nat} {l : List Int} (h : Nearing w wr g d va vb t l) (hb : Below wr.heap.size wr X) : Nearing w X g d va vb t l := by
  obtain ⟨h1, h2, h3, h4, h5, h6, h7, h8, ⟨P, cp, h9, a1, a2, a3, a4⟩, h10⟩ := h
  exact ⟨h1, h2, h3, h4.below hb, h5.below hb, h6.below hb, h7.below hb, h8.below hb, ⟨P, cp, h9.below hb, a1, a2, a3.below hb, a4⟩, below_step h10 hb⟩
theorem Nearing.put {w wr : World} {g d : Nat} {va vb : Array Value} {t : Nat} {l : List Int} (h : Nearing w wr g d va vb t l) (i : Nat) (x : Int) : Nearing w (wr.setCell ⟨d, i, none⟩ (.int .i64 x)) g d va vb t (l.set i x) := by
  obtain ⟨h1, h2, h3, h4, h5, h6, h7, h8, ⟨P, cp, h9, a1, a2, a3, a4⟩, h10⟩ := h
  refine ⟨h1, h2, h3, h4.far (by simp; omega) _, h5.far (by simp; omega) _, h6.far (by simp; omega) _, by rw [List.length_set]; exact h7.far (by simpa using h3) _, ?_, ⟨P, cp, h9.far (by simp; omega) _, a1, a2, a3.far (fun h x hx => (a4 h x hx).2.2) _ _, a4⟩, h10.setCell (by simp; omega) _⟩
  have := h8.put i (.int .i64 x)
  rwa [ints_put] at this
theorem Nearing.drew {w wr : World} {g d : Nat} {va vb : Array Value} {t : Nat} {l : List Int} (h : Nearing w wr g d va vb t l) : Nearing w wr.drew g d va vb t l := h.below (below_drew (Below.refl _ wr))
/-- a new rest -/
theorem Nearing.rest {w wr X : World} {g d : Nat} {va vb : Array Value} {t t' : Nat} {l : List Int} (h : Nearing w wr g d va vb t l) (hb : Below wr.heap.size wr X) {P : Option Addr} {cp : Nat} (a1 : (digs t').length ≤ cp) (a2 : cp ≤ maxLen) (a3 : Row X P (digs t'))
    (a4 : 0 < (digs t').length → ∀ x, P = some x → wr.heap.size ≤ x.block) :
    Nearing w ((X.setCell ⟨w.heap.size + 3, 0, none⟩ (.int .i64 (sgn (t' : Int)))).setCell ⟨w.heap.size + 3, 1, none⟩ (.slice P (digs t').length cp)) g d va vb t' l := by
  have lg := h.2.2.2.2.2.2.1.lt
  have ld := h.2.2.2.2.2.2.2.1.lt
  obtain ⟨h1, h2, h3, h4, h5, h6, h7, h8, ⟨Q, cq, h9, _⟩, h10⟩ := h
  have a5 : 0 < (digs t').length → ∀ x, P = some x → w.heap.size + 3 < x.block ∧ x.block ≠ g ∧ x.block ≠ d := fun h0 x hx => by
    have := a4 h0 x hx
    omega
  have a6 : 0 < (digs t').length → ∀ x, P = some x → x.block ≠ w.heap.size + 3 := fun h0 x hx => by
    have := a5 h0 x hx
    omega
  refine ⟨h1, h2, h3, ((h4.below hb).far (by simp) _).far (by simp) _, ((h5.below hb).far (by simp) _).far (by simp) _, ((h6.below hb).far (by simp) _).far (by simp) _, ((h7.below hb).far (by simp; omega) _).far (by simp; omega) _, ((h8.below hb).far (by simp; omega) _).far (by simp; omega) _, ⟨P, cp, ?_, a1, a2, (a3.far a6 _ _).far a6 _ _, a5⟩, ((below_step h10 hb).setCell (by simp) _).setCell (by simp) _⟩
  exact ((h9.below hb).put 0 _).put 1 _

theorem keepTwo {W X : World} {a0 a1 : Addr} {v0 v1 : Value} (h : Below W.heap.size W X) (l0 : a0.block < W.heap.size) (c0 : W.cell? a0 = some v0) (l1 : a1.block < W.heap.size) (c1 : W.cell? a1 = some v1) :
    X.cell? a0 = some v0 ∧ X.cell? a1 = some v1 ∧ Below W.heap.size W X := ⟨(h.cell l0).trans c0, (h.cell l1).trans c1, h⟩
/-- Nearest's result so far -/
def OutAt (w wx : World) (g : Nat) (va : Array Value) (q : Nat) : Prop :=
  w.heap.size + 3 < g ∧ Holds wx w.heap.size 42 va ∧ Holds wx (w.heap.size + 2) 42 #[.int .i64 0, .slice none 0 0] ∧
    (∃ (P : Option Addr) (cp : Nat), Holds wx g 42 #[.int .i64 (sgn (q : Int)), .slice P (digs q).length cp] ∧ (digs q).length ≤ cp ∧ cp ≤ maxLen ∧ Row wx P (digs q) ∧ (0 < (digs q).length → ∀ x, P = some x → w.heap.size + 3 < x.block ∧ x.block ≠ g)) ∧ Below w.heap.size w wx
theorem OutAt.next {w wx X : World} {g q q' : Nat} {va : Array Value} (h : OutAt w wx g va q) (hb : Below wx.heap.size wx X) {P : Option Addr} {cp : Nat} (a1 : (digs q').length ≤ cp) (a2 : cp ≤ maxLen) (a3 : Row X P (digs q'))
    (a4 : 0 < (digs q').length → ∀ x, P = some x → w.heap.size + 3 < x.block ∧ x.block ≠ g) :
    OutAt w ((X.setCell ⟨g, 0, none⟩ (.int .i64 (sgn (q' : Int)))).setCell ⟨g, 1, none⟩ (.slice P (digs q').length cp)) g va q' := by
  obtain ⟨h1, h2, h3, ⟨Q, cq, h4, _⟩, h5⟩ := h
  have a5 : 0 < (digs q').length → ∀ x, P = some x → x.block ≠ g := fun h0 x hx => (a4 h0 x hx).2
  exact ⟨h1, ((h2.below hb).far (by simp; omega) _).far (by simp; omega) _, ((h3.below hb).far (by simp; omega) _).far (by simp; omega) _, ⟨P, cp, ((h4.below hb).put 0 _).put 1 _, a1, a2, (a3.far a5 _ _).far a5 _ _, a4⟩, ((below_step h5 hb).setCell (by simp; omega) _).setCell (by simp; omega) _⟩
theorem Nearing.out {w wr X : World} {g d : Nat} {va vb : Array Value} {t q : Nat} {l : List Int} (h : Nearing w wr g d va vb t l) (hb : Below wr.heap.size wr X) (a1 : (digs q).length ≤ l.length) (a2 : l.length ≤ maxLen) (a3 : Row X (some ⟨d, 0, none⟩) (digs q)) :
    OutAt w ((X.setCell ⟨g, 0, none⟩ (.int .i64 (sgn (q : Int)))).setCell ⟨g, 1, none⟩ (.slice (some ⟨d, 0, none⟩) (digs q).length l.length)) g va q := by
  obtain ⟨h1, h2, h3, h4, h5, h6, h7, h8, _, h10⟩ := h
  have a5 : 0 < (digs q).length → ∀ x, (some ⟨d, 0, none⟩ : Option Addr) = some x → w.heap.size + 3 < x.block ∧ x.block ≠ g := fun h0 x hx => by
    injection hx with hx
    subst hx
    exact ⟨h2, fun e => h3 e.symm⟩
  have a6 : 0 < (digs q).length → ∀ x, (some ⟨d, 0, none⟩ : Option Addr) = some x → x.block ≠ g := fun h0 x hx => (a5 h0 x hx).2
  exact ⟨h1, ((h4.below hb).far (by simp; omega) _).far (by simp; omega) _, ((h6.below hb).far (by simp; omega) _).far (by simp; omega) _, ⟨_, _, ((h7.below hb).put 0 _).put 1 _, a1, a2, (a3.far a6 _ _).far a6 _ _, a5⟩, ((below_step h10 hb).setCell (by simp; omega) _).setCell (by simp; omega) _⟩
end Go.Proofs.YtgppimdakafniaaDoor
