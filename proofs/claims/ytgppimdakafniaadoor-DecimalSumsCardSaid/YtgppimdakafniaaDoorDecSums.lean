/- DecimalSums, walked. Condition: the tables hold what the program's text lays. -/
import Derived.Test.YtgppimdakafniaaDoorDecSumR
import Derived.Lib.SlFresh
namespace Go.Proofs.YtgppimdakafniaaDoor
open Go Go.RowKit Go.PlainAid

/-- a block that begins with the numbers l -/
def NumOwn (w : World) (g : Nat) (l : List (Int × Int)) : Prop := ∃ cs : Array Value, Holds w g 23 cs ∧ ∀ i, i < l.length → cs[i * 2]? = some (.int .i64 (atL l i).1) ∧ cs[i * 2 + 1]? = some (.int .i64 (atL l i).2)
theorem NumOwn.row {w : World} {g : Nat} {l : List (Int × Int)} (h : NumOwn w g l) : NumRow w (some ⟨g, 0, none⟩) l := fun _ => by
  obtain ⟨cs, hc, hi⟩ := h
  refine ⟨g, 0, rfl, hc.lt, fun i hil => ?_⟩
  obtain ⟨h1, h2⟩ := hi i hil
  rw [Nat.zero_add]
  exact ⟨(hc.cell _).trans h1, (hc.cell _).trans h2⟩
theorem NumOwn.after {w w' : World} {g : Nat} {l : List (Int × Int)} (h : NumOwn w g l) (hb : Below w.heap.size w w') : NumOwn w' g l := by
  obtain ⟨cs, hc, hi⟩ := h
  exact ⟨cs, hc.after hb, hi⟩
theorem at_swp (l : List (Int × Int)) (i k j : Nat) (hi : i < l.length) (hk : k < l.length) (hj : j < l.length) : atL (swp l i k) j = if j = k then atL l i else if j = i then atL l k else atL l j := by
  unfold swp atL
  by_cases h1 : j = k
  · subst h1
    rw [if_pos rfl]
    simp [List.getD, hj]
  · rw [if_neg h1]
    by_cases h2 : j = i
    · subst h2
      rw [if_pos rfl]
      simp [List.getD, hj, Ne.symm h1]
    · rw [if_neg h2]
      simp [List.getD, Ne.symm h1, Ne.symm h2]
theorem swp_len (l : List (Int × Int)) (i k : Nat) : (swp l i k).length = l.length := by simp [swp]
theorem put_ne (cs : Array Value) {a b : Nat} {v : Value} (h : a ≠ b) : (cs.setIfInBounds a v)[b]? = cs[b]? := Array.getElem?_setIfInBounds_ne h
theorem put_eq (cs : Array Value) {a : Nat} {v : Value} (h : a < cs.size) : (cs.setIfInBounds a v)[a]? = some v := by simp [h]
/-- the exchange in memory -/
theorem NumOwn.swap {w : World} {g : Nat} {l : List (Int × Int)} (h : NumOwn w g l) {i k : Nat} (hi : i < l.length) (hk : k < l.length) :
    NumOwn ((((w.setCell ⟨g, i * 2, none⟩ (.int .i64 (atL l k).1)).setCell ⟨g, i * 2 + 1, none⟩ (.int .i64 (atL l k).2)).setCell ⟨g, k * 2, none⟩ (.int .i64 (atL l i).1)).setCell ⟨g, k * 2 + 1, none⟩ (.int .i64 (atL l i).2)) g (swp l i k) := by
  obtain ⟨cs, hc, hx⟩ := h
  refine ⟨_, (((hc.put _ _).put _ _).put _ _).put _ _, fun j hj => ?_⟩
  rw [swp_len] at hj
  have hs : ∀ q, q < l.length → q * 2 + 1 < cs.size := fun q hq => by
    have := (hx q hq).2
    rcases Nat.lt_or_ge (q * 2 + 1) cs.size with h | h
    · exact h
    · rw [Array.getElem?_eq_none h] at this; cases this
  have s1 := hs i hi
  have s2 := hs k hk
  have s3 := hs j hj
  obtain ⟨e1, e2⟩ := hx j hj
  rw [at_swp l i k j hi hk hj]
  by_cases h1 : j = k
  · subst h1
    rw [if_pos rfl]
    constructor
    · rw [put_ne _ (by omega), put_eq _ (by simp; omega)]
    · rw [put_eq _ (by simp; omega)]
  · rw [if_neg h1]
    by_cases h2 : j = i
    · subst h2
      rw [if_pos rfl]
      constructor
      · rw [put_ne _ (by omega), put_ne _ (by omega), put_ne _ (by omega), put_eq _ (by omega)]
      · rw [put_ne _ (by omega), put_ne _ (by omega), put_eq _ (by simp; omega)]
    · rw [if_neg h2]
      constructor
      · rw [put_ne _ (by omega), put_ne _ (by omega), put_ne _ (by omega), put_ne _ (by omega)]; exact e1
      · rw [put_ne _ (by omega), put_ne _ (by omega), put_ne _ (by omega), put_ne _ (by omega)]; exact e2

/-- the cells of numbers -/
def cellsL (l : List (Int × Int)) : List Value := l.flatMap fun p => [.int .i64 p.1, .int .i64 p.2]
theorem cellsL_len : ∀ l : List (Int × Int), (cellsL l).length = l.length * 2
  | [] => rfl
  | p :: l => by rw [cellsL, List.flatMap_cons, List.length_append, ← cellsL, cellsL_len l, List.length_cons]; simp; omega
theorem cellsL_at : ∀ (l : List (Int × Int)) (i : Nat), i < l.length → (cellsL l)[i * 2]? = some (.int .i64 (atL l i).1) ∧ (cellsL l)[i * 2 + 1]? = some (.int .i64 (atL l i).2)
  | p :: l, 0, _ => ⟨rfl, rfl⟩
  | p :: l, i + 1, h => by
    have := cellsL_at l i (by simpa using h)
    rw [cellsL, List.flatMap_cons, ← cellsL]
    rw [show (i + 1) * 2 = i * 2 + 1 + 1 by omega, show i * 2 + 1 + 1 + 1 = (i * 2 + 1) + 1 + 1 by omega]
    exact this
theorem append_nums (W : World) (b0 : Addr) (A : Option Addr) (cap : Nat) (l : List (Int × Int)) (hr : NumRow W A l) (h1 : 0 < l.length) (h3 : l.length ≤ 300) :
    ∃ (c : Nat) (W' : World), (Builtin.append_ #[49, 49] 49 #[.slice (some b0) 0 0, .slice A l.length cap]).run Tryd.prog W = .ok (.slice (some ⟨W.heap.size, 0, none⟩) l.length c) W' ∧ NumOwn W' W.heap.size l ∧ Below W.heap.size W W' := by
  obtain ⟨i, hi, hz0, hz1, hz2⟩ := info_parts (show (Tryd.prog.info? 23).map (fun i => (i.zero, i.size, i.bytes)) = some (some (.agg #[.int .i64 0, .int .i64 0]), 2, 16) by kernel_rfl)
  obtain ⟨g, off, rfl, hg, hc⟩ := hr h1
  have hnews : ∀ (j : Nat) (v : Value), (cellsL l)[j]? = some v → W.cell? ((⟨g, off, none⟩ : Addr).add j) = some v := fun j v hj => by
    have hjl : j < (cellsL l).length := (List.getElem?_eq_some_iff.1 hj).1
    rw [cellsL_len] at hjl
    rw [add_plain]
    obtain ⟨e1, e2⟩ := cellsL_at l (j / 2) (by omega)
    obtain ⟨d1, d2⟩ := hc (j / 2) (by omega)
    rcases Nat.mod_two_eq_zero_or_one j with h | h
    · have ej : j = j / 2 * 2 := by omega
      rw [ej] at hj ⊢
      rw [e1] at hj
      rw [← hj]; exact d1
    · have ej : j = j / 2 * 2 + 1 := by omega
      rw [ej] at hj ⊢
      rw [e2] at hj
      rw [← hj, ← Nat.add_assoc]; exact d2
  have hr := run_append_grow (P := Tryd.prog) W 49 49 23 i (.agg #[.int .i64 0, .int .i64 0]) Tryd.underlying49 hi hz0 b0 0 0 [] (by simp) (by intro j v hj; simp at hj) ⟨g, off, none⟩ l.length cap (cellsL l) (by rw [cellsL_len, hz1]) hnews (by omega) (by omega) (growslice_fits (by omega) (by rw [hz2]; omega))
  simp only [Nat.zero_add] at hr
  refine ⟨_, _, hr, ?_, ?_⟩
  · have hH : Holds (W.drew.alloc (.cells (([] : List Value).toArray ++ (cellsL l).toArray ++ Builtin.zeroCells (Value.agg #[.int .i64 0, .int .i64 0]).cells (grownCap W l.length 0 23 - l.length)) 23)) W.heap.size 23 (([] : List Value).toArray ++ (cellsL l).toArray ++ Builtin.zeroCells (Value.agg #[.int .i64 0, .int .i64 0]).cells (grownCap W l.length 0 23 - l.length)) := heap_alloc_new W.drew _
    refine ⟨_, hH, fun j hj => ?_⟩
    · obtain ⟨e1, e2⟩ := cellsL_at l j hj
      have hlen := cellsL_len l
      constructor
      · rw [Array.getElem?_append_left (by simp [hlen]; omega)]
        simpa using e1
      · rw [Array.getElem?_append_left (by simp [hlen]; omega)]
        simpa using e2
  · exact (below_drew (Below.refl _ W)).alloc (Nat.le_refl _) _
theorem append_none (W : World) (b0 : Addr) (A : Option Addr) (cap : Nat) :
    (Builtin.append_ #[49, 49] 49 #[.slice (some b0) 0 0, .slice A 0 cap]).run Tryd.prog W = .ok (.slice (some b0) 0 0) W := by
  obtain ⟨i, hi, hz0, hz1, hz2⟩ := info_parts (show (Tryd.prog.info? 23).map (fun i => (i.zero, i.size, i.bytes)) = some (some (.agg #[.int .i64 0, .int .i64 0]), 2, 16) by kernel_rfl)
  cases A <;> simp [Builtin.append_, run_underlying Tryd.underlying49, sizeOf, typeInfo, hi, Builtin.lenOf, Builtin.firstCells, loadCells, loadCellsFrom, storeCells]
end Go.Proofs.YtgppimdakafniaaDoor
