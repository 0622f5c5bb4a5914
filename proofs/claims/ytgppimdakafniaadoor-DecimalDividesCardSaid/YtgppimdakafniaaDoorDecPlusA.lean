/- The reference's Plus: sums of integers as digits. Condition: bounds on the lengths. -/
import Derived.Test.YtgppimdakafniaaDoorDecFit
namespace Go.Proofs.YtgppimdakafniaaDoor
open Go Go.RowKit Go.PlainAid

theorem grown_of_below {w X : World} (h : Below w.heap.size w X) : w.grownBy X none := ⟨h.os, h.tape, h.output, h.size, fun k hk _ => h.block k hk⟩
theorem own_below {w X : World} {base n : Nat} {e : TypeId} {size : Nat} {v : Value} {xs : List Value} (h : w.ownsRow base e size v n xs) (hb : Below w.heap.size w X) : X.ownsRow base e size v n xs :=
  h.kept (grown_of_below hb) (by cases v.ownBlock <;> simp)
theorem Holds.below {w X : World} {g : Nat} {T : TypeId} {cs : Array Value} (h : Holds w g T cs) (hb : Below w.heap.size w X) : Holds X g T cs := (hb.block g h.lt).trans h

/-- Plus's structs and its digits, at the head of its loop -/
def Adding (w wr : World) (g : Nat) (va vb : Array Value) (s : Int) (v : Value) (l : List Int) : Prop :=
  w.heap.size + 2 < g ∧ Holds wr w.heap.size 42 va ∧ Holds wr (w.heap.size + 1) 42 vb ∧ Holds wr (w.heap.size + 2) 42 #[.int .i64 0, .slice none 0 0] ∧ Holds wr g 42 #[.int .i64 s, v] ∧
    wr.ownsRow (g + 1) 3 1 v l.length (l.map (Value.int .i64)) ∧ Below w.heap.size w wr
theorem Adding.below {w wr X : World} {g : Nat} {va vb : Array Value} {s : Int} {v : Value} {l : List Int} (h : Adding w wr g va vb s v l) (hb : Below wr.heap.size wr X) : Adding w X g va vb s v l := by
  obtain ⟨h0, h1, h2, h3, h4, h5, h6⟩ := h
  exact ⟨h0, h1.below hb, h2.below hb, h3.below hb, h4.below hb, own_below h5 hb, below_step h6 hb⟩
theorem Adding.own_ne {w wr : World} {g : Nat} {va vb : Array Value} {s : Int} {v : Value} {l : List Int} (h : Adding w wr g va vb s v l) {b : Nat} (hg : b ≤ g) : some b ≠ v.ownBlock := fun e => by
  have := (h.2.2.2.2.2.1.lt b e.symm).1; omega
theorem Adding.behind {w wr w1 : World} {g : Nat} {va vb : Array Value} {s : Int} {v : Value} {l : List Int} (h : Adding w wr g va vb s v l) {o : Obj} (hg : (wr.alloc o).grownBy w1 v.ownBlock) :
    Holds w1 w.heap.size 42 va ∧ Holds w1 (w.heap.size + 1) 42 vb ∧ Holds w1 (w.heap.size + 2) 42 #[.int .i64 0, .slice none 0 0] ∧ Holds w1 g 42 #[.int .i64 s, v] ∧ Below w.heap.size w w1 := by
  have hn := fun (b : Nat) (hb : b ≤ g) => h.own_ne hb
  obtain ⟨h0, h1, h2, h3, h4, h5, h6⟩ := h
  exact ⟨(h1.alloc o).grown hg (hn _ (by omega)), (h2.alloc o).grown hg (hn _ (by omega)), (h3.alloc o).grown hg (hn _ (by omega)), (h4.alloc o).grown hg (hn _ (by omega)),
    (h6.alloc h6.size o).grown hg (by have := h6.size; simp; omega) fun k hk => by have := (h5.lt k hk).1; omega⟩
theorem Adding.more {w wr w1 : World} {g : Nat} {va vb : Array Value} {s : Int} {v v' : Value} {l : List Int} (h : Adding w wr g va vb s v l) {o : Obj} (hg : (wr.alloc o).grownBy w1 v.ownBlock) {d : Int}
    (hown : w1.ownsRow (g + 1) 3 1 v' (l.length + 1) (l.map (Value.int .i64) ++ [.int .i64 d])) :
    Adding w (w1.setCell ⟨g, 1, none⟩ v') g va vb s v' (l ++ [d]) := by
  obtain ⟨h1, h2, h3, h4, h5⟩ := h.behind hg
  have h0 := h.1
  refine ⟨h0, h1.far (by simp; omega) _, h2.far (by simp; omega) _, h3.far (by simp; omega) _, by simpa using h4.put 1 v', ?_, h5.setCell (by simp; omega) _⟩
  have hk := hown.kept (put_grown w1 ⟨g, 1, none⟩ v') (.inr fun e => by have := (hown.lt _ e).1; simp at this; omega)
  simpa using hk

/-- the loop's numbers -/
structure Carry (la lb : List Int) (s : Int) (l : List Int) (c : Int) (n : Nat) : Prop where
  len : l.length = n
  dig : ∀ d ∈ l, 0 ≤ d ∧ d ≤ 9
  eq : V (dg l) n + c * 10 ^ n = V (dg la) n + s * V (dg lb) n
theorem Carry.more {la lb l : List Int} {s c c' d : Int} {n : Nat} (h : Carry la lb s l c n) (hd : 0 ≤ d ∧ d ≤ 9) (e : d + 10 * c' = dg la n + s * dg lb n + c) : Carry la lb s (l ++ [d]) c' (n + 1) := by
  obtain ⟨h1, h2, h3⟩ := h
  subst h1
  refine ⟨by simp, fun x hx => ?_, ?_⟩
  · rcases List.mem_append.1 hx with hx | hx
    · exact h2 x hx
    · rw [List.mem_singleton.1 hx]; exact hd
  · refine sum_round (d := d) (c := c) ?_ ?_ e
    · rw [V_congr (f := dg (l ++ [d])) (g := dg l) fun i hi => dg_append_left hi]; exact h3
    · rw [dg_append_right (Nat.le_refl _), Nat.sub_self]; rfl
/-- the end: trimmed digits of the sum -/
theorem Carry.done {x y : Int} {l : List Int} {c : Int} {n k : Nat} {s : Int} (hxy : s = 1 ∨ (s = -1 ∧ y.natAbs ≤ x.natAbs)) (hn : n = max (digs x.natAbs).length (digs y.natAbs).length + 1) (h : Carry (digs x.natAbs) (digs y.natAbs) s l c n)
    (hk : k ≤ l.length) (hz : ∀ i, k ≤ i → i < l.length → dg l i = 0) (hl : k = 0 ∨ dg l (k - 1) ≠ 0) :
    l.take k = digs ((x.natAbs : Int) + s * (y.natAbs : Int)).toNat := by
  obtain ⟨h1, h2, h3⟩ := h
  have ea : V (dg (digs x.natAbs)) n = (x.natAbs : Int) := digs_at _ (by omega)
  have eb : V (dg (digs y.natAbs)) n = (y.natAbs : Int) := digs_at _ (by omega)
  rw [ea, eb] at h3
  have ta := digs_lt x.natAbs
  have tb := digs_lt y.natAbs
  have pa : 10 ^ (digs x.natAbs).length ≤ 10 ^ (n - 1) := Nat.pow_le_pow_right (by decide) (by omega)
  have pb : 10 ^ (digs y.natAbs).length ≤ 10 ^ (n - 1) := Nat.pow_le_pow_right (by decide) (by omega)
  have pn : (10 : Int) ^ n = 10 * ((10 ^ (n - 1) : Nat) : Int) := by
    obtain ⟨m, rfl⟩ : ∃ m, n = m + 1 := ⟨n - 1, by omega⟩
    rw [p10_succ]; simp
  have hb := V_bound (f := dg l) (n := n) fun i _ => dg_range h2 i
  have hc : c = 0 := by
    refine carry_end h3 hb.1 hb.2 ?_ ?_
    · rcases hxy with rfl | ⟨rfl, hy⟩ <;> omega
    · rw [pn]; rcases hxy with rfl | ⟨rfl, hy⟩ <;> omega
  rw [hc, Int.zero_mul, Int.add_zero] at h3
  have := digs_trim h2 hk hz hl
  rw [this, h1, h3]
theorem sum_sign {x y s : Int} (hx : x ≠ 0) (hs : s = sgn x * sgn y) (hy : y ≠ 0) : x + y = sgn x * ((x.natAbs : Int) + s * (y.natAbs : Int)) := by
  rcases sgn_cases x with ⟨h1, h2⟩ | ⟨h1, h2⟩ | ⟨h1, h2⟩
  · rcases sgn_cases y with ⟨g1, g2⟩ | ⟨g1, g2⟩ | ⟨g1, g2⟩
    · rw [hs, h2, g2]; omega
    · exact absurd g1 hy
    · rw [hs, h2, g2]; omega
  · exact absurd h1 hx
  · rcases sgn_cases y with ⟨g1, g2⟩ | ⟨g1, g2⟩ | ⟨g1, g2⟩
    · rw [hs, h2, g2]; omega
    · exact absurd g1 hy
    · rw [hs, h2, g2]; omega

/-- a call returns the integer z as sign and digits, wherever they lie -/
def SumIs (z : Int) (w : World) (e : Ending) (w' : World) : Prop :=
  ∃ (A : Option Addr) (c : Nat), e = .returned (.agg #[.int .i64 (sgn z), .slice A (digs z.natAbs).length c]) ∧ (digs z.natAbs).length ≤ c ∧ c ≤ maxLen ∧ Row w' A (digs z.natAbs) ∧ Below w.heap.size w w'
end Go.Proofs.YtgppimdakafniaaDoor
