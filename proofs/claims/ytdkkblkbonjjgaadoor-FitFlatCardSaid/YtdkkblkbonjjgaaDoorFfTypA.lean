/- Types and their fields as rows of cells; the boxes of ShortType. No condition. -/
import Derived.Test.YtdkkblkbonjjgaaDoorFfVal
namespace Go.Proofs.YtdkkblkbonjjgaaDoor.Ff
open Go Go.RowKit Go.PlainAid
theorem typInfo : (Tryd.prog.info? 26).map (fun i => (i.zero, i.size, i.bytes)) = some (some (.agg #[.int .i64 0, .int .i64 0, .int .i64 0, .int .i64 0, .slice none 0 0, .slice none 0 0, .slice none 0 0]), 7, 104) := by kernel_rfl
theorem tfInfo : (Tryd.prog.info? 30).map (fun i => (i.zero, i.size, i.bytes)) = some (some (.agg #[.int .i64 0, .string ⟨#[]⟩, .int .i64 0, .int .i64 0, .int .i64 0, .int .i64 0, .int .i64 0, .slice none 0 0, .slice none 0 0, .slice none 0 0, .slice none 0 0]), 11, 160) := by kernel_rfl
theorem strInfo : (Tryd.prog.info? 9).map (fun i => (i.zero, i.size, i.bytes)) = some (some (.string ⟨#[]⟩), 1, 16) := by kernel_rfl
/-- a type, as a row of its fields -/
structure Typ where
  k : Int
  mn : Int
  mx : Int
  sc : Int
  A : Option Addr
  la : Nat
  ca : Nat
  B : Option Addr
  lb : Nat
  cb : Nat
  C : Option Addr
  lc : Nat
  cc : Nat
def Typ.list (v : Typ) : List Value := [.int .i64 v.k, .int .i64 v.mn, .int .i64 v.mx, .int .i64 v.sc, .slice v.A v.la v.ca, .slice v.B v.lb v.cb, .slice v.C v.lc v.cc]
abbrev Typ.arr (v : Typ) : Array Value := #[.int .i64 v.k, .int .i64 v.mn, .int .i64 v.mx, .int .i64 v.sc, .slice v.A v.la v.ca, .slice v.B v.lb v.cb, .slice v.C v.lc v.cc]
/-- a field of a type -/
structure Tf where
  nu : Int
  nm : ByteArray
  ne : Int
  t : Typ
  D : Option Addr
  ld : Nat
  cd : Nat
def Tf.list (f : Tf) : List Value := .int .i64 f.nu :: .string f.nm :: .int .i64 f.ne :: (f.t.list ++ [.slice f.D f.ld f.cd])
abbrev Tf.arr (f : Tf) : Array Value := #[.int .i64 f.nu, .string f.nm, .int .i64 f.ne, .int .i64 f.t.k, .int .i64 f.t.mn, .int .i64 f.t.mx, .int .i64 f.t.sc, .slice f.t.A f.t.la f.t.ca, .slice f.t.B f.t.lb f.t.cb, .slice f.t.C f.t.lc f.t.cc, .slice f.D f.ld f.cd]
theorem Tf.len (f : Tf) : f.list.length = 11 := rfl
theorem fm_len : ∀ l : List Tf, (l.flatMap Tf.list).length = l.length * 11
  | [] => rfl
  | f :: l => by rw [List.flatMap_cons, List.length_append, fm_len l, Tf.len, List.length_cons]; omega
theorem fm_at : ∀ (l : List Tf) (i c : Nat) (h : i < l.length), c < 11 → (l.flatMap Tf.list)[i * 11 + c]? = (l[i]).list[c]?
  | f :: l, 0, c, _, hc => by
    rw [List.flatMap_cons, Nat.zero_mul, Nat.zero_add, List.getElem?_append_left (by rw [Tf.len]; exact hc)]
    rfl
  | f :: l, i + 1, c, h, hc => by
    rw [List.flatMap_cons, List.getElem?_append_right (by rw [Tf.len]; omega), Tf.len, show (i + 1) * 11 + c - 11 = i * 11 + c by omega]
    exact fm_at l i c (by simpa using h) hc
/-- a row of fields from a block on -/
def TRow (n₀ : Nat) (w : World) (C : Option Addr) (l : List Tf) : Prop := 0 < l.length → ∃ g, C = some ⟨g, 0, none⟩ ∧ n₀ ≤ g ∧ g < w.heap.size ∧ ∀ i (h : i < l.length) c, c < 11 → w.cell? ⟨g, i * 11 + c, none⟩ = (l[i]).list[c]?
theorem TRow.below {n₀ : Nat} {w w' : World} {C : Option Addr} {l : List Tf} (h : TRow n₀ w C l) (hb : Below w.heap.size w w') : TRow n₀ w' C l := fun hl => by
  obtain ⟨g, e, h0, hg, hc⟩ := h hl
  exact ⟨g, e, h0, Nat.lt_of_lt_of_le hg hb.size, fun i hi c h => (hb.cell (p := ⟨g, i * 11 + c, none⟩) hg).trans (hc i hi c h)⟩
theorem TRow.set {n₀ : Nat} {w : World} {C : Option Addr} {l : List Tf} (h : TRow n₀ w C l) {p : Addr} (hp : p.block < n₀) (u : Value) : TRow n₀ (w.setCell p u) C l := fun hl => by
  obtain ⟨g, e, h0, hg, hc⟩ := h hl
  refine ⟨g, e, h0, by simpa using hg, fun i hi c h => ?_⟩
  rw [World.cell?_setCell_other _ _ _ _ (by intro e; subst e; simp at hp; omega)]
  exact hc i hi c h
theorem TRow.of_own {n₀ : Nat} {w : World} {v : Value} {l : List Tf} (h : w.ownsRow n₀ 30 11 v l.length (l.flatMap Tf.list)) : ∃ C cc, v = .slice C l.length cc ∧ TRow n₀ w C l := by
  have h' := h
  rcases h.2 with ⟨rfl, h0⟩ | ⟨g, cap, cur, rfl, hB, hg, _⟩
  · exact ⟨none, 0, by rw [h0], fun hl => by omega⟩
  · refine ⟨_, cap, rfl, fun _ => ⟨g, rfl, hB, ?_, fun i hi c hc => ?_⟩⟩
    · rcases Nat.lt_or_ge g w.heap.size with hlt | hge
      · exact hlt
      · rw [Array.getElem?_eq_none hge] at hg; cases hg
    · rw [h'.cellAt _ (by omega)]
      exact fm_at l i c hi hc
theorem TRow.low {n₀ n₁ : Nat} {w : World} {C : Option Addr} {l : List Tf} (h : TRow n₀ w C l) (hn : n₁ ≤ n₀) : TRow n₁ w C l := fun hl => by
  obtain ⟨g, e, h0, hg, hc⟩ := h hl
  exact ⟨g, e, Nat.le_trans hn h0, hg, hc⟩
theorem cells11 {w : World} {b : Nat} {f : Tf} (h : Holds w b 30 f.arr) : w.cell? ⟨b, 0, none⟩ = some (.int .i64 f.nu) ∧ w.cell? ⟨b, 1, none⟩ = some (.string f.nm) ∧ w.cell? ⟨b, 2, none⟩ = some (.int .i64 f.ne) ∧ w.cell? ⟨b, 3, none⟩ = some (.int .i64 f.t.k) ∧ w.cell? ⟨b, 4, none⟩ = some (.int .i64 f.t.mn) ∧ w.cell? ⟨b, 5, none⟩ = some (.int .i64 f.t.mx) ∧ w.cell? ⟨b, 6, none⟩ = some (.int .i64 f.t.sc) ∧
    w.cell? ⟨b, 7, none⟩ = some (.slice f.t.A f.t.la f.t.ca) ∧ w.cell? ⟨b, 8, none⟩ = some (.slice f.t.B f.t.lb f.t.cb) ∧ w.cell? ⟨b, 9, none⟩ = some (.slice f.t.C f.t.lc f.t.cc) ∧ w.cell? ⟨b, 10, none⟩ = some (.slice f.D f.ld f.cd) :=
  ⟨h.cell 0, h.cell 1, h.cell 2, h.cell 3, h.cell 4, h.cell 5, h.cell 6, h.cell 7, h.cell 8, h.cell 9, h.cell 10⟩
theorem free11 {w : World} {b : Nat} {f : Tf} (h : Holds w b 30 f.arr) : w.frozen? ⟨b, 1, none⟩ = false ∧ w.frozen? ⟨b, 3, none⟩ = false ∧ w.frozen? ⟨b, 4, none⟩ = false ∧ w.frozen? ⟨b, 5, none⟩ = false ∧ w.frozen? ⟨b, 6, none⟩ = false ∧ w.frozen? ⟨b, 7, none⟩ = false ∧ w.frozen? ⟨b, 8, none⟩ = false ∧ w.frozen? ⟨b, 9, none⟩ = false ∧ w.frozen? ⟨b, 10, none⟩ = false :=
  ⟨h.free 1, h.free 3, h.free 4, h.free 5, h.free 6, h.free 7, h.free 8, h.free 9, h.free 10⟩
theorem TOk.parts {w : World} {n : Nat} {cs : List Value} (h : TOk w n cs) : ∃ v : Typ, cs = v.list ∧ Rows w 1 (fun cs => ∃ s, cs = [.string s] ∧ s.size ≤ maxLen) v.A v.la ∧ (0 < n → Rows w 7 (TOk w (n - 1)) v.B v.lb ∧
    Rows w 11 (fun cs => ∃ (nu ne : Int) (nm : ByteArray) (ts : List Value) (D : Option Addr) (ld cd : Nat), cs = .int .i64 nu :: .string nm :: .int .i64 ne :: (ts ++ [.slice D ld cd]) ∧ nm.size ≤ maxLen ∧ ld ≤ cd ∧ cd ≤ maxLen ∧ TOk w (n - 1) ts ∧ Rows w 6 (VOk w 2) D ld) v.C v.lc) := by
  cases n with
  | zero =>
    obtain ⟨k, mn, mx, sc, A, B, C, la, ca, lb, cb, lc, cc, rfl, _, _, _, _, _, _, h1⟩ := h
    exact ⟨⟨k, mn, mx, sc, A, la, ca, B, lb, cb, C, lc, cc⟩, rfl, h1, fun h => absurd h (by omega)⟩
  | succ n =>
    obtain ⟨k, mn, mx, sc, A, B, C, la, ca, lb, cb, lc, cc, rfl, _, _, _, _, _, _, h1, h2, h3⟩ := h
    exact ⟨⟨k, mn, mx, sc, A, la, ca, B, lb, cb, C, lc, cc⟩, rfl, h1, fun _ => ⟨h2, h3⟩⟩
theorem rounds_le (n la b : Nat) : rounds n la b ≤ b := by unfold rounds; split <;> omega
def STPost (w : World) (e : Ending) (w' : World) : Prop := ∃ (v : Typ) (l : List Tf), e = .returned (.agg v.arr) ∧ v.lc = l.length ∧ l.length ≤ 6 ∧ TRow w.heap.size w' v.C l ∧ Below w.heap.size w w'
/-- the boxes of ShortType -/
structure TBoxes (w wr : World) (v : Typ) : Prop where
  v : Holds wr w.heap.size 26 v.arr
  r : Holds wr (w.heap.size + 1) 26 #[.int .i64 0, .int .i64 0, .int .i64 0, .int .i64 0, .slice none 0 0, .slice none 0 0, .slice none 0 0]
  b : Below w.heap.size w wr
theorem TBoxes.below {w wr X : World} {v : Typ} (h : TBoxes w wr v) (hb : Below wr.heap.size wr X) : TBoxes w X v := ⟨h.v.below hb, h.r.below hb, below_step h.b hb⟩
theorem TBoxes.grown {w wr X0 X : World} {v : Typ} {row : Option Nat} (h : TBoxes w wr v) (hg : X0.grownBy X row) (h0 : Below wr.heap.size wr X0) (hr : ∀ k, row = some k → w.heap.size + 2 ≤ k) : TBoxes w X v :=
  ⟨(h.v.below h0).grown hg (fun e => by have := hr _ e.symm; omega), (h.r.below h0).grown hg (fun e => by have := hr _ e.symm; omega), (below_step h.b h0).grown hg (by have := h.b.size; have := h0.size; omega) (fun k e => by have := hr k e; omega)⟩
theorem below_grown {n : Nat} {wr X0 X : World} {row : Option Nat} (hn : n ≤ wr.heap.size) (hg : X0.grownBy X row) (h0 : Below wr.heap.size wr X0) (hr : ∀ k, row = some k → n ≤ k) : Below n wr X := (h0.mono hn).grown hg (by have := h0.size; omega) hr
theorem new1 (w : World) (o : Obj) : Below w.heap.size w (w.alloc o) := (Below.refl _ w).alloc (Nat.le_refl _) _
theorem new1d (w : World) (o : Obj) : Below w.heap.size w (w.alloc o).drew := (new1 w o).drew
theorem TBoxes.new (w : World) (v : Typ) : TBoxes w ((w.alloc (Obj.cells v.arr 26)).alloc (Obj.cells #[.int .i64 0, .int .i64 0, .int .i64 0, .int .i64 0, .slice none 0 0, .slice none 0 0, .slice none 0 0] 26)) v := by
  refine ⟨Holds.alloc (heap_alloc_new w _) _, ?_, ((Below.refl _ _).alloc (Nat.le_refl _) _).alloc (by simp) _⟩
  have := heap_alloc_new (w.alloc (Obj.cells v.arr 26)) (Obj.cells #[.int .i64 0, .int .i64 0, .int .i64 0, .int .i64 0, .slice none 0 0, .slice none 0 0, .slice none 0 0] 26)
  rw [World.size_alloc] at this
  exact this
theorem keepB {n : Nat} {W X : World} {b g o c : Nat} {x y : Value} (hb : Below n W X) (hg : g < n) (hn : b < n) (h0 : W.cell? ⟨b, c, none⟩ = some x) (h1 : W.cell? ⟨g, o, none⟩ = some y) : X.cell? ⟨b, c, none⟩ = some x ∧ X.cell? ⟨g, o, none⟩ = some y :=
  ⟨(hb.cell (p := ⟨b, c, none⟩) hn).trans h0, (hb.cell (p := ⟨g, o, none⟩) hg).trans h1⟩
end Go.Proofs.YtdkkblkbonjjgaaDoor.Ff
