/- Two new structs of sign and digits in memory. No condition. -/
import Derived.Test.YtgppimdakafniaaDoorDecNear
namespace Go.Proofs.YtgppimdakafniaaDoor
open Go Go.RowKit Go.PlainAid

/-- two slots that point to new structs of sign and digits, whose digits lie elsewhere -/
def Two (W wx : World) (s8 s9 : Value) (x y : Int) : Prop := ∃ (g h : Nat) (P Q : Option Addr) (cp cq : Nat), s8 = .pointer (some ⟨g, 0, none⟩) ∧ s9 = .pointer (some ⟨h, 0, none⟩) ∧ g ≠ h ∧
  (wx.cell? ⟨g, 0, none⟩ = some (.int .i64 (sgn x)) ∧ wx.cell? ⟨g, 1, none⟩ = some (.slice P (digs x.natAbs).length cp) ∧ wx.cell? ⟨h, 0, none⟩ = some (.int .i64 (sgn y)) ∧ wx.cell? ⟨h, 1, none⟩ = some (.slice Q (digs y.natAbs).length cq)) ∧
  (wx.frozen? ⟨g, 0, none⟩ = false ∧ wx.frozen? ⟨g, 1, none⟩ = false ∧ wx.frozen? ⟨h, 0, none⟩ = false ∧ wx.frozen? ⟨h, 1, none⟩ = false) ∧ (W.heap.size ≤ g ∧ W.heap.size ≤ h ∧ g < wx.heap.size ∧ h < wx.heap.size) ∧
  ((digs x.natAbs).length ≤ cp ∧ cp ≤ maxLen ∧ (digs y.natAbs).length ≤ cq ∧ cq ≤ maxLen) ∧ (Row wx P (digs x.natAbs) ∧ Row wx Q (digs y.natAbs)) ∧
  ((0 < (digs x.natAbs).length → ∀ a, P = some a → a.block ≠ g ∧ a.block ≠ h) ∧ (0 < (digs y.natAbs).length → ∀ a, Q = some a → a.block ≠ g ∧ a.block ≠ h)) ∧ Below W.heap.size W wx

theorem Two.swap {W wx : World} {s8 s9 : Value} {x y : Int} (t : Two W wx s8 s9 x y) : Two W wx s9 s8 y x := by
  obtain ⟨g, h, P, Q, cp, cq, e1, e2, hne, ⟨a1, a2, a3, a4⟩, ⟨f1, f2, f3, f4⟩, ⟨s1, s2, s3, s4⟩, ⟨l1, l2, l3, l4⟩, ⟨r1, r2⟩, ⟨n1, n2⟩, hb⟩ := t
  exact ⟨h, g, Q, P, cq, cp, e2, e1, hne.symm, ⟨a3, a4, a1, a2⟩, ⟨f3, f4, f1, f2⟩, ⟨s2, s1, s4, s3⟩, ⟨l3, l4, l1, l2⟩, ⟨r2, r1⟩, ⟨fun h0 a e => (n2 h0 a e).symm, fun h0 a e => (n1 h0 a e).symm⟩, hb⟩
/-- the cells of a struct are there and may be written -/
def There (X : World) (g : Nat) : Prop := (∃ u, X.cell? ⟨g, 0, none⟩ = some u) ∧ (∃ u, X.cell? ⟨g, 1, none⟩ = some u) ∧ X.frozen? ⟨g, 0, none⟩ = false ∧ X.frozen? ⟨g, 1, none⟩ = false
theorem There.lt {X : World} {g : Nat} (h : There X g) : g < X.heap.size := by
  obtain ⟨⟨u, hu⟩, _⟩ := h
  exact World.block_lt_of_cell? X _ hu
theorem There.below {X Y : World} {g : Nat} (h : There X g) (hb : Below X.heap.size X Y) : There Y g := by
  have hl := h.lt
  obtain ⟨⟨u, hu⟩, ⟨v, hv⟩, f0, f1⟩ := h
  exact ⟨⟨u, (hb.cell hl).trans hu⟩, ⟨v, (hb.cell hl).trans hv⟩, (hb.frozen hl).trans f0, (hb.frozen hl).trans f1⟩
theorem There.new (X : World) (a b : Value) (T : TypeId) {g : Nat} (hg : g = X.heap.size) : There (X.alloc (.cells #[a, b] T)) g := by
  subst hg
  exact ⟨⟨a, one0 _ _ _ _⟩, ⟨b, one1 _ _ _ _⟩, by simp [go_sem], by simp [go_sem]⟩
def put2 (X : World) (g : Nat) (a b : Value) : World := (X.setCell ⟨g, 0, none⟩ a).setCell ⟨g, 1, none⟩ b
theorem put2_size (X : World) (g : Nat) (a b : Value) : (put2 X g a b).heap.size = X.heap.size := by simp [put2]
theorem put2_cells {X : World} {g : Nat} {a b : Value} (h : There X g) : (put2 X g a b).cell? ⟨g, 0, none⟩ = some a ∧ (put2 X g a b).cell? ⟨g, 1, none⟩ = some b := by
  obtain ⟨⟨u, hu⟩, ⟨v, hv⟩, _⟩ := h
  unfold put2
  constructor
  · rw [World.cell?_setCell_other _ _ _ _ (by simp)]
    exact World.cell?_setCell_same _ _ _ hu
  · refine World.cell?_setCell_same (u := v) _ _ _ ?_
    rw [World.cell?_setCell_other _ _ _ _ (by simp)]
    exact hv
theorem put2_other {X : World} {g h i : Nat} {a b : Value} (n : g ≠ h) : (put2 X g a b).cell? ⟨h, i, none⟩ = X.cell? ⟨h, i, none⟩ := by
  unfold put2
  rw [World.cell?_setCell_other _ _ _ _ (fun e => n (by injection e)), World.cell?_setCell_other _ _ _ _ (fun e => n (by injection e))]
theorem put2_free (X : World) (g h i : Nat) (a b : Value) : (put2 X g a b).frozen? ⟨h, i, none⟩ = X.frozen? ⟨h, i, none⟩ := by
  unfold put2; simp [go_sem]
theorem There.put {X : World} {g h : Nat} {a b : Value} (t : There X h) (n : g ≠ h) : There (put2 X g a b) h := by
  obtain ⟨⟨u, hu⟩, ⟨v, hv⟩, f0, f1⟩ := t
  exact ⟨⟨u, (put2_other n).trans hu⟩, ⟨v, (put2_other n).trans hv⟩, (put2_free ..).trans f0, (put2_free ..).trans f1⟩
theorem Row.put {X : World} {g : Nat} {a b : Value} {P : Option Addr} {l : List Int} (h : Row X P l) (ha : 0 < l.length → ∀ x, P = some x → x.block ≠ g) : Row (put2 X g a b) P l := (h.far ha _ _).far ha _ _
/-- a row's block is none of these -/
def Off (P : Option Addr) (n g h : Nat) : Prop := 0 < n → ∀ a, P = some a → a.block ≠ g ∧ a.block ≠ h
theorem tw3 {W X : World} {g h : Nat} {P Q : Option Addr} {cp cq : Nat} {x y : Int} (hX : Below W.heap.size W X) (tg : There X g) (th : There X h) (gh : g ≠ h) (hg : W.heap.size ≤ g) (hh : W.heap.size ≤ h)
    (l1 : (digs x.natAbs).length ≤ cp) (l2 : cp ≤ maxLen) (l3 : (digs y.natAbs).length ≤ cq) (l4 : cq ≤ maxLen) (rp : Row X P (digs x.natAbs)) (rq : Row X Q (digs y.natAbs)) (np : Off P (digs x.natAbs).length g h) (nq : Off Q (digs y.natAbs).length g h) :
    Two W ((((X.setCell ⟨g, 0, none⟩ (.int .i64 (sgn x))).setCell ⟨g, 1, none⟩ (.slice P (digs x.natAbs).length cp)).setCell ⟨h, 0, none⟩ (.int .i64 (sgn y))).setCell ⟨h, 1, none⟩ (.slice Q (digs y.natAbs).length cq)) (.pointer (some ⟨g, 0, none⟩)) (.pointer (some ⟨h, 0, none⟩)) x y := by
  have e : (((X.setCell ⟨g, 0, none⟩ (.int .i64 (sgn x))).setCell ⟨g, 1, none⟩ (.slice P (digs x.natAbs).length cp)).setCell ⟨h, 0, none⟩ (.int .i64 (sgn y))).setCell ⟨h, 1, none⟩ (.slice Q (digs y.natAbs).length cq) = put2 (put2 X g (.int .i64 (sgn x)) (.slice P (digs x.natAbs).length cp)) h (.int .i64 (sgn y)) (.slice Q (digs y.natAbs).length cq) := rfl
  rw [e]
  have c1 := put2_cells (a := .int .i64 (sgn x)) (b := .slice P (digs x.natAbs).length cp) tg
  have c2 := put2_cells (a := .int .i64 (sgn y)) (b := .slice Q (digs y.natAbs).length cq) (th.put (a := .int .i64 (sgn x)) (b := .slice P (digs x.natAbs).length cp) gh)
  have lg := tg.lt
  have lh := th.lt
  refine ⟨g, h, P, Q, cp, cq, rfl, rfl, gh, ⟨(put2_other gh.symm).trans c1.1, (put2_other gh.symm).trans c1.2, c2.1, c2.2⟩,
    ⟨by rw [put2_free, put2_free]; exact tg.2.2.1, by rw [put2_free, put2_free]; exact tg.2.2.2, by rw [put2_free, put2_free]; exact th.2.2.1, by rw [put2_free, put2_free]; exact th.2.2.2⟩,
    ⟨hg, hh, by rw [put2_size, put2_size]; exact lg, by rw [put2_size, put2_size]; exact lh⟩, ⟨l1, l2, l3, l4⟩,
    ⟨(rp.put fun h0 a e => (np h0 a e).1).put fun h0 a e => (np h0 a e).2, (rq.put fun h0 a e => (nq h0 a e).1).put fun h0 a e => (nq h0 a e).2⟩, ⟨np, nq⟩, ?_⟩
  exact below_set (below_set (below_set (below_set hX hg _) hg _) hh _) hh _
theorem Row.off {X : World} {P : Option Addr} {l : List Int} (h : Row X P l) {g : Nat} (hg : X.heap.size ≤ g) : 0 < l.length → ∀ a, P = some a → a.block ≠ g := fun h0 a e => by
  obtain ⟨b, off, e', hb, _⟩ := h h0
  rw [e] at e'
  injection e' with e'
  rw [e']
  exact Nat.ne_of_lt (Nat.lt_of_lt_of_le hb hg)
theorem tw2 {W X : World} {g : Nat} {P Q : Option Addr} {cp cq : Nat} {x y : Int} (T : TypeId) (hX : Below W.heap.size W X) (tg : There X g) (hg : W.heap.size ≤ g)
    (l1 : (digs x.natAbs).length ≤ cp) (l2 : cp ≤ maxLen) (l3 : (digs y.natAbs).length ≤ cq) (l4 : cq ≤ maxLen) (rp : Row X P (digs x.natAbs)) (rq : Row X Q (digs y.natAbs)) (np : Off P (digs x.natAbs).length g g) (nq : Off Q (digs y.natAbs).length g g) :
    Two W (((X.setCell ⟨g, 0, none⟩ (.int .i64 (sgn x))).setCell ⟨g, 1, none⟩ (.slice P (digs x.natAbs).length cp)).alloc (.cells #[.int .i64 (sgn y), .slice Q (digs y.natAbs).length cq] T)) (.pointer (some ⟨g, 0, none⟩)) (.pointer (some ⟨X.heap.size, 0, none⟩)) x y := by
  have e : ((X.setCell ⟨g, 0, none⟩ (.int .i64 (sgn x))).setCell ⟨g, 1, none⟩ (.slice P (digs x.natAbs).length cp)) = put2 X g (.int .i64 (sgn x)) (.slice P (digs x.natAbs).length cp) := rfl
  rw [e]
  have c1 := put2_cells (a := .int .i64 (sgn x)) (b := .slice P (digs x.natAbs).length cp) tg
  have lg := tg.lt
  obtain ⟨Y, hY⟩ : ∃ Y, Y = put2 X g (.int .i64 (sgn x)) (.slice P (digs x.natAbs).length cp) := ⟨_, rfl⟩
  have hs : Y.heap.size = X.heap.size := by rw [hY, put2_size]
  have tY : There Y g := by
    rw [hY]
    exact ⟨⟨_, c1.1⟩, ⟨_, c1.2⟩, (put2_free ..).trans tg.2.2.1, (put2_free ..).trans tg.2.2.2⟩
  have ry : Row Y P (digs x.natAbs) := by rw [hY]; exact rp.put fun h0 a e => (np h0 a e).1
  have ryq : Row Y Q (digs y.natAbs) := by rw [hY]; exact rq.put fun h0 a e => (nq h0 a e).1
  have hbY : Below W.heap.size W Y := by rw [hY]; exact below_set (below_set hX hg _) hg _
  rw [← hY] at c1 ⊢
  have tZ := tY.below (below1 Y (.cells #[.int .i64 (sgn y), .slice Q (digs y.natAbs).length cq] T))
  rw [← hs]
  have lY := tY.lt
  refine ⟨g, Y.heap.size, P, Q, cp, cq, rfl, rfl, by omega, ⟨lift0 (below1 _ _) c1.1, lift0 (below1 _ _) c1.2, one0 _ _ _ _, one1 _ _ _ _⟩,
    ⟨tZ.2.2.1, tZ.2.2.2, by simp [go_sem], by simp [go_sem]⟩, ⟨hg, hbY.size, by simp; omega, by simp⟩, ⟨l1, l2, l3, l4⟩,
    ⟨ry.below (below1 _ _), ryq.below (below1 _ _)⟩, ⟨fun h0 a e => ⟨(np h0 a e).1, ry.off (Nat.le_refl _) h0 a e⟩, fun h0 a e => ⟨(nq h0 a e).1, ryq.off (Nat.le_refl _) h0 a e⟩⟩, below_alloc hbY _⟩
theorem tw1 {W X : World} {P Q : Option Addr} {cp cq : Nat} {x y : Int} (T U : TypeId) (hX : Below W.heap.size W X)
    (l1 : (digs x.natAbs).length ≤ cp) (l2 : cp ≤ maxLen) (l3 : (digs y.natAbs).length ≤ cq) (l4 : cq ≤ maxLen) (rp : Row X P (digs x.natAbs)) (rq : Row X Q (digs y.natAbs)) :
    Two W ((X.alloc (.cells #[.int .i64 (sgn x), .slice P (digs x.natAbs).length cp] T)).alloc (.cells #[.int .i64 (sgn y), .slice Q (digs y.natAbs).length cq] U)) (.pointer (some ⟨X.heap.size, 0, none⟩)) (.pointer (some ⟨X.heap.size + 1, 0, none⟩)) x y := by
  have hs := hX.size
  have e1 : (X.alloc (.cells #[.int .i64 (sgn x), .slice P (digs x.natAbs).length cp] T)).heap.size = X.heap.size + 1 := by simp
  refine ⟨X.heap.size, X.heap.size + 1, P, Q, cp, cq, rfl, rfl, by omega, ⟨lift0 (below1 _ _) (one0 _ _ _ _), lift0 (below1 _ _) (one1 _ _ _ _), ?_, ?_⟩,
    ⟨by simp [go_sem], by simp [go_sem], by simp [go_sem], by simp [go_sem]⟩, ⟨hs, by omega, by simp; omega, by simp⟩, ⟨l1, l2, l3, l4⟩,
    ⟨(rp.below (below1 _ _)).below (below1 _ _), (rq.below (below1 _ _)).below (below1 _ _)⟩,
    ⟨fun h0 a e => ⟨rp.off (Nat.le_refl _) h0 a e, rp.off (Nat.le_succ _) h0 a e⟩, fun h0 a e => ⟨rq.off (Nat.le_refl _) h0 a e, rq.off (Nat.le_succ _) h0 a e⟩⟩, below_alloc (below_alloc hX _) _⟩
  · rw [← e1]; exact one0 _ _ _ _
  · rw [← e1]; exact one1 _ _ _ _

end Go.Proofs.YtgppimdakafniaaDoor
