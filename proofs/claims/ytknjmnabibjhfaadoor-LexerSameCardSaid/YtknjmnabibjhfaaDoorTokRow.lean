/- Slices of structs that come in (int, int, int, string, string, int, int, bool): what they read as. No condition. -/
import Derived.Test.YtknjmnabibjhfaaDoorProg
import Derived.WalkKit
import Derived.WalkLawsBesides
import Derived.WalkSpells
import Derived.Handy
import Derived.Outline
import Derived.LoopTactic
import Derived.PlainAid
import Derived.Below
import Derived.OwnWalk
import Derived.Laws.OwnMore
import Derived.Deep.QuietTactic
import Derived.BigQuiet
import Derived.Deep.RegionHeld3
import Derived.Deep.AppendLies
import Derived.Deep.RegionWith
import Derived.Deep.Slices
import Derived.KernelRfl
import Derived.ChangeSame
import Derived.ChangeArms
namespace Go.Proofs.YtknjmnabibjhfaaDoor.Tok
open Go Go.RowKit Go.PlainAid Go.Deep
theorem hide {p : Prop} (h : p) : Hid p := h
abbrev E := Int × Int × Int × ByteArray × ByteArray × Int × Int × Bool
def at_ (l : List E) (i : Nat) : E := l.getD i (0, 0, 0, ⟨#[]⟩, ⟨#[]⟩, 0, 0, false)
theorem add_plain (b off k : Nat) : (⟨b, off, none⟩ : Addr).add k = ⟨b, off + k, none⟩ := by unfold Addr.add; split <;> simp_all
/-- the cells of one -/
def Lies (w : World) (g off : Nat) (i : Nat) (e : E) : Prop := w.cell? ⟨g, off + i * 8, none⟩ = some (.int .i64 (e.1)) ∧ w.cell? ⟨g, off + i * 8 + 1, none⟩ = some (.int .i64 (e.2.1)) ∧ w.cell? ⟨g, off + i * 8 + 2, none⟩ = some (.int .i64 (e.2.2.1)) ∧ w.cell? ⟨g, off + i * 8 + 3, none⟩ = some (.string (e.2.2.2.1)) ∧ w.cell? ⟨g, off + i * 8 + 4, none⟩ = some (.string (e.2.2.2.2.1)) ∧ w.cell? ⟨g, off + i * 8 + 5, none⟩ = some (.int .i64 (e.2.2.2.2.2.1)) ∧ w.cell? ⟨g, off + i * 8 + 6, none⟩ = some (.int .i64 (e.2.2.2.2.2.2.1)) ∧ w.cell? ⟨g, off + i * 8 + 7, none⟩ = some (.bool (e.2.2.2.2.2.2.2))
/-- a slice that reads as l, wherever it lies -/
def Row (w : World) (A : Option Addr) (l : List E) : Prop :=
  0 < l.length → ∃ g off, A = some ⟨g, off, none⟩ ∧ g < w.heap.size ∧ ∀ i, i < l.length → Lies w g off i (at_ l i)
theorem Lies.below {w w' : World} {g off i : Nat} {e : E} (h : Lies w g off i e) (hg : g < w.heap.size) (hb : Below w.heap.size w w') : Lies w' g off i e := by
  obtain ⟨h0, h1, h2, h3, h4, h5, h6, h7⟩ := h
  exact ⟨(hb.cell (p := ⟨g, off + i * 8, none⟩) hg).trans h0, (hb.cell (p := ⟨g, off + i * 8 + 1, none⟩) hg).trans h1, (hb.cell (p := ⟨g, off + i * 8 + 2, none⟩) hg).trans h2, (hb.cell (p := ⟨g, off + i * 8 + 3, none⟩) hg).trans h3, (hb.cell (p := ⟨g, off + i * 8 + 4, none⟩) hg).trans h4, (hb.cell (p := ⟨g, off + i * 8 + 5, none⟩) hg).trans h5, (hb.cell (p := ⟨g, off + i * 8 + 6, none⟩) hg).trans h6, (hb.cell (p := ⟨g, off + i * 8 + 7, none⟩) hg).trans h7⟩
theorem Row.below {w w' : World} {A : Option Addr} {l : List E} (h : Row w A l) (hb : Below w.heap.size w w') : Row w' A l := fun hl => by
  obtain ⟨g, off, e, hg, hc⟩ := h hl
  exact ⟨g, off, e, Nat.lt_of_lt_of_le hg hb.size, fun i hi => (hc i hi).below hg hb⟩
theorem Row.take {w : World} {A : Option Addr} {l : List E} (h : Row w A l) (k : Nat) : Row w A (l.take k) := fun hl => by
  have hl0 : 0 < l.length := by simp only [List.length_take] at hl; omega
  obtain ⟨g, off, e, hg, hc⟩ := h hl0
  refine ⟨g, off, e, hg, fun i hi => ?_⟩
  have hi' : i < k ∧ i < l.length := by simp only [List.length_take] at hi; omega
  have e : at_ (l.take k) i = at_ l i := by simp [at_, List.getD, hi'.1]
  rw [e]; exact hc i hi'.2
theorem Row.of_cells {w : World} {x : Addr} {len : Nat} {l : List E} (hl : l.length = len) (h : ∀ i, i < len → w.cell? (x.add (i * 8)) = some (.int .i64 ((at_ l i).1)) ∧ w.cell? (x.add (i * 8 + 1)) = some (.int .i64 ((at_ l i).2.1)) ∧ w.cell? (x.add (i * 8 + 2)) = some (.int .i64 ((at_ l i).2.2.1)) ∧ w.cell? (x.add (i * 8 + 3)) = some (.string ((at_ l i).2.2.2.1)) ∧ w.cell? (x.add (i * 8 + 4)) = some (.string ((at_ l i).2.2.2.2.1)) ∧ w.cell? (x.add (i * 8 + 5)) = some (.int .i64 ((at_ l i).2.2.2.2.2.1)) ∧ w.cell? (x.add (i * 8 + 6)) = some (.int .i64 ((at_ l i).2.2.2.2.2.2.1)) ∧ w.cell? (x.add (i * 8 + 7)) = some (.bool ((at_ l i).2.2.2.2.2.2.2))) : Row w (some x) l := fun h0 => by
  subst hl
  obtain ⟨b, off, spot⟩ := x
  have hc0 := (h 0 h0).1
  have hspot : spot = none := by simpa [Addr.add] using World.cell?_spot hc0
  subst hspot
  refine ⟨b, off, rfl, ?_, fun i hi => ?_⟩
  · have := World.block_lt_of_cell? w _ hc0
    simpa [Addr.add] using this
  · have := h i hi
    simp only [add_plain] at this
    exact this
theorem many {α : Type} {l : List α} (h : l.length = 8) : ∃ a0 a1 a2 a3 a4 a5 a6 a7, l = [a0, a1, a2, a3, a4, a5, a6, a7] := match l, h with | [a0, a1, a2, a3, a4, a5, a6, a7], _ => ⟨a0, a1, a2, a3, a4, a5, a6, a7, rfl⟩
theorem fieldsOf {α : Type} {l : List α} (h : l.length = 7) : ∃ a0 a1 a2 a3 a4 a5 a6, l = [a0, a1, a2, a3, a4, a5, a6] := match l, h with | [a0, a1, a2, a3, a4, a5, a6], _ => ⟨a0, a1, a2, a3, a4, a5, a6, rfl⟩
theorem inner2 {α : Type} {l : List α} (h : l.length = 2) : ∃ a0 a1, l = [a0, a1] := match l, h with | [a0, a1], _ => ⟨a0, a1, rfl⟩
section
variable {H : Type} {enc : TypeId × Value → H} {w : World} {base : Nat} {spare : Nat → Bool} {held : Bool}
theorem open_rows {fuel : Nat} {A : Option Addr} {len cap : Nat} {x : DataW H × List MemPlace} (h : DataW.trod enc Tryd.prog w base spare held fuel 22 [.slice A len cap] = some x) :
    ∃ zs : List E, zs.length = len ∧ len ≤ cap ∧ Row w A zs := by
  have hce : Tryd.prog.cellsOf 32 = 8 := by kernel_rfl
  have hc_0 : Tryd.prog.cellsOf 3 = 1 := by kernel_rfl
  have hc_1 : Tryd.prog.cellsOf 9 = 1 := by kernel_rfl
  have hc_2 : Tryd.prog.cellsOf 30 = 2 := by kernel_rfl
  have hc_3 : Tryd.prog.cellsOf 4 = 1 := by kernel_rfl
  rcases open_slice Tryd.underlying22 h with ⟨hcs, _⟩ | ⟨a, l, c, m, nn, D, Pl, hcs', _, hl, hm, hmm, _, hall⟩
  · simp at hcs
    obtain ⟨rfl, rfl, rfl⟩ := hcs
    exact ⟨[], rfl, Nat.le_refl _, fun h => absurd h (by simp)⟩
  · simp at hcs'
    obtain ⟨rfl, rfl, rfl⟩ := hcs'
    have hlm : len ≤ m := by rw [hmm]; split <;> omega
    have each : ∀ i, i < len → ∃ q : E, w.cell? (a.add (i * 8)) = some (.int .i64 (q.1)) ∧ w.cell? (a.add (i * 8 + 1)) = some (.int .i64 (q.2.1)) ∧ w.cell? (a.add (i * 8 + 2)) = some (.int .i64 (q.2.2.1)) ∧ w.cell? (a.add (i * 8 + 3)) = some (.string (q.2.2.2.1)) ∧ w.cell? (a.add (i * 8 + 4)) = some (.string (q.2.2.2.2.1)) ∧ w.cell? (a.add (i * 8 + 5)) = some (.int .i64 (q.2.2.2.2.2.1)) ∧ w.cell? (a.add (i * 8 + 6)) = some (.int .i64 (q.2.2.2.2.2.2.1)) ∧ w.cell? (a.add (i * 8 + 7)) = some (.bool (q.2.2.2.2.2.2.2)) := by
      intro i hi
      obtain ⟨cs', h1, h2⟩ := hall i (by omega)
      rw [hce] at h1
      obtain ⟨_, hlen, hcell⟩ := World.cells?_some h1
      obtain ⟨xs, k, hk, hxy, _, hxl, hf⟩ := DataW.trod_struct Tryd.underlying32 h2
      obtain ⟨y0, y1, y2, y3, y4, y5, y6, rfl⟩ := fieldsOf (show xs.length = 7 from hxl)
      obtain ⟨v0, v1, v2, v3, v4, v5, v6, v7, rfl⟩ := many (show cs'.length = 8 from hlen)
      clear hxl hlen h2 hxy
      have g0 := hf 0 _ rfl
      change DataW.trod enc Tryd.prog w base spare held k 3 (List.take (Tryd.prog.cellsOf 3) [v0, v1, v2, v3, v4, v5, v6, v7]) = some y0 at g0
      rw [hc_0] at g0
      have g1 := hf 1 _ rfl
      change DataW.trod enc Tryd.prog w base spare held k 3 (List.take (Tryd.prog.cellsOf 3) [v1, v2, v3, v4, v5, v6, v7]) = some y1 at g1
      rw [hc_0] at g1
      have g2 := hf 2 _ rfl
      change DataW.trod enc Tryd.prog w base spare held k 3 (List.take (Tryd.prog.cellsOf 3) [v2, v3, v4, v5, v6, v7]) = some y2 at g2
      rw [hc_0] at g2
      have g3 := hf 3 _ rfl
      change DataW.trod enc Tryd.prog w base spare held k 9 (List.take (Tryd.prog.cellsOf 9) [v3, v4, v5, v6, v7]) = some y3 at g3
      rw [hc_1] at g3
      have g4 := hf 4 _ rfl
      change DataW.trod enc Tryd.prog w base spare held k 9 (List.take (Tryd.prog.cellsOf 9) [v4, v5, v6, v7]) = some y4 at g4
      rw [hc_1] at g4
      have g5 := hf 5 _ rfl
      change DataW.trod enc Tryd.prog w base spare held k 30 (List.take (Tryd.prog.cellsOf 30) [v5, v6, v7]) = some y5 at g5
      rw [hc_2] at g5
      have g6 := hf 6 _ rfl
      change DataW.trod enc Tryd.prog w base spare held k 4 (List.take (Tryd.prog.cellsOf 4) [v7]) = some y6 at g6
      rw [hc_3] at g6
      have e0 := hcell 0 (by omega)
      have e1 := hcell 1 (by omega)
      have e2 := hcell 2 (by omega)
      have e3 := hcell 3 (by omega)
      have e4 := hcell 4 (by omega)
      have e5 := hcell 5 (by omega)
      have e6 := hcell 6 (by omega)
      have e7 := hcell 7 (by omega)
      rw [add_add] at e0 e1 e2 e3 e4 e5 e6 e7
      obtain ⟨p0, d0, _, _⟩ := DataW.trod_int Tryd.underlying3 g0
      obtain ⟨p1, d1, _, _⟩ := DataW.trod_int Tryd.underlying3 g1
      obtain ⟨p2, d2, _, _⟩ := DataW.trod_int Tryd.underlying3 g2
      obtain ⟨p3, d3, _, _⟩ := DataW.trod_string Tryd.underlying9 g3
      obtain ⟨p4, d4, _, _⟩ := DataW.trod_string Tryd.underlying9 g4
      obtain ⟨zs5, k5, hk5, _, _, zl5, zf5⟩ := DataW.trod_struct Tryd.underlying30 g5
      obtain ⟨z5_0, z5_1, rfl⟩ := inner2 (show zs5.length = 2 from zl5)
      have g5_0 := zf5 0 _ rfl
      change DataW.trod enc Tryd.prog w base spare held k5 3 (List.take (Tryd.prog.cellsOf 3) [v5, v6]) = some z5_0 at g5_0
      rw [hc_0] at g5_0
      obtain ⟨p5, d5, _, _⟩ := DataW.trod_int Tryd.underlying3 g5_0
      have g5_1 := zf5 1 _ rfl
      change DataW.trod enc Tryd.prog w base spare held k5 3 (List.take (Tryd.prog.cellsOf 3) [v6]) = some z5_1 at g5_1
      rw [hc_0] at g5_1
      obtain ⟨p6, d6, _, _⟩ := DataW.trod_int Tryd.underlying3 g5_1
      obtain ⟨p7, d7, _⟩ := DataW.trod_bool Tryd.underlying4 g6
      simp at d0 d1 d2 d3 d4 d5 d6 d7
      subst d0 d1 d2 d3 d4 d5 d6 d7
      exact ⟨(p0, p1, p2, p3, p4, p5, p6, p7), by simpa using e0, by simpa using e1, by simpa using e2, by simpa using e3, by simpa using e4, by simpa using e5, by simpa using e6, by simpa using e7⟩
    obtain ⟨q, hq⟩ := choose_lt each
    refine ⟨(List.range len).map q, by simp, hl, Row.of_cells (len := len) (by simp) fun i hi => ?_⟩
    have e : at_ ((List.range len).map q) i = q i := by simp [at_, List.getD, hi]
    rw [e]
    exact hq i hi
end
end Go.Proofs.YtknjmnabibjhfaaDoor.Tok
