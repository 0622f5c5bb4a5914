/- Slices of structs that come in (int, string): what they read as. No condition. -/
import Derived.Test.YtdkkblkbonjjgabGreatDoorProg
import Derived.WalkKit
import Derived.WalkLawsBesides
import Derived.WalkSpells
import Derived.Handy
import Derived.Outline
import Derived.LoopTactic
import Derived.PlainAid
import Derived.Below
import Derived.OwnWalk
import Derived.Laws.OwnMore
import Derived.Deep.QuietTactic
import Derived.BigQuiet
import Derived.Deep.RegionHeld3
import Derived.Deep.AppendLies
import Derived.Deep.RegionWith
import Derived.Deep.Slices
import Derived.KernelRfl
import Derived.ChangeSame
import Derived.ChangeArms
namespace Go.Proofs.YtdkkblkbonjjgabGreatDoor.Tj
open Go Go.RowKit Go.PlainAid Go.Deep
theorem hide {p : Prop} (h : p) : Hid p := h
abbrev E := Int × ByteArray
def at_ (l : List E) (i : Nat) : E := l.getD i (0, ⟨#[]⟩)
theorem add_plain (b off k : Nat) : (⟨b, off, none⟩ : Addr).add k = ⟨b, off + k, none⟩ := by unfold Addr.add; split <;> simp_all
/-- the cells of one -/
def Lies (w : World) (g off : Nat) (i : Nat) (e : E) : Prop := w.cell? ⟨g, off + i * 2, none⟩ = some (.int .i64 (e.1)) ∧ w.cell? ⟨g, off + i * 2 + 1, none⟩ = some (.string (e.2))
/-- a slice that reads as l, wherever it lies -/
def Row (w : World) (A : Option Addr) (l : List E) : Prop :=
  0 < l.length → ∃ g off, A = some ⟨g, off, none⟩ ∧ g < w.heap.size ∧ ∀ i, i < l.length → Lies w g off i (at_ l i)
theorem Lies.below {w w' : World} {g off i : Nat} {e : E} (h : Lies w g off i e) (hg : g < w.heap.size) (hb : Below w.heap.size w w') : Lies w' g off i e := by
  obtain ⟨h0, h1⟩ := h
  exact ⟨(hb.cell (p := ⟨g, off + i * 2, none⟩) hg).trans h0, (hb.cell (p := ⟨g, off + i * 2 + 1, none⟩) hg).trans h1⟩
theorem Row.below {w w' : World} {A : Option Addr} {l : List E} (h : Row w A l) (hb : Below w.heap.size w w') : Row w' A l := fun hl => by
  obtain ⟨g, off, e, hg, hc⟩ := h hl
  exact ⟨g, off, e, Nat.lt_of_lt_of_le hg hb.size, fun i hi => (hc i hi).below hg hb⟩
theorem Row.take {w : World} {A : Option Addr} {l : List E} (h : Row w A l) (k : Nat) : Row w A (l.take k) := fun hl => by
  have hl0 : 0 < l.length := by simp only [List.length_take] at hl; omega
  obtain ⟨g, off, e, hg, hc⟩ := h hl0
  refine ⟨g, off, e, hg, fun i hi => ?_⟩
  have hi' : i < k ∧ i < l.length := by simp only [List.length_take] at hi; omega
  have e : at_ (l.take k) i = at_ l i := by simp [at_, List.getD, hi'.1]
  rw [e]; exact hc i hi'.2
theorem Row.of_cells {w : World} {x : Addr} {len : Nat} {l : List E} (hl : l.length = len) (h : ∀ i, i < len → w.cell? (x.add (i * 2)) = some (.int .i64 ((at_ l i).1)) ∧ w.cell? (x.add (i * 2 + 1)) = some (.string ((at_ l i).2))) : Row w (some x) l := fun h0 => by
  subst hl
  obtain ⟨b, off, spot⟩ := x
  have hc0 := (h 0 h0).1
  have hspot : spot = none := by simpa [Addr.add] using World.cell?_spot hc0
  subst hspot
  refine ⟨b, off, rfl, ?_, fun i hi => ?_⟩
  · have := World.block_lt_of_cell? w _ hc0
    simpa [Addr.add] using this
  · have := h i hi
    simp only [add_plain] at this
    exact this
theorem many {α : Type} {l : List α} (h : l.length = 2) : ∃ a0 a1, l = [a0, a1] := match l, h with | [a0, a1], _ => ⟨a0, a1, rfl⟩
theorem fieldsOf {α : Type} {l : List α} (h : l.length = 2) : ∃ a0 a1, l = [a0, a1] := match l, h with | [a0, a1], _ => ⟨a0, a1, rfl⟩
section
variable {H : Type} {enc : TypeId × Value → H} {w : World} {base : Nat} {spare : Nat → Bool} {held : Bool}
theorem open_rows {fuel : Nat} {A : Option Addr} {len cap : Nat} {x : DataW H × List MemPlace} (h : DataW.trod enc Tryz.prog w base spare held fuel 22 [.slice A len cap] = some x) :
    ∃ zs : List E, zs.length = len ∧ len ≤ cap ∧ Row w A zs := by
  have hce : Tryz.prog.cellsOf 27 = 2 := by kernel_rfl
  have hc_0 : Tryz.prog.cellsOf 3 = 1 := by kernel_rfl
  have hc_1 : Tryz.prog.cellsOf 9 = 1 := by kernel_rfl
  rcases open_slice Tryz.underlying22 h with ⟨hcs, _⟩ | ⟨a, l, c, m, nn, D, Pl, hcs', _, hl, hm, hmm, _, hall⟩
  · simp at hcs
    obtain ⟨rfl, rfl, rfl⟩ := hcs
    exact ⟨[], rfl, Nat.le_refl _, fun h => absurd h (by simp)⟩
  · simp at hcs'
    obtain ⟨rfl, rfl, rfl⟩ := hcs'
    have hlm : len ≤ m := by rw [hmm]; split <;> omega
    have each : ∀ i, i < len → ∃ q : E, w.cell? (a.add (i * 2)) = some (.int .i64 (q.1)) ∧ w.cell? (a.add (i * 2 + 1)) = some (.string (q.2)) := by
      intro i hi
      obtain ⟨cs', h1, h2⟩ := hall i (by omega)
      rw [hce] at h1
      obtain ⟨_, hlen, hcell⟩ := World.cells?_some h1
      obtain ⟨xs, k, hk, hxy, _, hxl, hf⟩ := DataW.trod_struct Tryz.underlying27 h2
      obtain ⟨y0, y1, rfl⟩ := fieldsOf (show xs.length = 2 from hxl)
      obtain ⟨v0, v1, rfl⟩ := many (show cs'.length = 2 from hlen)
      clear hxl hlen h2 hxy
      have g0 := hf 0 _ rfl
      change DataW.trod enc Tryz.prog w base spare held k 3 (List.take (Tryz.prog.cellsOf 3) [v0, v1]) = some y0 at g0
      rw [hc_0] at g0
      have g1 := hf 1 _ rfl
      change DataW.trod enc Tryz.prog w base spare held k 9 (List.take (Tryz.prog.cellsOf 9) [v1]) = some y1 at g1
      rw [hc_1] at g1
      have e0 := hcell 0 (by omega)
      have e1 := hcell 1 (by omega)
      rw [add_add] at e0 e1
      obtain ⟨p0, d0, _, _⟩ := DataW.trod_int Tryz.underlying3 g0
      obtain ⟨p1, d1, _, _⟩ := DataW.trod_string Tryz.underlying9 g1
      simp at d0 d1
      subst d0 d1
      exact ⟨(p0, p1), by simpa using e0, by simpa using e1⟩
    obtain ⟨q, hq⟩ := choose_lt each
    refine ⟨(List.range len).map q, by simp, hl, Row.of_cells (len := len) (by simp) fun i hi => ?_⟩
    have e : at_ ((List.range len).map q) i = q i := by simp [at_, List.getD, hi]
    rw [e]
    exact hq i hi
end
end Go.Proofs.YtdkkblkbonjjgabGreatDoor.Tj
