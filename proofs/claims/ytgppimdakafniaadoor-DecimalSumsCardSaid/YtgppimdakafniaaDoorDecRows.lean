/- Slices of numbers and of bytes that come in: what is known of their cells. No condition. -/
import Derived.Test.YtgppimdakafniaaDoorDecT
import Derived.Deep.SlicePairs
import Derived.ChangeSlices
namespace Go.Proofs.YtgppimdakafniaaDoor
open Go Go.RowKit Go.PlainAid

/-- a slice that reads as the numbers l, wherever it lies -/
def NumRow (w : World) (A : Option Addr) (l : List (Int × Int)) : Prop :=
  0 < l.length → ∃ g off, A = some ⟨g, off, none⟩ ∧ g < w.heap.size ∧ ∀ i, i < l.length → w.cell? ⟨g, off + i * 2, none⟩ = some (.int .i64 (l.getD i (0, 0)).1) ∧ w.cell? ⟨g, off + i * 2 + 1, none⟩ = some (.int .i64 (l.getD i (0, 0)).2)
theorem NumRow.below {w w' : World} {A : Option Addr} {l : List (Int × Int)} (h : NumRow w A l) (hb : Below w.heap.size w w') : NumRow w' A l := fun hl => by
  obtain ⟨g, off, e, hg, hc⟩ := h hl
  exact ⟨g, off, e, Nat.lt_of_lt_of_le hg hb.size, fun i hi => ⟨(hb.cell (p := ⟨g, off + i * 2, none⟩) hg).trans (hc i hi).1, (hb.cell (p := ⟨g, off + i * 2 + 1, none⟩) hg).trans (hc i hi).2⟩⟩
/-- a slice of bytes that reads as the numbers l -/
def ByteRow (w : World) (A : Option Addr) (l : List Int) : Prop :=
  0 < l.length → ∃ g off, A = some ⟨g, off, none⟩ ∧ g < w.heap.size ∧ ∀ i, i < l.length → w.cell? ⟨g, off + i, none⟩ = some (.int .u8 (dg l i))
theorem ByteRow.below {w w' : World} {A : Option Addr} {l : List Int} (h : ByteRow w A l) (hb : Below w.heap.size w w') : ByteRow w' A l := fun hl => by
  obtain ⟨g, off, e, hg, hc⟩ := h hl
  exact ⟨g, off, e, Nat.lt_of_lt_of_le hg hb.size, fun i hi => (hb.cell (p := ⟨g, off + i, none⟩) hg).trans (hc i hi)⟩
theorem add_plain (b off k : Nat) : (⟨b, off, none⟩ : Addr).add k = ⟨b, off + k, none⟩ := by unfold Addr.add; split <;> simp_all
theorem NumRow.of_cells {w : World} {x : Addr} {len : Nat} {l : List (Int × Int)} (hl : l.length = len) (h : ∀ i, i < len → w.cell? (x.add (i * 2)) = some (.int .i64 (l.getD i (0, 0)).1) ∧ w.cell? (x.add (i * 2 + 1)) = some (.int .i64 (l.getD i (0, 0)).2)) : NumRow w (some x) l := fun h0 => by
  subst hl
  obtain ⟨b, off, spot⟩ := x
  have hc0 := (h 0 h0).1
  have hspot : spot = none := by simpa [Addr.add] using World.cell?_spot hc0
  subst hspot
  refine ⟨b, off, rfl, ?_, fun i hi => ?_⟩
  · have := World.block_lt_of_cell? w _ hc0
    simpa [Addr.add] using this
  · have := h i hi
    rw [add_plain, add_plain] at this
    exact this
theorem ByteRow.of_cells {w : World} {x : Addr} {len : Nat} {l : List Int} (hl : l.length = len) (h : ∀ i, i < len → w.cell? (x.add i) = some (.int .u8 (dg l i))) : ByteRow w (some x) l := fun h0 => by
  subst hl
  obtain ⟨b, off, spot⟩ := x
  have hc0 := h 0 h0
  have hspot : spot = none := by simpa [Addr.add] using World.cell?_spot hc0
  subst hspot
  refine ⟨b, off, rfl, ?_, fun i hi => ?_⟩
  · have := World.block_lt_of_cell? w _ hc0
    simpa [Addr.add] using this
  · have := h i hi
    rw [add_plain] at this
    exact this
end Go.Proofs.YtgppimdakafniaaDoor
