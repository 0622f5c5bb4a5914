/- Slices of numbers that come in, opened. No condition. -/
import Derived.Test.YtcifakhpggoebaaGreatDoorFwRow
import Derived.ChangeSame
import Derived.ChangeArms
namespace Go.Proofs.YtcifakhpggoebaaGreatDoor.Fw
open Go Go.RowKit Go.PlainAid Go.Deep
theorem add_plain (b off k : Nat) : (⟨b, off, none⟩ : Addr).add k = ⟨b, off + k, none⟩ := by unfold Addr.add; split <;> simp_all
theorem one {α : Type} {l : List α} (h : l.length = 1) : ∃ a, l = [a] := match l, h with | [a], _ => ⟨a, rfl⟩
theorem Row.of_cells {w : World} {x : Addr} {len : Nat} {l : List E} (hl : l.length = len) (h : ∀ i, i < len → w.cell? (x.add i) = some (.int .i64 (dg l i))) : Row w (some x) l := fun h0 => by
  subst hl
  obtain ⟨b, off, spot⟩ := x
  have hc0 := h 0 h0
  have hspot : spot = none := by simpa [Addr.add] using World.cell?_spot hc0
  subst hspot
  refine ⟨b, off, rfl, ?_, fun i hi => ?_⟩
  · have := World.block_lt_of_cell? w _ hc0
    simpa [Addr.add] using this
  · have := h i hi
    rw [add_plain] at this
    exact this
section
variable {H : Type} {enc : TypeId × Value → H} {w : World} {base : Nat} {spare : Nat → Bool} {held : Bool}
theorem open_rows {fuel : Nat} {A : Option Addr} {len cap : Nat} {x : DataW H × List MemPlace} (h : DataW.trod enc Tryz.prog w base spare held fuel 22 [.slice A len cap] = some x) :
    ∃ zs : List E, zs.length = len ∧ len ≤ cap ∧ Row w A zs := by
  have hce : Tryz.prog.cellsOf 3 = 1 := by kernel_rfl
  rcases open_slice Tryz.underlying22 h with ⟨hcs, _⟩ | ⟨a, l, c, m, nn, D, Pl, hcs', _, hl, hm, hmm, _, hall⟩
  · simp at hcs
    obtain ⟨rfl, rfl, rfl⟩ := hcs
    exact ⟨[], rfl, Nat.le_refl _, fun h => absurd h (by simp)⟩
  · simp at hcs'
    obtain ⟨rfl, rfl, rfl⟩ := hcs'
    have hlm : len ≤ m := by rw [hmm]; split <;> omega
    have each : ∀ i, i < len → ∃ q : E, w.cell? (a.add i) = some (.int .i64 q) := by
      intro i hi
      obtain ⟨cs', h1, h2⟩ := hall i (by omega)
      rw [hce, Nat.mul_one] at h1
      obtain ⟨_, hlen, hcell⟩ := World.cells?_some h1
      obtain ⟨v0, rfl⟩ := one (show cs'.length = 1 from hlen)
      obtain ⟨p, d, _, _⟩ := DataW.trod_int Tryz.underlying3 h2
      have e0 := hcell 0 (by omega)
      rw [add_add] at e0
      simp at d
      subst d
      exact ⟨p, by simpa using e0⟩
    obtain ⟨q, hq⟩ := choose_lt each
    refine ⟨(List.range len).map q, by simp, hl, Row.of_cells (len := len) (by simp) fun i hi => ?_⟩
    have e : dg ((List.range len).map q) i = q i := by simp [dg, List.getD, hi]
    rw [e]
    exact hq i hi
end
end Go.Proofs.YtcifakhpggoebaaGreatDoor.Fw
