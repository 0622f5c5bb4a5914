/- Slices of parts that come in, opened. No condition. -/
import Derived.Test.YtllfeoinmjbeaaaDoorPcRow
import Derived.ChangeSame
import Derived.ChangeArms
namespace Go.Proofs.YtllfeoinmjbeaaaDoor.Pc
open Go Go.RowKit Go.PlainAid Go.Deep

theorem three {α : Type} {l : List α} (h : l.length = 3) : ∃ a b c, l = [a, b, c] := match l, h with | [a, b, c], _ => ⟨a, b, c, rfl⟩
section
variable {H : Type} {enc : TypeId × Value → H} {w : World} {base : Nat} {spare : Nat → Bool} {held : Bool}
theorem open_parts {fuel : Nat} {A : Option Addr} {len cap : Nat} {x : DataW H × List MemPlace} (h : DataW.trod enc Tryd.prog w base spare held fuel 22 [.slice A len cap] = some x) :
    ∃ zs : List Pt, zs.length = len ∧ PtRow w A zs := by
  have hce : Tryd.prog.cellsOf 42 = 3 := by kernel_rfl
  have hci : Tryd.prog.cellsOf 3 = 1 := by kernel_rfl
  have hcst : Tryd.prog.cellsOf 9 = 1 := by kernel_rfl
  rcases open_slice Tryd.underlying22 h with ⟨hcs, _⟩ | ⟨a, l, c, m, n, D, Pl, hcs', _, hl, hm, hmm, _, hall⟩
  · simp at hcs
    obtain ⟨rfl, rfl, rfl⟩ := hcs
    exact ⟨[], rfl, fun h => absurd h (by simp)⟩
  · simp at hcs'
    obtain ⟨rfl, rfl, rfl⟩ := hcs'
    have hlm : len ≤ m := by rw [hmm]; split <;> omega
    have each : ∀ i, i < len → ∃ q : Pt, w.cell? (a.add (i * 3)) = some (.int .i64 q.1) ∧ w.cell? (a.add (i * 3 + 1)) = some (.int .i64 q.2.1) ∧ w.cell? (a.add (i * 3 + 2)) = some (.string q.2.2) := by
      intro i hi
      obtain ⟨cs', h1, h2⟩ := hall i (by omega)
      rw [hce] at h1
      obtain ⟨_, hlen, hcell⟩ := World.cells?_some h1
      obtain ⟨xs, k, hk, hxy, _, hxl, hf⟩ := DataW.trod_struct Tryd.underlying42 h2
      obtain ⟨y0, y1, y2, rfl⟩ := three (show xs.length = 3 from hxl)
      obtain ⟨v0, v1, v2, rfl⟩ := three (show cs'.length = 3 from hlen)
      clear hxl hlen h2 hxy
      · skip
        have g0 := hf 0 _ rfl
        have g1 := hf 1 _ rfl
        have g2 := hf 2 _ rfl
        change DataW.trod enc Tryd.prog w base spare held k 3 (List.take (Tryd.prog.cellsOf 3) [v0, v1, v2]) = some y0 at g0
        change DataW.trod enc Tryd.prog w base spare held k 3 (List.take (Tryd.prog.cellsOf 3) [v1, v2]) = some y1 at g1
        change DataW.trod enc Tryd.prog w base spare held k 9 (List.take (Tryd.prog.cellsOf 9) [v2]) = some y2 at g2
        rw [hci] at g0 g1
        rw [hcst] at g2
        have e0 := hcell 0 (by omega)
        have e1 := hcell 1 (by omega)
        have e2 := hcell 2 (by omega)
        rw [add_add] at e0 e1 e2
        obtain ⟨p, d0, _, _⟩ := DataW.trod_int Tryd.underlying3 g0
        obtain ⟨q, d1, _, _⟩ := DataW.trod_int Tryd.underlying3 g1
        obtain ⟨s, d2, _, _⟩ := DataW.trod_string Tryd.underlying9 g2
        simp at d0 d1 d2
        subst d0 d1 d2
        exact ⟨(p, q, s), by simpa using e0, by simpa using e1, by simpa using e2⟩
    obtain ⟨q, hq⟩ := choose_lt each
    refine ⟨(List.range len).map q, by simp, PtRow.of_cells (len := len) (by simp) fun i hi => ?_⟩
    have e : atP ((List.range len).map q) i = q i := by simp [atP, List.getD, hi]
    rw [e]
    exact hq i hi
end
end Go.Proofs.YtllfeoinmjbeaaaDoor.Pc
