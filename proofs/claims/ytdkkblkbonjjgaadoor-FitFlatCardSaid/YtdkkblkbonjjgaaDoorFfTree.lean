/- Values and types that come in as trees: what their cells read as, level by level. No condition. -/
import Derived.Test.YtdkkblkbonjjgaaDoorProg
import Derived.WalkKit
import Derived.WalkLawsBesides
import Derived.WalkSpells
import Derived.Handy
import Derived.Outline
import Derived.LoopTactic
import Derived.PlainAid
import Derived.Below
import Derived.OwnWalk
import Derived.Laws.OwnMore
import Derived.Deep.QuietTactic
import Derived.BigQuiet
import Derived.Deep.RegionHeld3
import Derived.Deep.AppendLies
import Derived.Deep.RegionWith
import Derived.Deep.Slices
import Derived.KernelRfl
import Derived.ChangeSame
import Derived.ChangeArms
namespace Go.Proofs.YtdkkblkbonjjgaaDoor.Ff
open Go Go.RowKit Go.PlainAid Go.Deep
theorem hide {p : Prop} (h : p) : Hid p := h
theorem add_plain (b off k : Nat) : (⟨b, off, none⟩ : Addr).add k = ⟨b, off + k, none⟩ := by unfold Addr.add; split <;> simp_all
/-- a slice whose elements, of n cells each, are such -/
def Rows (w : World) (n : Nat) (P : List Value → Prop) (A : Option Addr) (len : Nat) : Prop :=
  0 < len → ∃ g off, A = some ⟨g, off, none⟩ ∧ g < w.heap.size ∧ ∀ i, i < len → ∃ cs : List Value, cs.length = n ∧ (∀ c, c < n → w.cell? ⟨g, off + i * n + c, none⟩ = cs[c]?) ∧ P cs
/-- the cells of a value, so many levels deep -/
def VOk (w : World) : Nat → List Value → Prop
  | 0, cs => ∃ (k i sc : Int) (t : ByteArray) (A B : Option Addr) (la ca lb cb : Nat), cs = [.int .i64 k, .int .i64 i, .int .i64 sc, .string t, .slice A la ca, .slice B lb cb] ∧ t.size ≤ maxLen ∧ la ≤ ca ∧ ca ≤ maxLen ∧ lb ≤ cb ∧ cb ≤ maxLen
  | n + 1, cs => ∃ (k i sc : Int) (t : ByteArray) (A B : Option Addr) (la ca lb cb : Nat), cs = [.int .i64 k, .int .i64 i, .int .i64 sc, .string t, .slice A la ca, .slice B lb cb] ∧ t.size ≤ maxLen ∧ la ≤ ca ∧ ca ≤ maxLen ∧ lb ≤ cb ∧ cb ≤ maxLen ∧
      Rows w 6 (VOk w n) A la ∧ Rows w 7 (fun cs => ∃ nm cs', cs = .string nm :: cs' ∧ nm.size ≤ maxLen ∧ VOk w n cs') B lb
/-- the cells of a type, so many levels deep -/
def TOk (w : World) : Nat → List Value → Prop
  | 0, cs => ∃ (k mn mx sc : Int) (A B C : Option Addr) (la ca lb cb lc cc : Nat), cs = [.int .i64 k, .int .i64 mn, .int .i64 mx, .int .i64 sc, .slice A la ca, .slice B lb cb, .slice C lc cc] ∧ la ≤ ca ∧ ca ≤ maxLen ∧ lb ≤ cb ∧ cb ≤ maxLen ∧ lc ≤ cc ∧ cc ≤ maxLen ∧
      Rows w 1 (fun cs => ∃ s, cs = [.string s] ∧ s.size ≤ maxLen) A la
  | n + 1, cs => ∃ (k mn mx sc : Int) (A B C : Option Addr) (la ca lb cb lc cc : Nat), cs = [.int .i64 k, .int .i64 mn, .int .i64 mx, .int .i64 sc, .slice A la ca, .slice B lb cb, .slice C lc cc] ∧ la ≤ ca ∧ ca ≤ maxLen ∧ lb ≤ cb ∧ cb ≤ maxLen ∧ lc ≤ cc ∧ cc ≤ maxLen ∧
      Rows w 1 (fun cs => ∃ s, cs = [.string s] ∧ s.size ≤ maxLen) A la ∧ Rows w 7 (TOk w n) B lb ∧
      Rows w 11 (fun cs => ∃ (nu ne : Int) (nm : ByteArray) (ts : List Value) (D : Option Addr) (ld cd : Nat), cs = .int .i64 nu :: .string nm :: .int .i64 ne :: (ts ++ [.slice D ld cd]) ∧ nm.size ≤ maxLen ∧ ld ≤ cd ∧ cd ≤ maxLen ∧ TOk w n ts ∧ Rows w 6 (VOk w 2) D ld) C lc
theorem five {α : Type} {l : List α} (h : l.length = 5) : ∃ a b c d e, l = [a, b, c, d, e] := match l, h with | [a, b, c, d, e], _ => ⟨a, b, c, d, e, rfl⟩
theorem six {α : Type} {l : List α} (h : l.length = 6) : ∃ a b c d e f, l = [a, b, c, d, e, f] := match l, h with | [a, b, c, d, e, f], _ => ⟨a, b, c, d, e, f, rfl⟩
theorem seven {α : Type} {l : List α} (h : l.length = 7) : ∃ a b c d e f g, l = [a, b, c, d, e, f, g] := match l, h with | [a, b, c, d, e, f, g], _ => ⟨a, b, c, d, e, f, g, rfl⟩
theorem eleven {α : Type} {l : List α} (h : l.length = 11) : ∃ a b c d e f g i j k m, l = [a, b, c, d, e, f, g, i, j, k, m] := match l, h with | [a, b, c, d, e, f, g, i, j, k, m], _ => ⟨a, b, c, d, e, f, g, i, j, k, m, rfl⟩
theorem two {α : Type} {l : List α} (h : l.length = 2) : ∃ a b, l = [a, b] := match l, h with | [a, b], _ => ⟨a, b, rfl⟩
theorem one {α : Type} {l : List α} (h : l.length = 1) : ∃ a, l = [a] := match l, h with | [a], _ => ⟨a, rfl⟩
section
variable {H : Type} {enc : TypeId × Value → H} {w : World} {base : Nat} {spare : Nat → Bool} {held : Bool}
theorem slice_form {t e : TypeId} {fuel : Nat} {v : Value} {x : DataW H × List MemPlace} (ht : Tryd.prog.underlying t = some (.slice e)) (h : DataW.trod enc Tryd.prog w base spare held fuel t [v] = some x) : ∃ A l c, v = .slice A l c := by
  rcases open_slice ht h with ⟨hcs, _⟩ | ⟨a, l, c, m, nn, D, Pl, hcs', _⟩
  · simp at hcs; exact ⟨_, _, _, hcs⟩
  · simp at hcs'; exact ⟨_, _, _, hcs'⟩
theorem rows_of {t e : TypeId} {n fuel : Nat} {A : Option Addr} {len cap : Nat} {x : DataW H × List MemPlace} (ht : Tryd.prog.underlying t = some (.slice e)) (hc : Tryd.prog.cellsOf e = n) (hn : 0 < n) (Q : List Value → Prop)
    (hQ : ∀ f cs y, DataW.trod enc Tryd.prog w base spare held f e cs = some y → Q cs) (h : DataW.trod enc Tryd.prog w base spare held fuel t [.slice A len cap] = some x) : len ≤ cap ∧ cap ≤ maxLen ∧ Rows w n Q A len := by
  rcases open_slice ht h with ⟨hcs, _⟩ | ⟨a, l, c, m, nn, D, Pl, hcs', _, hl, hm, hmm, _, hall⟩
  · simp at hcs
    obtain ⟨rfl, rfl, rfl⟩ := hcs
    exact ⟨Nat.le_refl _, Nat.zero_le _, fun h => absurd h (by simp)⟩
  · simp at hcs'
    obtain ⟨rfl, rfl, rfl⟩ := hcs'
    have hlm : len ≤ m := by rw [hmm]; split <;> omega
    refine ⟨hl, hm, fun h0 => ?_⟩
    obtain ⟨cs0, h1, _⟩ := hall 0 (by omega)
    rw [hc] at h1
    obtain ⟨_, hlen, hcell⟩ := World.cells?_some h1
    have c0 := hcell 0 hn
    rw [List.getElem?_eq_getElem (by omega : 0 < cs0.length), add_add] at c0
    obtain ⟨b, off, spot⟩ := a
    have hspot : spot = none := by simpa [Addr.add] using World.cell?_spot c0
    subst hspot
    refine ⟨b, off, rfl, ?_, fun i hi => ?_⟩
    · have := World.block_lt_of_cell? w _ c0
      simpa [Addr.add] using this
    · obtain ⟨cs, h1, h2⟩ := hall i (by omega)
      rw [hc] at h1
      obtain ⟨_, hlen, hcell⟩ := World.cells?_some h1
      refine ⟨cs, hlen, fun c hcn => ?_, hQ _ _ _ h2⟩
      have := hcell c hcn
      rw [add_add, add_plain] at this
      rwa [Nat.add_assoc]
theorem words_of {fuel : Nat} {cs : List Value} {y : DataW H × List MemPlace} (h : DataW.trod enc Tryd.prog w base spare held fuel 9 cs = some y) : ∃ s, cs = [.string s] ∧ s.size ≤ maxLen := by
  obtain ⟨s, e, _, hs⟩ := DataW.trod_string Tryd.underlying9 h
  exact ⟨s, e, hs⟩
theorem v_open {fuel : Nat} {cs : List Value} {x : DataW H × List MemPlace} (h : DataW.trod enc Tryd.prog w base spare held fuel 35 cs = some x) :
    ∃ (k i sc : Int) (t : ByteArray) (A B : Option Addr) (la ca lb cb f1 f2 : Nat) (y1 y2 : DataW H × List MemPlace), cs = [.int .i64 k, .int .i64 i, .int .i64 sc, .string t, .slice A la ca, .slice B lb cb] ∧ t.size ≤ maxLen ∧
      DataW.trod enc Tryd.prog w base spare held f1 28 [.slice A la ca] = some y1 ∧ DataW.trod enc Tryd.prog w base spare held f2 33 [.slice B lb cb] = some y2 := by
  have hce : Tryd.prog.cellsOf 35 = 6 := by kernel_rfl
  have hci : Tryd.prog.cellsOf 3 = 1 := by kernel_rfl
  have hcs : Tryd.prog.cellsOf 9 = 1 := by kernel_rfl
  have hcl : Tryd.prog.cellsOf 28 = 1 := by kernel_rfl
  have hcf : Tryd.prog.cellsOf 33 = 1 := by kernel_rfl
  obtain ⟨xs, k, hk, hxy, hlen, hxl, hf⟩ := DataW.trod_struct Tryd.underlying35 h
  obtain ⟨y0, y1, y2, y3, y4, y5, rfl⟩ := six (show xs.length = 6 from hxl)
  rw [hce] at hlen
  obtain ⟨v0, v1, v2, v3, v4, v5, rfl⟩ := six hlen
  clear hxl hlen h hxy
  have g0 := hf 0 _ rfl
  have g1 := hf 1 _ rfl
  have g2 := hf 2 _ rfl
  have g3 := hf 3 _ rfl
  have g4 := hf 4 _ rfl
  have g5 := hf 5 _ rfl
  change DataW.trod enc Tryd.prog w base spare held k 3 (List.take (Tryd.prog.cellsOf 3) [v0, v1, v2, v3, v4, v5]) = some y0 at g0
  change DataW.trod enc Tryd.prog w base spare held k 3 (List.take (Tryd.prog.cellsOf 3) [v1, v2, v3, v4, v5]) = some y1 at g1
  change DataW.trod enc Tryd.prog w base spare held k 3 (List.take (Tryd.prog.cellsOf 3) [v2, v3, v4, v5]) = some y2 at g2
  change DataW.trod enc Tryd.prog w base spare held k 9 (List.take (Tryd.prog.cellsOf 9) [v3, v4, v5]) = some y3 at g3
  change DataW.trod enc Tryd.prog w base spare held k 28 (List.take (Tryd.prog.cellsOf 28) [v4, v5]) = some y4 at g4
  change DataW.trod enc Tryd.prog w base spare held k 33 (List.take (Tryd.prog.cellsOf 33) [v5]) = some y5 at g5
  rw [hci] at g0 g1 g2
  rw [hcs] at g3
  rw [hcl] at g4
  rw [hcf] at g5
  obtain ⟨p0, d0, _, _⟩ := DataW.trod_int Tryd.underlying3 g0
  obtain ⟨p1, d1, _, _⟩ := DataW.trod_int Tryd.underlying3 g1
  obtain ⟨p2, d2, _, _⟩ := DataW.trod_int Tryd.underlying3 g2
  obtain ⟨p3, d3, _, hs⟩ := DataW.trod_string Tryd.underlying9 g3
  obtain ⟨A4, l4, c4, d4⟩ := slice_form Tryd.underlying28 g4
  obtain ⟨A5, l5, c5, d5⟩ := slice_form Tryd.underlying33 g5
  simp at d0 d1 d2 d3
  subst d0 d1 d2 d3 d4 d5
  exact ⟨p0, p1, p2, p3, A4, A5, l4, c4, l5, c5, k, k, y4, y5, rfl, hs, g4, g5⟩
theorem fieldV_open {n : Nat} (ih : ∀ f cs y, DataW.trod enc Tryd.prog w base spare held f 35 cs = some y → VOk w n cs) {fuel : Nat} {cs : List Value} {x : DataW H × List MemPlace} (h : DataW.trod enc Tryd.prog w base spare held fuel 38 cs = some x) : ∃ nm cs', cs = .string nm :: cs' ∧ nm.size ≤ maxLen ∧ VOk w n cs' := by
  have hce : Tryd.prog.cellsOf 38 = 7 := by kernel_rfl
  have hcv : Tryd.prog.cellsOf 35 = 6 := by kernel_rfl
  have hcs : Tryd.prog.cellsOf 9 = 1 := by kernel_rfl
  obtain ⟨xs, k, hk, hxy, hlen, hxl, hf⟩ := DataW.trod_struct Tryd.underlying38 h
  obtain ⟨y0, y1, rfl⟩ := two (show xs.length = 2 from hxl)
  rw [hce] at hlen
  obtain ⟨v0, v1, v2, v3, v4, v5, v6, rfl⟩ := seven hlen
  clear hxl hlen h hxy
  have g0 := hf 0 _ rfl
  have g1 := hf 1 _ rfl
  change DataW.trod enc Tryd.prog w base spare held k 9 (List.take (Tryd.prog.cellsOf 9) [v0, v1, v2, v3, v4, v5, v6]) = some y0 at g0
  change DataW.trod enc Tryd.prog w base spare held k 35 (List.take (Tryd.prog.cellsOf 35) [v1, v2, v3, v4, v5, v6]) = some y1 at g1
  rw [hcs] at g0
  rw [hcv] at g1
  obtain ⟨p0, d0, _, hs⟩ := DataW.trod_string Tryd.underlying9 g0
  simp at d0
  subst d0
  exact ⟨p0, _, rfl, hs, ih _ _ _ g1⟩
theorem vok : ∀ (n fuel : Nat) (cs : List Value) (x : DataW H × List MemPlace), DataW.trod enc Tryd.prog w base spare held fuel 35 cs = some x → VOk w n cs := by
  have hcv : Tryd.prog.cellsOf 35 = 6 := by kernel_rfl
  have hcf : Tryd.prog.cellsOf 38 = 7 := by kernel_rfl
  intro n
  induction n with
  | zero =>
    intro fuel cs x h
    obtain ⟨k, i, sc, t, A, B, la, ca, lb, cb, f1, f2, y1, y2, rfl, ht, g1, g2⟩ := v_open h
    obtain ⟨a1, a2, _⟩ := rows_of Tryd.underlying28 hcv (by omega) (fun _ => True) (fun _ _ _ _ => trivial) g1
    obtain ⟨b1, b2, _⟩ := rows_of Tryd.underlying33 hcf (by omega) (fun _ => True) (fun _ _ _ _ => trivial) g2
    exact ⟨k, i, sc, t, A, B, la, ca, lb, cb, rfl, ht, a1, a2, b1, b2⟩
  | succ n ih =>
    intro fuel cs x h
    obtain ⟨k, i, sc, t, A, B, la, ca, lb, cb, f1, f2, y1, y2, rfl, ht, g1, g2⟩ := v_open h
    obtain ⟨a1, a2, a3⟩ := rows_of Tryd.underlying28 hcv (by omega) (VOk w n) ih g1
    obtain ⟨b1, b2, b3⟩ := rows_of Tryd.underlying33 hcf (by omega) (fun cs => ∃ nm cs', cs = .string nm :: cs' ∧ nm.size ≤ maxLen ∧ VOk w n cs') (fun _ _ _ h => fieldV_open ih h) g2
    exact ⟨k, i, sc, t, A, B, la, ca, lb, cb, rfl, ht, a1, a2, b1, b2, a3, b3⟩
theorem t_open {fuel : Nat} {cs : List Value} {x : DataW H × List MemPlace} (h : DataW.trod enc Tryd.prog w base spare held fuel 26 cs = some x) :
    ∃ (k mn mx sc : Int) (A B C : Option Addr) (la ca lb cb lc cc f1 : Nat) (y1 y2 y3 : DataW H × List MemPlace), cs = [.int .i64 k, .int .i64 mn, .int .i64 mx, .int .i64 sc, .slice A la ca, .slice B lb cb, .slice C lc cc] ∧
      DataW.trod enc Tryd.prog w base spare held f1 22 [.slice A la ca] = some y1 ∧ DataW.trod enc Tryd.prog w base spare held f1 23 [.slice B lb cb] = some y2 ∧ DataW.trod enc Tryd.prog w base spare held f1 24 [.slice C lc cc] = some y3 := by
  have hce : Tryd.prog.cellsOf 26 = 7 := by kernel_rfl
  have hci : Tryd.prog.cellsOf 3 = 1 := by kernel_rfl
  have hcs : Tryd.prog.cellsOf 22 = 1 := by kernel_rfl
  have hcl : Tryd.prog.cellsOf 23 = 1 := by kernel_rfl
  have hcf : Tryd.prog.cellsOf 24 = 1 := by kernel_rfl
  obtain ⟨xs, k, hk, hxy, hlen, hxl, hf⟩ := DataW.trod_struct Tryd.underlying26 h
  obtain ⟨y0, y1, y2, y3, y4, y5, y6, rfl⟩ := seven (show xs.length = 7 from hxl)
  rw [hce] at hlen
  obtain ⟨v0, v1, v2, v3, v4, v5, v6, rfl⟩ := seven hlen
  clear hxl hlen h hxy
  have g0 := hf 0 _ rfl
  have g1 := hf 1 _ rfl
  have g2 := hf 2 _ rfl
  have g3 := hf 3 _ rfl
  have g4 := hf 4 _ rfl
  have g5 := hf 5 _ rfl
  have g6 := hf 6 _ rfl
  change DataW.trod enc Tryd.prog w base spare held k 3 (List.take (Tryd.prog.cellsOf 3) [v0, v1, v2, v3, v4, v5, v6]) = some y0 at g0
  change DataW.trod enc Tryd.prog w base spare held k 3 (List.take (Tryd.prog.cellsOf 3) [v1, v2, v3, v4, v5, v6]) = some y1 at g1
  change DataW.trod enc Tryd.prog w base spare held k 3 (List.take (Tryd.prog.cellsOf 3) [v2, v3, v4, v5, v6]) = some y2 at g2
  change DataW.trod enc Tryd.prog w base spare held k 3 (List.take (Tryd.prog.cellsOf 3) [v3, v4, v5, v6]) = some y3 at g3
  change DataW.trod enc Tryd.prog w base spare held k 22 (List.take (Tryd.prog.cellsOf 22) [v4, v5, v6]) = some y4 at g4
  change DataW.trod enc Tryd.prog w base spare held k 23 (List.take (Tryd.prog.cellsOf 23) [v5, v6]) = some y5 at g5
  change DataW.trod enc Tryd.prog w base spare held k 24 (List.take (Tryd.prog.cellsOf 24) [v6]) = some y6 at g6
  rw [hci] at g0 g1 g2 g3
  rw [hcs] at g4
  rw [hcl] at g5
  rw [hcf] at g6
  obtain ⟨p0, d0, _, _⟩ := DataW.trod_int Tryd.underlying3 g0
  obtain ⟨p1, d1, _, _⟩ := DataW.trod_int Tryd.underlying3 g1
  obtain ⟨p2, d2, _, _⟩ := DataW.trod_int Tryd.underlying3 g2
  obtain ⟨p3, d3, _, _⟩ := DataW.trod_int Tryd.underlying3 g3
  obtain ⟨A4, l4, c4, d4⟩ := slice_form Tryd.underlying22 g4
  obtain ⟨A5, l5, c5, d5⟩ := slice_form Tryd.underlying23 g5
  obtain ⟨A6, l6, c6, d6⟩ := slice_form Tryd.underlying24 g6
  simp at d0 d1 d2 d3
  subst d0 d1 d2 d3 d4 d5 d6
  exact ⟨p0, p1, p2, p3, A4, A5, A6, l4, c4, l5, c5, l6, c6, k, y4, y5, y6, rfl, g4, g5, g6⟩
theorem fieldT_open {n : Nat} (ih : ∀ f cs y, DataW.trod enc Tryd.prog w base spare held f 26 cs = some y → TOk w n cs) {fuel : Nat} {cs : List Value} {x : DataW H × List MemPlace} (h : DataW.trod enc Tryd.prog w base spare held fuel 30 cs = some x) :
    ∃ (nu ne : Int) (nm : ByteArray) (ts : List Value) (D : Option Addr) (ld cd : Nat), cs = .int .i64 nu :: .string nm :: .int .i64 ne :: (ts ++ [.slice D ld cd]) ∧ nm.size ≤ maxLen ∧ ld ≤ cd ∧ cd ≤ maxLen ∧ TOk w n ts ∧ Rows w 6 (VOk w 2) D ld := by
  have hce : Tryd.prog.cellsOf 30 = 11 := by kernel_rfl
  have hct : Tryd.prog.cellsOf 26 = 7 := by kernel_rfl
  have hcv : Tryd.prog.cellsOf 35 = 6 := by kernel_rfl
  have hci : Tryd.prog.cellsOf 3 = 1 := by kernel_rfl
  have hcs : Tryd.prog.cellsOf 9 = 1 := by kernel_rfl
  have hcl : Tryd.prog.cellsOf 28 = 1 := by kernel_rfl
  obtain ⟨xs, k, hk, hxy, hlen, hxl, hf⟩ := DataW.trod_struct Tryd.underlying30 h
  obtain ⟨y0, y1, y2, y3, y4, rfl⟩ := five (show xs.length = 5 from hxl)
  rw [hce] at hlen
  obtain ⟨v0, v1, v2, v3, v4, v5, v6, v7, v8, v9, v10, rfl⟩ := eleven hlen
  clear hxl hlen h hxy
  have g0 := hf 0 _ rfl
  have g1 := hf 1 _ rfl
  have g2 := hf 2 _ rfl
  have g3 := hf 3 _ rfl
  have g4 := hf 4 _ rfl
  change DataW.trod enc Tryd.prog w base spare held k 3 (List.take (Tryd.prog.cellsOf 3) [v0, v1, v2, v3, v4, v5, v6, v7, v8, v9, v10]) = some y0 at g0
  change DataW.trod enc Tryd.prog w base spare held k 9 (List.take (Tryd.prog.cellsOf 9) [v1, v2, v3, v4, v5, v6, v7, v8, v9, v10]) = some y1 at g1
  change DataW.trod enc Tryd.prog w base spare held k 3 (List.take (Tryd.prog.cellsOf 3) [v2, v3, v4, v5, v6, v7, v8, v9, v10]) = some y2 at g2
  change DataW.trod enc Tryd.prog w base spare held k 26 (List.take (Tryd.prog.cellsOf 26) [v3, v4, v5, v6, v7, v8, v9, v10]) = some y3 at g3
  change DataW.trod enc Tryd.prog w base spare held k 28 (List.take (Tryd.prog.cellsOf 28) [v10]) = some y4 at g4
  rw [hci] at g0 g2
  rw [hcs] at g1
  rw [hct] at g3
  rw [hcl] at g4
  obtain ⟨p0, d0, _, _⟩ := DataW.trod_int Tryd.underlying3 g0
  obtain ⟨p1, d1, _, hs⟩ := DataW.trod_string Tryd.underlying9 g1
  obtain ⟨p2, d2, _, _⟩ := DataW.trod_int Tryd.underlying3 g2
  obtain ⟨A4, l4, c4, d4⟩ := slice_form Tryd.underlying28 g4
  simp at d0 d1 d2
  subst d0 d1 d2 d4
  obtain ⟨b1, b2, b3⟩ := rows_of Tryd.underlying28 hcv (by omega) (VOk w 2) (vok 2) g4
  exact ⟨p0, p2, p1, [v3, v4, v5, v6, v7, v8, v9], A4, l4, c4, rfl, hs, b1, b2, ih _ _ _ g3, b3⟩
theorem tok : ∀ (n fuel : Nat) (cs : List Value) (x : DataW H × List MemPlace), DataW.trod enc Tryd.prog w base spare held fuel 26 cs = some x → TOk w n cs := by
  have hcs : Tryd.prog.cellsOf 9 = 1 := by kernel_rfl
  have hct : Tryd.prog.cellsOf 26 = 7 := by kernel_rfl
  have hcf : Tryd.prog.cellsOf 30 = 11 := by kernel_rfl
  intro n
  induction n with
  | zero =>
    intro fuel cs x h
    obtain ⟨k, mn, mx, sc, A, B, C, la, ca, lb, cb, lc, cc, f1, y1, y2, y3, rfl, g1, g2, g3⟩ := t_open h
    obtain ⟨a1, a2, a3⟩ := rows_of Tryd.underlying22 hcs (by omega) _ (fun _ _ _ h => words_of h) g1
    obtain ⟨b1, b2, _⟩ := rows_of Tryd.underlying23 hct (by omega) (fun _ => True) (fun _ _ _ _ => trivial) g2
    obtain ⟨c1, c2, _⟩ := rows_of Tryd.underlying24 hcf (by omega) (fun _ => True) (fun _ _ _ _ => trivial) g3
    exact ⟨k, mn, mx, sc, A, B, C, la, ca, lb, cb, lc, cc, rfl, a1, a2, b1, b2, c1, c2, a3⟩
  | succ n ih =>
    intro fuel cs x h
    obtain ⟨k, mn, mx, sc, A, B, C, la, ca, lb, cb, lc, cc, f1, y1, y2, y3, rfl, g1, g2, g3⟩ := t_open h
    obtain ⟨a1, a2, a3⟩ := rows_of Tryd.underlying22 hcs (by omega) _ (fun _ _ _ h => words_of h) g1
    obtain ⟨b1, b2, b3⟩ := rows_of Tryd.underlying23 hct (by omega) (TOk w n) ih g2
    obtain ⟨c1, c2, c3⟩ := rows_of Tryd.underlying24 hcf (by omega) _ (fun _ _ _ h => fieldT_open ih h) g3
    exact ⟨k, mn, mx, sc, A, B, C, la, ca, lb, cb, lc, cc, rfl, a1, a2, b1, b2, c1, c2, a3, b3, c3⟩
end
end Go.Proofs.YtdkkblkbonjjgaaDoor.Ff
