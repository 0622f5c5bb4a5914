/- Slices of parts (a kind, an index, a name) that come in, and the copy that own makes. No condition. -/
import Derived.Test.YtllfeoinmjbeaaaDoorProg
import Derived.WalkKit
import Derived.WalkLawsBesides
import Derived.WalkSpells
import Derived.Handy
import Derived.Outline
import Derived.LoopTactic
import Derived.PlainAid
import Derived.Below
import Derived.OwnWalk
import Derived.Laws.OwnMore
import Derived.Deep.QuietTactic
import Derived.BigQuiet
import Derived.Deep.RegionHeld3
import Derived.Deep.AppendLies
import Derived.Deep.RegionWith
import Derived.Deep.Slices
import Derived.KernelRfl
namespace Go.Proofs.YtllfeoinmjbeaaaDoor.Pc
open Go Go.RowKit Go.PlainAid

theorem hide {p : Prop} (h : p) : Hid p := h
abbrev Pt := Int × Int × ByteArray
def atP (l : List Pt) (i : Nat) : Pt := l.getD i (0, 0, ⟨#[]⟩)
theorem add_plain (b off k : Nat) : (⟨b, off, none⟩ : Addr).add k = ⟨b, off + k, none⟩ := by unfold Addr.add; split <;> simp_all
/-- a slice that reads as the parts l, wherever it lies -/
def PtRow (w : World) (A : Option Addr) (l : List Pt) : Prop :=
  0 < l.length → ∃ g off, A = some ⟨g, off, none⟩ ∧ g < w.heap.size ∧ ∀ i, i < l.length → w.cell? ⟨g, off + i * 3, none⟩ = some (.int .i64 (atP l i).1) ∧ w.cell? ⟨g, off + i * 3 + 1, none⟩ = some (.int .i64 (atP l i).2.1) ∧ w.cell? ⟨g, off + i * 3 + 2, none⟩ = some (.string (atP l i).2.2)
theorem PtRow.below {w w' : World} {A : Option Addr} {l : List Pt} (h : PtRow w A l) (hb : Below w.heap.size w w') : PtRow w' A l := fun hl => by
  obtain ⟨g, off, e, hg, hc⟩ := h hl
  exact ⟨g, off, e, Nat.lt_of_lt_of_le hg hb.size, fun i hi => ⟨(hb.cell (p := ⟨g, off + i * 3, none⟩) hg).trans (hc i hi).1, (hb.cell (p := ⟨g, off + i * 3 + 1, none⟩) hg).trans (hc i hi).2.1, (hb.cell (p := ⟨g, off + i * 3 + 2, none⟩) hg).trans (hc i hi).2.2⟩⟩
theorem PtRow.of_cells {w : World} {x : Addr} {len : Nat} {l : List Pt} (hl : l.length = len) (h : ∀ i, i < len → w.cell? (x.add (i * 3)) = some (.int .i64 (atP l i).1) ∧ w.cell? (x.add (i * 3 + 1)) = some (.int .i64 (atP l i).2.1) ∧ w.cell? (x.add (i * 3 + 2)) = some (.string (atP l i).2.2)) : PtRow w (some x) l := fun h0 => by
  subst hl
  obtain ⟨b, off, spot⟩ := x
  have hc0 := (h 0 h0).1
  have hspot : spot = none := by simpa [Addr.add] using World.cell?_spot hc0
  subst hspot
  refine ⟨b, off, rfl, ?_, fun i hi => ?_⟩
  · have := World.block_lt_of_cell? w _ hc0
    simpa [Addr.add] using this
  · have := h i hi
    rw [add_plain, add_plain, add_plain] at this
    exact this
/-- the cells of parts -/
def cellsP (l : List Pt) : List Value := l.flatMap fun p => [.int .i64 p.1, .int .i64 p.2.1, .string p.2.2]
theorem cellsP_len : ∀ l : List Pt, (cellsP l).length = l.length * 3
  | [] => rfl
  | p :: l => by rw [cellsP, List.flatMap_cons, List.length_append, ← cellsP, cellsP_len l, List.length_cons]; simp; omega
theorem cellsP_at : ∀ (l : List Pt) (i : Nat), i < l.length → (cellsP l)[i * 3]? = some (.int .i64 (atP l i).1) ∧ (cellsP l)[i * 3 + 1]? = some (.int .i64 (atP l i).2.1) ∧ (cellsP l)[i * 3 + 2]? = some (.string (atP l i).2.2)
  | p :: l, 0, _ => ⟨rfl, rfl, rfl⟩
  | p :: l, i + 1, h => by
    have := cellsP_at l i (by simpa using h)
    rw [cellsP, List.flatMap_cons, ← cellsP]
    rw [show (i + 1) * 3 = i * 3 + 1 + 1 + 1 by omega, show i * 3 + 1 + 1 + 1 + 1 = (i * 3 + 1) + 1 + 1 + 1 by omega, show i * 3 + 1 + 1 + 1 + 2 = (i * 3 + 2) + 1 + 1 + 1 by omega]
    exact this
theorem cellsP_snoc (l : List Pt) (k : Nat) (h : k < l.length) : cellsP (l.take (k + 1)) = cellsP (l.take k) ++ [.int .i64 (atP l k).1, .int .i64 (atP l k).2.1, .string (atP l k).2.2] := by
  rw [List.take_succ_eq_append_getElem h, cellsP, List.flatMap_append, ← cellsP]
  simp [atP, List.getD, h]
theorem row_of_own {w : World} {B T : Nat} {v : Value} {l : List Pt} (h : w.ownsRow B T 3 v l.length (cellsP l)) : ∃ A cap, v = .slice A l.length cap ∧ PtRow w A l := by
  have h' := h
  rcases h.2 with ⟨rfl, h0⟩ | ⟨g, cap, cur, rfl, _, hg, _⟩
  · exact ⟨none, 0, by rw [h0], fun hl => by omega⟩
  · refine ⟨_, cap, rfl, fun _ => ⟨g, 0, rfl, ?_, fun i hi => ?_⟩⟩
    · rcases Nat.lt_or_ge g w.heap.size with hlt | hge
      · exact hlt
      · rw [Array.getElem?_eq_none hge] at hg; cases hg
    · obtain ⟨c0, c1, c2⟩ := cellsP_at l i hi
      rw [Nat.zero_add]
      exact ⟨(h'.cellAt _ (by omega)).trans c0, (h'.cellAt _ (by omega)).trans c1, (h'.cellAt _ (by omega)).trans c2⟩
theorem partInfo : (Tryd.prog.info? 40).map (fun i => (i.zero, i.size, i.bytes)) = some (some (.agg #[.int .i64 0, .int .i64 0, .string ⟨#[]⟩]), 3, 32) := by kernel_rfl

set_option maxRecDepth 100000 in
set_option maxHeartbeats 4000000 in
theorem own_any (A : Option Addr) (l : List Pt) (cap : Nat) (w : World) (hr : PtRow w A l) (hl : l.length ≤ 20) :
    Calls Tryd.prog 6 #[.slice A l.length cap] w fun e w' => ∃ v, e = .returned v ∧ w'.ownsRow w.heap.size 40 3 v l.length (cellsP l) ∧ Below w.heap.size w w' := by
  have HR := hide hr
  clear hr
  go_enter Tryd.func6, Tryd.ntmps6
  go_wp2_with fail
  go_loopw [3, 4] (fun v x wr => ∃ k : Nat, k ≤ l.length ∧ x = .int .i64 k ∧ wr.ownsRow w.heap.size 40 3 v k (cellsP (l.take k)) ∧ Below w.heap.size w wr) (fun _ x _ => l.length - (intOf x).toNat)
  case atStart => exact ⟨0, Nat.zero_le _, rfl, World.ownsRow_nil w w.heap.size 40 3, Below.refl _ _⟩
  case round =>
    obtain ⟨k, hk, rfl, hown, hb⟩ := hrel
    obtain ⟨i0, hi, hz0, hz1, hz2⟩ := info_parts partInfo
    by_cases hlt : k < l.length
    · obtain ⟨g, off, rfl, hg, hc⟩ := HR.out (by omega)
      obtain ⟨c0, c1, c2⟩ := hc k hlt
      have d0 := (hb.cell (p := ⟨g, off + k * 3, none⟩) hg).trans c0
      have d1 := (hb.cell (p := ⟨g, off + k * 3 + 1, none⟩) hg).trans c1
      have d2 := (hb.cell (p := ⟨g, off + k * 3 + 2, none⟩) hg).trans c2
      have SN := hide (cellsP_snoc l k hlt)
      obtain ⟨a, b, s, hp⟩ : ∃ a b s, atP l k = (a, b, s) := ⟨_, _, _, rfl⟩
      rw [hp] at d0 d1 d2
      simp only at d0 d1 d2
      have hgr : g < wr.heap.size := Nat.lt_of_lt_of_le hg hb.size
      have hne : some g ≠ u3.ownBlock := fun he => by have := (hown.lt g he.symm).1; omega
      have hi0 : (0 : Int) ≤ (k : Int) := Int.natCast_nonneg _
      have hi1 : (k : Int) < (l.length : Int) := by omega
      clear c0 c1 c2 hc
      have hm : k + 1 ≤ maxLen := by unfold maxLen; omega
      have hby : (k + 1) * 32 ≤ 140737488355328 := by omega
      have hbase : w.heap.size ≤ wr.heap.size := hb.size
      go_wp2_with fail
      go_region_held3 (fun w' => w'.cell? ⟨g, off + k * 3, none⟩ = some (.int .i64 a) ∧ w'.cell? ⟨g, off + k * 3 + 1, none⟩ = some (.int .i64 b) ∧ w'.cell? ⟨g, off + k * 3 + 2, none⟩ = some (.string s))
        (first
          | go_keep
          | (go_split_ands
             refine ⟨?_, ?_, ?_⟩
             · (rw [hgrow.cell_far _ (by simp; omega) hne]; assumption)
             · (rw [hgrow.cell_far _ (by simp; omega) hne]; assumption)
             · (rw [hgrow.cell_far _ (by simp; omega) hne]; assumption)))
        ((refine step_append_lies _ (by rfl) _ _ _ (by rfl) w.heap.size 40 i0 _ 3 32 Tryd.underlying25 hi hz0 hz1 hz2 rfl (by omega) u3 k (cellsP (l.take k)) (by rfl) ((hown.alloc _).drew)
            ⟨wr.heap.size, 0, none⟩ 1 1 [.int .i64 a, .int .i64 b, .string s] (by rfl) (by rfl) (World.news_of_block (cs := #[.int .i64 a, .int .i64 b, .string s]) (t := 40) (fr := (0, 0)) (heap_alloc_new wr _)) (by simp [Value.oneCell'])
            (by omega) hm hby (by simp; omega) (wr.heap.size + 1) (by simp) ?_; intro gg cap' w1 hown1 hgrow hat hlt1))
      have hb2 : Below w.heap.size w w1 := ((hb.alloc (by omega) _).drew).grown hgrow (by simp; omega) (fun j hj => (hown.lt j hj).1)
      have Hg := hide hgrow
      clear hgrow hi hz0 hz1 hz2 hat
      go_wp2_with fail
      go_roundw
      case rel =>
        refine ⟨k + 1, by omega, by go_num, ?_, hb2⟩
        rw [SN.out, hp]
        exact hown1
      case measure => simp [intOf]; omega
    · obtain rfl : k = l.length := by omega
      rw [List.take_of_length_le (Nat.le_refl _)] at hown
      go_wp2_with fail
      go_returns
      exact ⟨_, rfl, hown, hb⟩
end Go.Proofs.YtllfeoinmjbeaaaDoor.Pc
