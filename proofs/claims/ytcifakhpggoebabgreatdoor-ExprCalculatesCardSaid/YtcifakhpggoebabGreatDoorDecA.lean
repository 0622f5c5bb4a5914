/- The functions of package decimal on numbers: what each call returns. Condition: the table of the powers of ten holds what the program's text lays. -/
import Derived.Test.YtcifakhpggoebabGreatDoorProg
import Derived.Test.YtcifakhpggoebabGreatDoorShelf
import Derived.Shelf.Spec.BitsCarry
import Derived.Test.YtcifakhpggoebabGreatDoorDecOut
import Derived.Test.YtcifakhpggoebabGreatDoorDecWide
import Derived.WalkKit
import Derived.WalkLawsBesides
import Derived.WalkSpells
import Derived.Handy
import Derived.Outline
import Derived.LoopTactic
import Derived.Deep.QuietTactic
import Derived.BigQuiet
import Derived.PlainAid
namespace Go.Proofs.YtcifakhpggoebabGreatDoor
open Go Go.RowKit Go.PlainAid

theorem ret_bool {a b : Bool} (h : a = b) : Ending.returned (.bool a) = .returned (.bool b) := by rw [h]
theorem ret_int {k : IntKind} {a b : Int} (h : a = b) : Ending.returned (.int k a) = .returned (.int k b) := by rw [h]
theorem hide {p : Prop} (h : p) : Hid p := h
theorem below_step {w a b : World} (h : Below w.heap.size w a) (k : Below a.heap.size a b) : Below w.heap.size w b := h.trans (k.mono h.size)
theorem below_drewN {B : Nat} {a w : World} (h : Below B a w) (n : Nat) : Below B a (w.drewN n) := ⟨h.os, h.tape, h.output, h.size, h.block⟩
theorem drewN_below {w w' : World} {n : Nat} (h : Below w.heap.size (w.drewN n) w') : Below w.heap.size w w' := (below_drewN (Below.refl _ w) n).trans h
theorem below1 (w : World) (o : Obj) : Below w.heap.size w (w.alloc o) := (Below.refl _ _).alloc (Nat.le_refl _) _

theorem bcell {W w1 : World} (hb : Below W.heap.size W w1) : (∀ b o, b < W.heap.size → w1.cell? ⟨b, o, none⟩ = W.cell? ⟨b, o, none⟩) ∧ (∀ b o, b < W.heap.size → w1.frozen? ⟨b, o, none⟩ = W.frozen? ⟨b, o, none⟩) :=
  ⟨fun b o h => hb.cell (p := ⟨b, o, none⟩) h, fun b o h => hb.frozen (p := ⟨b, o, none⟩) h⟩

/-- 'b' is 'a' with new blocks alone -/
theorem below_in {w a b : World} (k : Below a.heap.size a b) (h : Below w.heap.size w a) : Below w.heap.size w b := below_step h k
theorem below2 (w : World) (o p : Obj) : Below w.heap.size w ((w.alloc o).alloc p) := (below1 w o).alloc (by simp) _

theorem bcellB {B : Nat} {W w1 : World} (hb : Below B W w1) : (∀ b o, b < B → w1.cell? ⟨b, o, none⟩ = W.cell? ⟨b, o, none⟩) ∧ (∀ b o, b < B → w1.frozen? ⟨b, o, none⟩ = W.frozen? ⟨b, o, none⟩) :=
  ⟨fun b o h => hb.cell (p := ⟨b, o, none⟩) h, fun b o h => hb.frozen (p := ⟨b, o, none⟩) h⟩
theorem below_past {B : Nat} {a b c : World} (h : Below B a b) (k : Below b.heap.size b c) (hB : B ≤ b.heap.size) : Below B a c := h.trans (k.mono hB)

theorem below_alloc {a w : World} (h : Below a.heap.size a w) (o : Obj) : Below a.heap.size a (w.alloc o) := h.alloc h.size o
theorem below_drew {a w : World} (h : Below a.heap.size a w) : Below a.heap.size a w.drew := ⟨h.os, h.tape, h.output, h.size, h.block⟩
theorem below_drewn {a w : World} (h : Below a.heap.size a w) (n : Nat) : Below a.heap.size a (w.drewN n) := below_drewN h n
theorem one0 (w : World) (a b : Value) (T : TypeId) : (w.alloc (.cells #[a, b] T)).cell? ⟨w.heap.size, 0, none⟩ = some a := by simp [World.cell?_alloc_new]
theorem one1 (w : World) (a b : Value) (T : TypeId) : (w.alloc (.cells #[a, b] T)).cell? ⟨w.heap.size, 1, none⟩ = some b := by simp [World.cell?_alloc_new]
theorem two0 (w : World) (a b : Value) (T : TypeId) (o : Obj) : ((w.alloc (.cells #[a, b] T)).alloc o).cell? ⟨w.heap.size, 0, none⟩ = some a := by
  rw [World.cell?_alloc_lt _ _ _ (by simp)]; exact one0 w a b T
theorem two1 (w : World) (a b : Value) (T : TypeId) (o : Obj) : ((w.alloc (.cells #[a, b] T)).alloc o).cell? ⟨w.heap.size, 1, none⟩ = some b := by
  rw [World.cell?_alloc_lt _ _ _ (by simp)]; exact one1 w a b T
theorem below_set {W X : World} (h : Below W.heap.size W X) {b o : Nat} (hb : W.heap.size ≤ b) (v : Value) : Below W.heap.size W (X.setCell ⟨b, o, none⟩ v) := h.setCell hb v
theorem lt2a (w : World) (o p : Obj) : w.heap.size < ((w.alloc o).alloc p).heap.size := by simp; omega
theorem lt2b (w : World) (o p : Obj) : w.heap.size + 1 < ((w.alloc o).alloc p).heap.size := by simp
/-- two cells of a world, kept -/
theorem keep2 {W X : World} {a0 a1 : Addr} {v0 v1 : Value} (h : Below W.heap.size W X) (h0 : a0.block < W.heap.size) (c0 : W.cell? a0 = some v0) (h1 : a1.block < W.heap.size) (c1 : W.cell? a1 = some v1) :
    X.cell? a0 = some v0 ∧ X.cell? a1 = some v1 ∧ Below W.heap.size W X := ⟨(h.cell h0).trans c0, (h.cell h1).trans c1, h⟩

/-- a slot that points to a new struct of two cells -/
def NewPair (W wx : World) (s a b : Value) : Prop := ∃ g : Nat, s = .pointer (some ⟨g, 0, none⟩) ∧ wx.cell? ⟨g, 0, none⟩ = some a ∧ wx.cell? ⟨g, 1, none⟩ = some b ∧ wx.frozen? ⟨g, 0, none⟩ = false ∧ wx.frozen? ⟨g, 1, none⟩ = false ∧ g < wx.heap.size ∧ W.heap.size ≤ g ∧ Below W.heap.size W wx
theorem NewPair.alloc {W X : World} (h : Below W.heap.size W X) (a b : Value) (T : TypeId) : NewPair W (X.alloc (.cells #[a, b] T)) (.pointer (some ⟨X.heap.size, 0, none⟩)) a b :=
  ⟨X.heap.size, rfl, one0 _ _ _ _, one1 _ _ _ _, by simp [go_sem], by simp [go_sem], by simp, h.size, below_alloc h _⟩
theorem NewPair.set {W X : World} {g : Nat} {u v : Value} (h : Below W.heap.size W X) (hg : W.heap.size ≤ g) (h0 : X.cell? ⟨g, 0, none⟩ = some u) (h1 : X.cell? ⟨g, 1, none⟩ = some v) (f0 : X.frozen? ⟨g, 0, none⟩ = false) (f1 : X.frozen? ⟨g, 1, none⟩ = false) (a b : Value) :
    NewPair W ((X.setCell ⟨g, 0, none⟩ a).setCell ⟨g, 1, none⟩ b) (.pointer (some ⟨g, 0, none⟩)) a b := by
  have hlt := World.block_lt_of_cell? X _ h0
  refine ⟨g, rfl, ?_, ?_, by simpa [go_sem] using f0, by simpa [go_sem] using f1, by simpa using hlt, hg, below_set (below_set h hg _) hg _⟩
  · rw [World.cell?_setCell_other _ _ _ _ (by simp)]
    exact World.cell?_setCell_same _ _ _ h0
  · refine World.cell?_setCell_same (u := v) _ _ _ ?_
    rw [World.cell?_setCell_other _ _ _ _ (by simp)]
    exact h1

def powV : List Value := [.int .u64 1, .int .u64 10, .int .u64 100, .int .u64 1000, .int .u64 10000, .int .u64 100000, .int .u64 1000000, .int .u64 10000000, .int .u64 100000000, .int .u64 1000000000, .int .u64 10000000000, .int .u64 100000000000, .int .u64 1000000000000]
def Pows (w : World) : Prop := ∀ (i : Nat) v, powV[i]? = some v → w.cell? ⟨0, i, none⟩ = some v
theorem Pows.at_ {w : World} (h : Pows w) {i : Nat} {v : Value} (e : powV[i]? = some v) : w.cell? ⟨0, i, none⟩ = some v := h i v e
theorem Pows.lt {w : World} (h : Pows w) : 0 < w.heap.size := World.block_lt_of_cell? w _ (h.at_ (i := 0) rfl)
theorem Pows.below {w w' : World} (h : Pows w) (hb : Below w.heap.size w w') : Pows w' := fun i v e => (hb.cell h.lt).trans (h i v e)
theorem pow_at {k : Nat} (h : k ≤ 12) : powV[k]? = some (.int .u64 ((10 ^ k : Nat) : Int)) := by
  have : k = 0 ∨ k = 1 ∨ k = 2 ∨ k = 3 ∨ k = 4 ∨ k = 5 ∨ k = 6 ∨ k = 7 ∨ k = 8 ∨ k = 9 ∨ k = 10 ∨ k = 11 ∨ k = 12 := by omega
  rcases this with rfl | rfl | rfl | rfl | rfl | rfl | rfl | rfl | rfl | rfl | rfl | rfl | rfl <;> rfl

set_option maxHeartbeats 1000000 in
theorem check_ok (n s : Int) (w : World) (h : okN n s) :
    Calls Tryz.prog 8 #[(.agg #[.int .i64 (n), .int .i64 (s)])] w fun e w' => e = .returned (.int .i64 0) ∧ Below w.heap.size w w' := by
  obtain ⟨h1, h2, h3, h4⟩ := h
  go_enter Tryz.func8, Tryz.ntmps8
  go_wp2
  go_ret
  exact ⟨rfl, below1 _ _⟩
set_option maxHeartbeats 1000000 in
theorem check_no (n s : Int) (w : World) (h : ¬ okN n s) :
    Calls Tryz.prog 8 #[(.agg #[.int .i64 (n), .int .i64 (s)])] w fun e w' => e = .returned (.int .i64 2) ∧ Below w.heap.size w w' := by
  by_cases h1 : -999999999999999 ≤ n
  · by_cases h2 : n ≤ 999999999999999
    · by_cases h3 : 0 ≤ s
      · have h4 : ¬ s ≤ 12 := fun e => h ⟨h1, h2, h3, e⟩
        clear h
        go_enter Tryz.func8, Tryz.ntmps8
        go_wp2
        go_ret
        exact ⟨rfl, below1 _ _⟩
      · clear h
        go_enter Tryz.func8, Tryz.ntmps8
        go_wp2
        go_ret
        exact ⟨rfl, below1 _ _⟩
    · clear h
      go_enter Tryz.func8, Tryz.ntmps8
      go_wp2
      go_ret
      exact ⟨rfl, below1 _ _⟩
  · clear h
    go_enter Tryz.func8, Tryz.ntmps8
    go_wp2
    go_ret
    exact ⟨rfl, below1 _ _⟩
set_option maxHeartbeats 1000000 in
theorem both_ok (a sa b sb : Int) (w : World) (h : Both a sa b sb) :
    Calls Tryz.prog 23 #[(.agg #[.int .i64 (a), .int .i64 (sa)]), (.agg #[.int .i64 (b), .int .i64 (sb)])] w fun e w' => e = .returned (.bool true) ∧ Below w.heap.size w w' := by
  have H := hide h
  clear h
  go_enter Tryz.func23, Tryz.ntmps23
  go_wp2_with fail
  refine (check_ok _ _ _ H.out.1).mono ?_
  rintro e w1 ⟨rfl, hb1⟩
  obtain ⟨hc, hf⟩ := bcell hb1
  go_wp2_with fail
  refine (check_ok _ _ _ H.out.2).mono ?_
  rintro e w2 ⟨rfl, hb2⟩
  go_wp2_with fail
  go_ret
  exact ⟨rfl, below_in (below_step hb1 hb2) (below2 _ _ _)⟩
theorem both_no (a sa b sb : Int) (w : World) (h : ¬ Both a sa b sb) :
    Calls Tryz.prog 23 #[(.agg #[.int .i64 (a), .int .i64 (sa)]), (.agg #[.int .i64 (b), .int .i64 (sb)])] w fun e w' => e = .returned (.bool false) ∧ Below w.heap.size w w' := by
  by_cases h1 : okN a sa
  · have h2 : ¬ okN b sb := fun g => h ⟨h1, g⟩
    have H1 := hide h1
    have H2 := hide h2
    clear h h1 h2
    go_enter Tryz.func23, Tryz.ntmps23
    go_wp2_with fail
    refine (check_ok _ _ _ H1.out).mono ?_
    rintro e w1 ⟨rfl, hb1⟩
    obtain ⟨hc, hf⟩ := bcell hb1
    go_wp2_with fail
    refine (check_no _ _ _ H2.out).mono ?_
    rintro e w2 ⟨rfl, hb2⟩
    go_wp2_with fail
    go_ret
    exact ⟨rfl, below_in (below_step hb1 hb2) (below2 _ _ _)⟩
  · have H1 := hide h1
    clear h h1
    go_enter Tryz.func23, Tryz.ntmps23
    go_wp2_with fail
    refine (check_no _ _ _ H1.out).mono ?_
    rintro e w1 ⟨rfl, hb1⟩
    go_wp2_with fail
    go_ret
    exact ⟨rfl, below_in hb1 (below2 _ _ _)⟩
end Go.Proofs.YtcifakhpggoebabGreatDoor
