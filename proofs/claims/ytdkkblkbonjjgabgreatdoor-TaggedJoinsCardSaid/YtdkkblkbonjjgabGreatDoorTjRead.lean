/- The reader: what number, rest and end return where the bytes are right. No condition but the size. -/
import Derived.Test.YtdkkblkbonjjgabGreatDoorTjJoin
import Derived.Test.YtdkkblkbonjjgabGreatDoorTagB2
namespace Go.Proofs.YtdkkblkbonjjgabGreatDoor.Tj
open Go Go.RowKit Go.PlainAid TagN
def Holds (w : World) (g : Nat) (T : TypeId) (cs : Array Value) : Prop := w.heap[g]? = some (.cells cs T (0, 0))
theorem Holds.lt {w : World} {g : Nat} {T : TypeId} {cs : Array Value} (h : Holds w g T cs) : g < w.heap.size := by
  rcases Nat.lt_or_ge g w.heap.size with hlt | hge
  · exact hlt
  · unfold Holds at h; rw [Array.getElem?_eq_none hge] at h; cases h
theorem Holds.cell {w : World} {g : Nat} {T : TypeId} {cs : Array Value} (h : Holds w g T cs) (i : Nat) : w.cell? ⟨g, i, none⟩ = cs[i]? := cell_of_row w g i cs T (0, 0) h
theorem Holds.free {w : World} {g : Nat} {T : TypeId} {cs : Array Value} (h : Holds w g T cs) (i : Nat) : w.frozen? ⟨g, i, none⟩ = false := by
  unfold Holds at h
  simp [World.frozen?, h]
theorem Holds.alloc {w : World} {g : Nat} {T : TypeId} {cs : Array Value} (h : Holds w g T cs) (o : Obj) : Holds (w.alloc o) g T cs := (Below.heap_alloc w o g h.lt).trans h
theorem Holds.grown {w w' : World} {g : Nat} {T : TypeId} {cs : Array Value} {row : Option Nat} (h : Holds w g T cs) (hg : w.grownBy w' row) (hne : some g ≠ row) : Holds w' g T cs := (hg.block g h.lt hne).trans h
theorem Holds.put {w : World} {g : Nat} {T : TypeId} {cs : Array Value} (h : Holds w g T cs) (i : Nat) (u : Value) : Holds (w.setCell ⟨g, i, none⟩ u) g T (cs.setIfInBounds i u) := by
  unfold Holds at h ⊢
  simp [World.setCell, Array.getElem?_modify, h]
theorem Holds.far {w : World} {g : Nat} {T : TypeId} {cs : Array Value} (h : Holds w g T cs) {p : Addr} (hp : g ≠ p.block) (u : Value) : Holds (w.setCell p u) g T cs := (Below.heap_setCell w p u g hp).trans h
theorem put_grown (w : World) (p : Addr) (u : Value) : w.grownBy (w.setCell p u) (some p.block) := ⟨rfl, rfl, rfl, by simp, fun k _ hne => Below.heap_setCell w p u k (fun e => hne (by rw [e]))⟩
theorem drew_grown (w : World) (n : Nat) (row : Option Nat) : w.grownBy (w.drewN n) row := ⟨rfl, rfl, rfl, Nat.le_refl _, fun _ _ _ => rfl⟩
theorem grown_trans {a b c : World} {row : Option Nat} (h : a.grownBy b row) (k : b.grownBy c row) : a.grownBy c row :=
  ⟨k.os.trans h.os, k.tape.trans h.tape, k.output.trans h.output, Nat.le_trans h.size k.size, fun x hx hne => (k.block x (Nat.lt_of_lt_of_le hx h.size) hne).trans (h.block x hx hne)⟩
/-- a reader of s at f -/
abbrev rd (s : ByteArray) (f : Nat) : Array Value := #[.string s, .int .i64 (f : Int), .int .i64 0, .int .i64 0, .map none, .int .i64 0]
abbrev HR (w : World) (r : Nat) (s : ByteArray) (f : Nat) : Prop := Holds w r 54 (rd s f)
theorem rd_of {w : World} {r : Nat} {s : ByteArray} {f : Nat} (h : HR w r s f) : TagB2.Rd w r s f 0 := ⟨h.cell 0, h.cell 1, h.cell 2, ⟨_, h.cell 3⟩, h.free 1, h.free 2, h.free 3⟩
theorem moved {w : World} {r : Nat} {s : ByteArray} {f : Nat} (h : HR w r s f) (m : Nat) (q : Nat) : HR ((w.drewN m).setCell ⟨r, 1, none⟩ (.int .i64 (q : Int))) r s q ∧ w.grownBy ((w.drewN m).setCell ⟨r, 1, none⟩ (.int .i64 (q : Int))) (some r) :=
  ⟨Holds.put (w := w.drewN m) h 1 _, grown_trans (drew_grown w m _) (put_grown _ ⟨r, 1, none⟩ _)⟩
theorem number_ok (r : Nat) (s : ByteArray) (f n : Nat) (w : World) (hs : s.size ≤ 100000) (hn : n < 4611686018427387904) (hh : Has s f (putL n)) (hR : HR w r s f) :
    Calls Tryz.prog 22 #[.pointer (some ⟨r, 0, none⟩)] w fun e w' => e = .returned (.int .i64 (n : Int)) ∧ HR w' r s (f + (putL n).length) ∧ w.grownBy w' (some r) := by
  obtain ⟨hst, ht⟩ := take_put hn hh
  refine (TagB2.number_any r s f _ w hs hst (rd_of hR)).mono ?_
  rintro e w' ⟨he, _, _, h4⟩
  rw [ht] at he h4
  obtain ⟨m, rfl⟩ := h4 rfl
  obtain ⟨a, b⟩ := moved hR m (f + (putL n).length)
  exact ⟨he, a, b⟩
set_option maxHeartbeats 4000000 in
theorem rest_ok (r : Nat) (s : ByteArray) (f : Nat) (w : World) (hf : f ≤ s.size) (hR : HR w r s f) :
    Calls Tryz.prog 16 #[.pointer (some ⟨r, 0, none⟩)] w fun e w' => e = .returned (.string (s.extract f s.size)) ∧ HR w' r s s.size ∧ w.grownBy w' (some r) := by
  have M := hide (fun m => moved hR m s.size)
  have c0 : w.cell? ⟨r, 0, none⟩ = some (.string s) := hR.cell 0
  have c1 : w.cell? ⟨r, 1, none⟩ = some (.int .i64 (f : Int)) := hR.cell 1
  have c2 : w.cell? ⟨r, 2, none⟩ = some (.int .i64 0) := hR.cell 2
  have f1 := hR.free 1
  have hf' : (f : Int) ≤ (s.size : Int) := by omega
  have hf0 : (0 : Int) ≤ (f : Int) := Int.natCast_nonneg _
  clear hR
  go_enter Tryz.func16, Tryz.ntmps16
  go_wp2_with fail
  go_quiet (fail)
  go_wp2_with fail
  go_returns
  exact ⟨by simp, M.out _⟩
set_option maxHeartbeats 4000000 in
theorem end_ok (r : Nat) (s : ByteArray) (w : World) (hR : HR w r s s.size) :
    Calls Tryz.prog 17 #[.pointer (some ⟨r, 0, none⟩)] w fun e w' => e = .returned (.tuple #[]) ∧ HR w' r s s.size ∧ w.grownBy w' (some r) := by
  have M := hide hR
  have c0 : w.cell? ⟨r, 0, none⟩ = some (.string s) := hR.cell 0
  have c1 : w.cell? ⟨r, 1, none⟩ = some (.int .i64 (s.size : Int)) := hR.cell 1
  clear hR
  go_enter Tryz.func17, Tryz.ntmps17
  go_wp2_with fail
  go_quiet (fail)
  go_wp2_with fail
  go_returns
  exact ⟨rfl, M.out, drew_grown w _ _⟩
end Go.Proofs.YtdkkblkbonjjgabGreatDoor.Tj
