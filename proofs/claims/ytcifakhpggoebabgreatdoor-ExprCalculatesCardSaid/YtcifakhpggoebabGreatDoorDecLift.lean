/- Cells carried through calls. No condition. -/
import Derived.Test.YtcifakhpggoebabGreatDoorDecC
namespace Go.Proofs.YtcifakhpggoebabGreatDoor
open Go Go.RowKit Go.PlainAid

theorem lift0 {X Y : World} {p : Addr} {v : Value} (hb : Below X.heap.size X Y) (h : X.cell? p = some v) : Y.cell? p = some v := (hb.cell (World.block_lt_of_cell? X p h)).trans h
theorem lift1 {X Y : World} {o : Obj} {p : Addr} {v : Value} (hb : Below (X.alloc o).heap.size (X.alloc o) Y) (h : X.cell? p = some v) : Y.cell? p = some v :=
  lift0 hb ((World.cell?_alloc_lt _ _ _ (World.block_lt_of_cell? X p h)).trans h)
theorem new0 {X Y : World} {a b : Value} {T : TypeId} (hb : Below (X.alloc (.cells #[a, b] T)).heap.size (X.alloc (.cells #[a, b] T)) Y) : Y.cell? ⟨X.heap.size, 0, none⟩ = some a := lift0 hb (one0 _ _ _ _)
theorem new1 {X Y : World} {a b : Value} {T : TypeId} (hb : Below (X.alloc (.cells #[a, b] T)).heap.size (X.alloc (.cells #[a, b] T)) Y) : Y.cell? ⟨X.heap.size, 1, none⟩ = some b := lift0 hb (one1 _ _ _ _)
theorem below_new {w X Y : World} {o : Obj} (h : Below w.heap.size w X) (hb : Below (X.alloc o).heap.size (X.alloc o) Y) : Below w.heap.size w Y := below_step (below_alloc h o) hb

end Go.Proofs.YtcifakhpggoebabGreatDoor
