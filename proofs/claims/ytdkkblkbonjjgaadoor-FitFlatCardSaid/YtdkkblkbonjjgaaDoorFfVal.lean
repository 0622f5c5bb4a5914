/- What ShortValue returns: some value. No condition. -/
import Derived.Test.YtdkkblkbonjjgaaDoorFfTree
import Derived.Deep.CutBlock
import Derived.Deep.DeepCutAuto
namespace Go.Proofs.YtdkkblkbonjjgaaDoor.Ff
open Go Go.RowKit Go.PlainAid
def Holds (w : World) (g : Nat) (T : TypeId) (cs : Array Value) : Prop := w.heap[g]? = some (.cells cs T (0, 0))
theorem Holds.lt {w : World} {g : Nat} {T : TypeId} {cs : Array Value} (h : Holds w g T cs) : g < w.heap.size := by
  rcases Nat.lt_or_ge g w.heap.size with hlt | hge
  · exact hlt
  · unfold Holds at h; rw [Array.getElem?_eq_none hge] at h; cases h
theorem Holds.cell {w : World} {g : Nat} {T : TypeId} {cs : Array Value} (h : Holds w g T cs) (i : Nat) : w.cell? ⟨g, i, none⟩ = cs[i]? := cell_of_row w g i cs T (0, 0) h
theorem Holds.free {w : World} {g : Nat} {T : TypeId} {cs : Array Value} (h : Holds w g T cs) (i : Nat) : w.frozen? ⟨g, i, none⟩ = false := by
  unfold Holds at h
  simp [World.frozen?, h]
theorem Holds.alloc {w : World} {g : Nat} {T : TypeId} {cs : Array Value} (h : Holds w g T cs) (o : Obj) : Holds (w.alloc o) g T cs := (Below.heap_alloc w o g h.lt).trans h
theorem Holds.grown {w w' : World} {g : Nat} {T : TypeId} {cs : Array Value} {row : Option Nat} (h : Holds w g T cs) (hg : w.grownBy w' row) (hne : some g ≠ row) : Holds w' g T cs := (hg.block g h.lt hne).trans h
theorem Holds.put {w : World} {g : Nat} {T : TypeId} {cs : Array Value} (h : Holds w g T cs) (i : Nat) (u : Value) : Holds (w.setCell ⟨g, i, none⟩ u) g T (cs.setIfInBounds i u) := by
  unfold Holds at h ⊢
  simp [World.setCell, Array.getElem?_modify, h]
theorem Holds.far {w : World} {g : Nat} {T : TypeId} {cs : Array Value} (h : Holds w g T cs) {p : Addr} (hp : g ≠ p.block) (u : Value) : Holds (w.setCell p u) g T cs := (Below.heap_setCell w p u g hp).trans h
theorem Holds.below {w X : World} {g : Nat} {T : TypeId} {cs : Array Value} (h : Holds w g T cs) (hb : Below w.heap.size w X) : Holds X g T cs := (hb.block g h.lt).trans h
theorem grown_of_below {w X : World} (h : Below w.heap.size w X) : w.grownBy X none := ⟨h.os, h.tape, h.output, h.size, fun k hk _ => h.block k hk⟩
theorem own_below {w X : World} {base n : Nat} {e : TypeId} {size : Nat} {v : Value} {xs : List Value} (h : w.ownsRow base e size v n xs) (hb : Below w.heap.size w X) : X.ownsRow base e size v n xs :=
  h.kept (grown_of_below hb) (by cases v.ownBlock <;> simp)
theorem below_step {w a b : World} (h : Below w.heap.size w a) (k : Below a.heap.size a b) : Below w.heap.size w b := h.trans (k.mono h.size)
theorem own_slice {w : World} {B T s : Nat} {v : Value} {n : Nat} {xs : List Value} (h : w.ownsRow B T s v n xs) : ∃ A cap, v = .slice A n cap := by
  rcases h.2 with ⟨rfl, h0⟩ | ⟨g, cap, cur, rfl, _⟩
  · exact ⟨none, 0, by rw [h0]⟩
  · exact ⟨_, cap, rfl⟩
theorem valInfo : (Tryd.prog.info? 35).map (fun i => (i.zero, i.size, i.bytes)) = some (some (.agg #[.int .i64 0, .int .i64 0, .int .i64 0, .string ⟨#[]⟩, .slice none 0 0, .slice none 0 0]), 6, 88) := by kernel_rfl
theorem fldInfo : (Tryd.prog.info? 38).map (fun i => (i.zero, i.size, i.bytes)) = some (some (.agg #[.string ⟨#[]⟩, .int .i64 0, .int .i64 0, .int .i64 0, .string ⟨#[]⟩, .slice none 0 0, .slice none 0 0]), 7, 104) := by kernel_rfl
/-- a value, as a row of its fields -/
structure Val where
  k : Int
  i : Int
  sc : Int
  t : ByteArray
  A : Option Addr
  la : Nat
  ca : Nat
  B : Option Addr
  lb : Nat
  cb : Nat
def Val.list (v : Val) : List Value := [.int .i64 v.k, .int .i64 v.i, .int .i64 v.sc, .string v.t, .slice v.A v.la v.ca, .slice v.B v.lb v.cb]
abbrev Val.arr (v : Val) : Array Value := #[.int .i64 v.k, .int .i64 v.i, .int .i64 v.sc, .string v.t, .slice v.A v.la v.ca, .slice v.B v.lb v.cb]
structure Val.fit (v : Val) : Prop where
  t : v.t.size ≤ maxLen
  a : v.la ≤ v.ca
  a' : v.ca ≤ maxLen
  b : v.lb ≤ v.cb
  b' : v.cb ≤ maxLen
theorem VOk.parts {w : World} {n : Nat} {cs : List Value} (h : VOk w n cs) : ∃ v : Val, cs = v.list ∧ v.fit ∧ (0 < n → Rows w 6 (VOk w (n - 1)) v.A v.la ∧ Rows w 7 (fun cs => ∃ nm cs', cs = .string nm :: cs' ∧ nm.size ≤ maxLen ∧ VOk w (n - 1) cs') v.B v.lb) := by
  cases n with
  | zero =>
    obtain ⟨k, i, sc, t, A, B, la, ca, lb, cb, rfl, h1, h2, h3, h4, h5⟩ := h
    exact ⟨⟨k, i, sc, t, A, la, ca, B, lb, cb⟩, rfl, ⟨h1, h2, h3, h4, h5⟩, fun h => absurd h (by omega)⟩
  | succ n =>
    obtain ⟨k, i, sc, t, A, B, la, ca, lb, cb, rfl, h1, h2, h3, h4, h5, h6, h7⟩ := h
    exact ⟨⟨k, i, sc, t, A, la, ca, B, lb, cb⟩, rfl, ⟨h1, h2, h3, h4, h5⟩, fun _ => ⟨h6, h7⟩⟩
/-- the rounds of a loop that ends at the slice's end, at a bound, and on the lowest level -/
def rounds (n la b : Nat) : Nat := if n = 0 then 0 else min la b
theorem rounds_in {n la b k : Nat} (h : k < rounds n la b) : 0 < n ∧ k < la ∧ k < b := by unfold rounds at h; split at h <;> omega
theorem rounds_out (n la b : Nat) : rounds n la b = la ∨ (rounds n la b < la ∧ rounds n la b = b) ∨ (rounds n la b < la ∧ rounds n la b < b ∧ n = 0) := by unfold rounds; split <;> omega
theorem keepF {n : Nat} {W X : World} {b g o : Nat} {x y0 y1 y2 y3 y4 y5 y6 : Value} (hb : Below n W X) (hg : g < n) (hn : b < n) (c : W.cell? ⟨b, 5, none⟩ = some x) (d0 : W.cell? ⟨g, o, none⟩ = some y0) (d1 : W.cell? ⟨g, o + 1, none⟩ = some y1) (d2 : W.cell? ⟨g, o + 2, none⟩ = some y2) (d3 : W.cell? ⟨g, o + 3, none⟩ = some y3) (d4 : W.cell? ⟨g, o + 4, none⟩ = some y4) (d5 : W.cell? ⟨g, o + 5, none⟩ = some y5) (d6 : W.cell? ⟨g, o + 6, none⟩ = some y6) :
    X.cell? ⟨b, 5, none⟩ = some x ∧ X.cell? ⟨g, o, none⟩ = some y0 ∧ X.cell? ⟨g, o + 1, none⟩ = some y1 ∧ X.cell? ⟨g, o + 2, none⟩ = some y2 ∧ X.cell? ⟨g, o + 3, none⟩ = some y3 ∧ X.cell? ⟨g, o + 4, none⟩ = some y4 ∧ X.cell? ⟨g, o + 5, none⟩ = some y5 ∧ X.cell? ⟨g, o + 6, none⟩ = some y6 :=
  ⟨(hb.cell (p := ⟨b, 5, none⟩) hn).trans c, (hb.cell (p := ⟨g, o, none⟩) hg).trans d0, (hb.cell (p := ⟨g, o + 1, none⟩) hg).trans d1, (hb.cell (p := ⟨g, o + 2, none⟩) hg).trans d2, (hb.cell (p := ⟨g, o + 3, none⟩) hg).trans d3, (hb.cell (p := ⟨g, o + 4, none⟩) hg).trans d4, (hb.cell (p := ⟨g, o + 5, none⟩) hg).trans d5, (hb.cell (p := ⟨g, o + 6, none⟩) hg).trans d6⟩
def SVPost (w : World) (e : Ending) (w' : World) : Prop := ∃ v : Val, e = .returned (.agg v.arr) ∧ Below w.heap.size w w'
/-- the boxes of ShortValue -/
structure Boxes (w wr : World) (v : Val) : Prop where
  v : Holds wr w.heap.size 35 v.arr
  r : Holds wr (w.heap.size + 1) 35 #[.int .i64 0, .int .i64 0, .int .i64 0, .string ⟨#[]⟩, .slice none 0 0, .slice none 0 0]
  b : Below w.heap.size w wr
theorem Boxes.below {w wr X : World} {v : Val} (h : Boxes w wr v) (hb : Below wr.heap.size wr X) : Boxes w X v := ⟨h.v.below hb, h.r.below hb, below_step h.b hb⟩
theorem Boxes.grown {w wr X : World} {v : Val} {o : Obj} {row : Option Nat} (h : Boxes w wr v) (hg : (wr.alloc o).grownBy X row) (hr : ∀ k, row = some k → w.heap.size + 2 ≤ k) : Boxes w X v :=
  ⟨(h.v.alloc o).grown hg (fun e => by have := hr _ e.symm; omega), (h.r.alloc o).grown hg (fun e => by have := hr _ e.symm; omega), (h.b.alloc h.b.size o).grown hg (by have := h.b.size; simp; omega) (fun k e => by have := hr k e; omega)⟩
set_option maxRecDepth 100000 in
set_option maxHeartbeats 8000000 in
theorem sv_step (n : Nat) (W0 : World) (IH : ∀ (m : Nat) (v : Val) (x : Int) (w : World), m < n → VOk W0 m v.list → x = m + 1 → Below W0.heap.size W0 w → Calls Tryd.prog 7 #[.agg v.arr, .int .i64 x] w (SVPost w))
    (v : Val) (x : Int) (w : World) (hv : VOk W0 n v.list) (hx : x = n + 1) (hn : n < 100) (hb : Below W0.heap.size W0 w) : Calls Tryd.prog 7 #[.agg v.arr, .int .i64 x] w (SVPost w) := by
  have HI := hide IH
  have HB := hide hb
  obtain ⟨v', e, ⟨f1, f2, f3, f4, f5⟩, hR⟩ := hv.parts
  obtain rfl : v = v' := by
    cases v; cases v'; simp [Val.list] at e; simp [e]
  have HR := hide hR
  obtain ⟨k, i, sc, t, A, la, ca, B, lb, cb⟩ := v
  clear IH hb hv e hR
  simp only at *
  unfold maxLen at f1 f3 f5
  have HX := hide hx
  clear hx
  have m1 : (if 40 < (t.size : Int) then (40 : Int) else (t.size : Int)) = ((min t.size 40 : Nat) : Int) := by split <;> omega
  obtain ⟨mt, hmt⟩ : ∃ m, min t.size 40 = m := ⟨_, rfl⟩
  rw [hmt] at m1
  have hmt' : (mt : Int) ≤ (t.size : Int) := by omega
  clear hmt
  show Calls Tryd.prog 7 #[.agg #[.int .i64 k, .int .i64 i, .int .i64 sc, .string t, .slice A la ca, .slice B lb cb], .int .i64 x] w (SVPost w)
  go_enter Tryd.func7, Tryd.ntmps7
  go_upto_block 0 with fail
  go_cut [5] (fun s5 wx => ∃ (A' : Option Addr) (n' c' : Nat) (xs : List Value), s5 = .slice A' n' c' ∧ wx.ownsRow (w.heap.size + 2) 35 6 s5 n' xs ∧ Boxes w wx ⟨k, i, sc, t.extract 0 mt, A, la, ca, B, lb, cb⟩)
  case first =>
    go_wp2_with fail
    go_loopw [5, 7] (fun s5 y wr => ∃ (j : Nat) (xs : List Value), j ≤ rounds n la 6 ∧ y = .int .i64 j ∧ wr.ownsRow (w.heap.size + 2) 35 6 s5 j xs ∧ Boxes w wr ⟨k, i, sc, t.extract 0 mt, A, la, ca, B, lb, cb⟩) (fun _ y _ => rounds n la 6 - (intOf y).toNat)
    case atStart =>
      refine ⟨0, [], Nat.zero_le _, rfl, World.ownsRow_nil _ _ _ _, ?_, ?_, ?_⟩
      · exact Holds.alloc (heap_alloc_new w _) _
      · have := heap_alloc_new (w.alloc (Obj.cells #[.int .i64 k, .int .i64 i, .int .i64 sc, .string (t.extract 0 mt), .slice A la ca, .slice B lb cb] 35)) (Obj.cells #[.int .i64 0, .int .i64 0, .int .i64 0, .string ⟨#[]⟩, .slice none 0 0, .slice none 0 0] 35)
        rw [World.size_alloc] at this
        exact this
      · exact ((Below.refl _ _).alloc (Nat.le_refl _) _).alloc (by simp) _
    case round =>
      obtain ⟨j, xs, hj, rfl, hown, hbx⟩ := hrel
      have HBX := hide hbx
      have c4 : wr.cell? ⟨w.heap.size, 4, none⟩ = some (.slice A la ca) := hbx.v.cell 4
      have hx := HX.out
      by_cases hlt : j < rounds n la 6
      · obtain ⟨q1, q2, q3⟩ := rounds_in hlt
        obtain ⟨g, off, rfl, hg, hc⟩ := (HR.out q1).1 (by omega)
        obtain ⟨cs, hcl, hcc, hP⟩ := hc j q2
        obtain ⟨v, rfl, _, _⟩ := hP.parts
        have HP := hide hP
        obtain ⟨k', i', sc', t', A', la', ca', B', lb', cb'⟩ := v
        have BW : Below W0.heap.size W0 wr := HB.out.trans (hbx.b.mono HB.out.size)
        have d0 : wr.cell? ⟨g, off + j * 6, none⟩ = some (.int .i64 k') := (BW.cell (p := ⟨g, off + j * 6, none⟩) hg).trans (hcc 0 (by omega))
        have d1 : wr.cell? ⟨g, off + j * 6 + 1, none⟩ = some (.int .i64 i') := (BW.cell (p := ⟨g, off + j * 6 + 1, none⟩) hg).trans (hcc 1 (by omega))
        have d2 : wr.cell? ⟨g, off + j * 6 + 2, none⟩ = some (.int .i64 sc') := (BW.cell (p := ⟨g, off + j * 6 + 2, none⟩) hg).trans (hcc 2 (by omega))
        have d3 : wr.cell? ⟨g, off + j * 6 + 3, none⟩ = some (.string t') := (BW.cell (p := ⟨g, off + j * 6 + 3, none⟩) hg).trans (hcc 3 (by omega))
        have d4 : wr.cell? ⟨g, off + j * 6 + 4, none⟩ = some (.slice A' la' ca') := (BW.cell (p := ⟨g, off + j * 6 + 4, none⟩) hg).trans (hcc 4 (by omega))
        have d5 : wr.cell? ⟨g, off + j * 6 + 5, none⟩ = some (.slice B' lb' cb') := (BW.cell (p := ⟨g, off + j * 6 + 5, none⟩) hg).trans (hcc 5 (by omega))
        have HBW := hide BW
        have HO := hide hown
        have t1 : (j : Int) < (la : Int) := by omega
        have t2 : (j : Int) < 6 := by omega
        have t3 : 1 < x := by omega
        have t4 : (0 : Int) ≤ (j : Int) := Int.natCast_nonneg _
        have t5 : x ≤ 100 := by omega
        have HQ : Hid (x - 1 = ((n - 1 : Nat) : Int) + 1) := hide (by omega)
        clear hcc hcl hP BW hbx hown hx hc f1 f2 f3 f4 f5
        go_wp2_with fail
        refine (HI.out (n - 1) ⟨k', i', sc', t', A', la', ca', B', lb', cb'⟩ _ _ (by omega) HP.out HQ.out HBW.out).mono ?_
        rintro e w1 ⟨v1, rfl, b1⟩
        have OB := hide (own_below HO.out b1)
        have BX := hide (HBX.out.below b1)
        have hs1 : w.heap.size + 2 ≤ w1.heap.size := by have := BX.out.r.lt; omega
        obtain ⟨i0, hi, hz0, hz1, hz2⟩ := info_parts valInfo
        obtain ⟨k1, i1, sc1, t1', A1, la1, ca1, B1, lb1, cb1⟩ := v1
        clear d0 d1 d2 d3 d4 d5 c4 b1 HBW HBX HO
        go_wp2_with (at_builtin; refine wpList_append_own _ rfl _ _ 28 rfl (w.heap.size + 2) 35 i0 (.agg #[.int .i64 0, .int .i64 0, .int .i64 0, .string ⟨#[]⟩, .slice none 0 0, .slice none 0 0]) 6 88 Tryd.underlying28 hi hz0 hz1 hz2 rfl (by decide) _ _ _ rfl (OB.out.alloc _) ⟨w1.heap.size, 0, none⟩ 1 1 [.int .i64 k1, .int .i64 i1, .int .i64 sc1, .string t1', .slice A1 la1 ca1, .slice B1 lb1 cb1] rfl rfl ?c1 ?c2 ?c3 ?c4 ?c5 ?_)
        case c1 => exact World.news_of_block (cs := #[.int .i64 k1, .int .i64 i1, .int .i64 sc1, .string t1', .slice A1 la1 ca1, .slice B1 lb1 cb1]) (heap_alloc_new w1 _)
        case c2 => simp [Value.oneCell']
        case c3 => unfold maxLen; omega
        case c4 => omega
        case c5 => simp; omega
        intro v' w2 hown' hgrow _
        have BX2 := hide (BX.out.grown hgrow (fun q e => (OB.out.lt q e).1))
        have HO2 := hide hown'
        clear hown' hgrow hi hz0 hz1 hz2
        go_wp2_with fail
        go_roundw
        case rel => exact ⟨j + 1, _, by omega, by go_num, HO2.out, BX2.out⟩
        case measure => simp [intOf]; omega
      · have hj' : j = rounds n la 6 := by omega
        have HO := hide hown
        obtain ⟨A', c', rfl⟩ := own_slice hown
        have t4 : (0 : Int) ≤ (j : Int) := Int.natCast_nonneg _
        have hc := rounds_out n la 6
        rw [← hj'] at hc
        have hc' : ¬ (j : Int) < (la : Int) ∨ ((j : Int) < (la : Int) ∧ ¬ (j : Int) < 6) ∨ ((j : Int) < (la : Int) ∧ (j : Int) < 6 ∧ ¬ 1 < x) := by omega
        clear hc hj hj' hlt hx hown hbx f1 f2 f3 f4 f5
        rcases hc' with h1 | ⟨h1, h2⟩ | ⟨h1, h2, h3⟩
        · go_wp2_with fail
          go_meet
          exact ⟨_, _, _, _, rfl, HO.out, HBX.out⟩
        · go_wp2_with fail
          go_meet
          exact ⟨_, _, _, _, rfl, HO.out, HBX.out⟩
        · go_wp2_with fail
          go_meet
          exact ⟨_, _, _, _, rfl, HO.out, HBX.out⟩
  case rest =>
    obtain ⟨A5, n5, c5', xs5, rfl, ho5, hbx⟩ := hcut
    have HO5 := hide ho5
    have HBX := hide hbx
    clear ho5 hbx f1 f2 f3 f4 f5
    go_upto_block 2 with fail
    go_cut [6] (fun s6 wx => ∃ (A' : Option Addr) (n' c' : Nat), s6 = .slice A' n' c' ∧ Boxes w wx ⟨k, i, sc, t.extract 0 mt, A, la, ca, B, lb, cb⟩)
    case first =>
      go_wp2_with fail
      go_loopw [6, 8] (fun s6 y wr => ∃ (j : Nat) (xs : List Value), j ≤ rounds n lb 6 ∧ y = .int .i64 j ∧ wr.ownsRow (w.heap.size + 2) 38 7 s6 j xs ∧ Boxes w wr ⟨k, i, sc, t.extract 0 mt, A, la, ca, B, lb, cb⟩) (fun _ y _ => rounds n lb 6 - (intOf y).toNat)
      case atStart => exact ⟨0, [], Nat.zero_le _, rfl, World.ownsRow_nil _ _ _ _, HBX.out⟩
      case round =>
        obtain ⟨j, xs, hj, rfl, hown, hbx⟩ := hrel
        have HBX := hide hbx
        have c5 : wr.cell? ⟨w.heap.size, 5, none⟩ = some (.slice B lb cb) := hbx.v.cell 5
        have hx := HX.out
        by_cases hlt : j < rounds n lb 6
        · obtain ⟨q1, q2, q3⟩ := rounds_in hlt
          obtain ⟨g, off, rfl, hg, hc⟩ := (HR.out q1).2 (by omega)
          obtain ⟨cs, hcl, hcc, nm, cs', rfl, hnm, hP⟩ := hc j q2
          obtain ⟨v, rfl, _, _⟩ := hP.parts
          have HP := hide hP
          obtain ⟨k', i', sc', t', A', la', ca', B', lb', cb'⟩ := v
          have BW : Below W0.heap.size W0 wr := HB.out.trans (hbx.b.mono HB.out.size)
          have hgr : g < wr.heap.size := Nat.lt_of_lt_of_le hg BW.size
          have hbr : w.heap.size < wr.heap.size := hbx.v.lt
          have hbr2 : w.heap.size + 2 ≤ wr.heap.size := by have := hbx.r.lt; omega
          have hg2 : g < w.heap.size + 2 := by have := Nat.lt_of_lt_of_le hg HB.out.size; omega
          have hw2 : w.heap.size < w.heap.size + 2 := by omega
          have d0 : wr.cell? ⟨g, off + j * 7, none⟩ = some (.string nm) := (BW.cell (p := ⟨g, off + j * 7, none⟩) hg).trans (hcc 0 (by omega))
          have d1 : wr.cell? ⟨g, off + j * 7 + 1, none⟩ = some (.int .i64 k') := (BW.cell (p := ⟨g, off + j * 7 + 1, none⟩) hg).trans (hcc 1 (by omega))
          have d2 : wr.cell? ⟨g, off + j * 7 + 2, none⟩ = some (.int .i64 i') := (BW.cell (p := ⟨g, off + j * 7 + 2, none⟩) hg).trans (hcc 2 (by omega))
          have d3 : wr.cell? ⟨g, off + j * 7 + 3, none⟩ = some (.int .i64 sc') := (BW.cell (p := ⟨g, off + j * 7 + 3, none⟩) hg).trans (hcc 3 (by omega))
          have d4 : wr.cell? ⟨g, off + j * 7 + 4, none⟩ = some (.string t') := (BW.cell (p := ⟨g, off + j * 7 + 4, none⟩) hg).trans (hcc 4 (by omega))
          have d5 : wr.cell? ⟨g, off + j * 7 + 5, none⟩ = some (.slice A' la' ca') := (BW.cell (p := ⟨g, off + j * 7 + 5, none⟩) hg).trans (hcc 5 (by omega))
          have d6 : wr.cell? ⟨g, off + j * 7 + 6, none⟩ = some (.slice B' lb' cb') := (BW.cell (p := ⟨g, off + j * 7 + 6, none⟩) hg).trans (hcc 6 (by omega))
          have HBW := hide BW
          have HO := hide hown
          have t1 : (j : Int) < (lb : Int) := by omega
          have t2 : (j : Int) < 6 := by omega
          have t3 : 1 < x := by omega
          have t4 : (0 : Int) ≤ (j : Int) := Int.natCast_nonneg _
          have t5 : x ≤ 100 := by omega
          have t6 : IntKind.i64.wrap (x - 1) = x - 1 := IntWalk.i64_in _ (by omega)
          have HQ : Hid (x - 1 = ((n - 1 : Nat) : Int) + 1) := hide (by omega)
          unfold maxLen at hnm
          have m2 : (if 40 < (nm.size : Int) then (40 : Int) else (nm.size : Int)) = ((min nm.size 40 : Nat) : Int) := by split <;> omega
          obtain ⟨mn, hmn⟩ : ∃ m, min nm.size 40 = m := ⟨_, rfl⟩
          rw [hmn] at m2
          have hmn' : (mn : Int) ≤ (nm.size : Int) := by omega
          obtain ⟨i0, hi, hz0, hz1, hz2⟩ := info_parts fldInfo
          clear hmn hcc hcl hP BW hbx hown hx hc
          go_wp2_with fail
          go_region_held3 (fun w' => w'.cell? ⟨w.heap.size, 5, none⟩ = some (.slice (some ⟨g, off, none⟩) lb cb) ∧ w'.cell? ⟨g, off + j * 7, none⟩ = some (.string nm) ∧ w'.cell? ⟨g, off + j * 7 + 1, none⟩ = some (.int .i64 k') ∧ w'.cell? ⟨g, off + j * 7 + 2, none⟩ = some (.int .i64 i') ∧ w'.cell? ⟨g, off + j * 7 + 3, none⟩ = some (.int .i64 sc') ∧ w'.cell? ⟨g, off + j * 7 + 4, none⟩ = some (.string t') ∧ w'.cell? ⟨g, off + j * 7 + 5, none⟩ = some (.slice A' la' ca') ∧ w'.cell? ⟨g, off + j * 7 + 6, none⟩ = some (.slice B' lb' cb'))
            (first
              | go_keep
              | with_reducible exact keepF hb3 hg2 hw2 c5 d0 d1 d2 d3 d4 d5 d6
              | with_reducible exact keepF hb2 hg2 hw2 c5 d0 d1 d2 d3 d4 d5 d6)
            (first
              | (go_at_call 7; (with_reducible refine (HI.out (n - 1) ⟨k', i', sc', t', A', la', ca', B', lb', cb'⟩ _ _ (by omega) HP.out HQ.out ?_).mono ?_); (exact HBW.out.drew); rintro e w1 ⟨⟨k1, i1, sc1, t1', A1, la1, ca1, B1, lb1, cb1⟩, rfl, b1⟩; have hz1' : wr.heap.size ≤ w1.heap.size := b1.size; have b2 : Below wr.heap.size wr w1 := ((Below.refl _ wr).drew).trans b1; have hb2 : Below (w.heap.size + 2) wr w1 := b2.mono hbr2; have OB := hide (own_below HO.out b2); have BX := hide (HBX.out.below b2); clear b1 b2)
              | (refine step_append_lies _ (by rfl) _ _ _ (by rfl) (w.heap.size + 2) 38 i0 _ 7 104 Tryd.underlying33 hi hz0 hz1 hz2 rfl (by omega) u6 j xs (by rfl) (by first | exact OB.out.alloc _ | exact (OB.out.alloc _).drew)
                  ⟨w1.heap.size, 0, none⟩ 1 1 [.string (nm.extract 0 mn), .int .i64 k1, .int .i64 i1, .int .i64 sc1, .string t1', .slice A1 la1 ca1, .slice B1 lb1 cb1] (by rfl) (by rfl) (World.news_of_block (cs := #[.string (nm.extract 0 mn), .int .i64 k1, .int .i64 i1, .int .i64 sc1, .string t1', .slice A1 la1 ca1, .slice B1 lb1 cb1]) (t := 38) (fr := (0, 0)) (heap_alloc_new w1 _)) (by simp [Value.oneCell'])
                  (by omega) (by unfold maxLen; omega) (by omega) (by simp; omega) (w1.heap.size + 1) (by simp) ?_; intro gg cap' w2 hown1 hgrow hat hlt1; have BX2 := hide (BX.out.grown hgrow (fun q e => (OB.out.lt q e).1)); have hb3 : Below (w.heap.size + 2) wr w2 := (hb2.alloc (by omega) _).grown hgrow (by simp; omega) (fun q e => (OB.out.lt q e).1)))
          all_goals
            have HO2 := hide hown1
            clear hown1 hgrow hat hb2 hb3 hi hz0 hz1 hz2
            go_wp2_with fail
            go_roundw
            case rel => exact ⟨j + 1, _, by omega, by go_num, HO2.out, BX2.out⟩
            case measure => simp [intOf]; omega
        · have hj' : j = rounds n lb 6 := by omega
          have HO := hide hown
          obtain ⟨A', c', rfl⟩ := own_slice hown
          have t4 : (0 : Int) ≤ (j : Int) := Int.natCast_nonneg _
          have hc := rounds_out n lb 6
          rw [← hj'] at hc
          have hc' : ¬ (j : Int) < (lb : Int) ∨ ((j : Int) < (lb : Int) ∧ ¬ (j : Int) < 6) ∨ ((j : Int) < (lb : Int) ∧ (j : Int) < 6 ∧ ¬ 1 < x) := by omega
          clear hc hj hj' hlt hx hown hbx
          rcases hc' with h1 | ⟨h1, h2⟩ | ⟨h1, h2, h3⟩
          · go_wp2_with fail
            go_meet
            exact ⟨_, _, _, rfl, HBX.out⟩
          · go_wp2_with fail
            go_meet
            exact ⟨_, _, _, rfl, HBX.out⟩
          · go_wp2_with fail
            go_meet
            exact ⟨_, _, _, rfl, HBX.out⟩
    case rest =>
      obtain ⟨A6, n6, c6, rfl, hbx⟩ := hcut
      obtain ⟨q1, q2, q3⟩ := hbx
      have a0 : wc.cell? ⟨w.heap.size, 0, none⟩ = some (.int .i64 k) := q1.cell 0
      have a1 : wc.cell? ⟨w.heap.size, 1, none⟩ = some (.int .i64 i) := q1.cell 1
      have a2 : wc.cell? ⟨w.heap.size, 2, none⟩ = some (.int .i64 sc) := q1.cell 2
      have a3 : wc.cell? ⟨w.heap.size, 3, none⟩ = some (.string (t.extract 0 mt)) := q1.cell 3
      have a4 : wc.cell? ⟨w.heap.size, 4, none⟩ = some (.slice A la ca) := q1.cell 4
      have a5 : wc.cell? ⟨w.heap.size, 5, none⟩ = some (.slice B lb cb) := q1.cell 5
      have b0 : wc.cell? ⟨w.heap.size + 1, 0, none⟩ = some (.int .i64 0) := q2.cell 0
      have b1 : wc.cell? ⟨w.heap.size + 1, 1, none⟩ = some (.int .i64 0) := q2.cell 1
      have b2 : wc.cell? ⟨w.heap.size + 1, 2, none⟩ = some (.int .i64 0) := q2.cell 2
      have b3 : wc.cell? ⟨w.heap.size + 1, 3, none⟩ = some (.string ⟨#[]⟩) := q2.cell 3
      have b4 : wc.cell? ⟨w.heap.size + 1, 4, none⟩ = some (.slice none 0 0) := q2.cell 4
      have b5 : wc.cell? ⟨w.heap.size + 1, 5, none⟩ = some (.slice none 0 0) := q2.cell 5
      have e4 := q1.free 4
      have e5 := q1.free 5
      have f0 := q2.free 0
      have f1 := q2.free 1
      have f2 := q2.free 2
      have f3 := q2.free 3
      have f4 := q2.free 4
      have f5 := q2.free 5
      have Q3 := hide q3
      clear q1 q2 q3
      go_wp2_with fail
      refine bodyPost_ret (v := .agg #[.int .i64 k, .int .i64 i, .int .i64 sc, .string (t.extract 0 mt), .slice A5 n5 c5', .slice A6 n6 c6]) (by simp [results, Tryd.results7, go_sem, b0, b1, b2, b3, b4, b5]) rfl ⟨⟨k, i, sc, t.extract 0 mt, A5, n5, c5', A6, n6, c6⟩, rfl, ?_⟩
      repeat (first | with_reducible exact Q3.out | with_reducible refine Below.setCell ?_ (by simp) _)
theorem shortValue_any (W0 : World) : ∀ (n : Nat) (v : Val) (x : Int) (w : World), n < 100 → VOk W0 n v.list → x = n + 1 → Below W0.heap.size W0 w → Calls Tryd.prog 7 #[.agg v.arr, .int .i64 x] w (SVPost w) := by
  intro n
  induction n using Nat.strongRecOn with
  | ind n ih =>
    intro v x w hn hv hx hb
    exact sv_step n W0 (fun m v x w hm h1 h2 h3 => ih m hm v x w (by omega) h1 h2 h3) v x w hv hx hn hb
end Go.Proofs.YtdkkblkbonjjgaaDoor.Ff
