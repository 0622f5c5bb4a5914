/- What Cells returns. No condition. -/
import Derived.Test.YtcifakhpggoebaaGreatDoorFwC
namespace Go.Proofs.YtcifakhpggoebaaGreatDoor.Fw
open Go Go.RowKit Go.PlainAid Go.Shelf
attribute [local go_sem] Oper.semAt_some
theorem cells_any (s : ByteArray) (A : Option Addr) (len c : Nat) (w : World) :
    Calls Tryz.prog 13 #[.string s, .slice A len c] w fun e w' => e = .returned (.func (.func 20) #[] #[.pointer (some ⟨w.heap.size + 1, 0, none⟩), .pointer (some ⟨w.heap.size, 0, none⟩)]) ∧ w' = (w.alloc (.cells #[.string s] 9)).alloc (.cells #[.slice A len c] 22) := by
  go_enter Tryz.func13, Tryz.ntmps13
  go_wp2_with fail
  go_returns
  exact ⟨rfl, rfl⟩
theorem upto_map (s : ByteArray) (l : List Int) (k : Nat) : ((upto s l k).map fun x => Value.string x.2) = texts s l k := by simp [upto, texts, item]
theorem own_base {w : World} {b b' e size n : Nat} {v : Value} {xs : List Value} (h : w.ownsRow b e size v n xs) (hb : b' ≤ b) : w.ownsRow b' e size v n xs := by
  refine ⟨h.1, ?_⟩
  rcases h.2 with hn | ⟨g, cap, cur, rfl, hB, rest⟩
  · exact .inl hn
  · exact .inr ⟨g, cap, cur, rfl, Nat.le_trans hb hB, rest⟩
set_option maxRecDepth 100000 in
set_option maxHeartbeats 4000000 in
theorem Cells_ok (s : ByteArray) (A : Option Addr) (l : List Int) (c : Nat) (w : World) (hr : Row w A l) (hl : l.length ≤ 64) (ho : allOk l) (he : s.size = S l l.length) (hsz : s.size ≤ 1000000) :
    Calls Tryz.prog 6 #[.string s, .slice A l.length c] w (Post s l w) := by
  have HR := hide hr
  have HO := hide ho
  have HC := hide (code_ok hl ho he)
  have HE := hide he
  have hd : decide (allOk l) = true := decide_eq_true ho
  have hlc : lenCode s.size (S l l.length) = 0 := by unfold lenCode; rw [he, if_neg (by omega), if_neg (by omega)]
  have CL := fun w hr => checkLength_any s A l c w hr hl ho
  rw [hlc] at CL
  have CO := fun w hr => contains_any A l c w hr (by omega)
  rw [hd] at CO
  have HCL := hide CL
  have HCO := hide CO
  have h64 : ¬ (64 : Int) < (l.length : Int) := by omega
  clear hr ho he hd hlc CL CO
  refine (callsIn_wide (n := 5)).1 ?_
  refine callsIn_of_wp_marks Tryz.func6 rfl trivial ?_ rfl
  simp only [Tryz.ntmps6, List.size_toArray, List.length_cons, List.length_nil, Nat.reduceAdd, Nat.reduceSub, Array.replicate_succ, Array.replicate_zero, List.push_toArray, List.append_toArray, List.nil_append, List.cons_append]
  gi_wp2
  refine ⟨trivial, ?_⟩
  refine (callsIn_wide.2 (HCO.out _ HR.out)).mono ?_
  rintro e w1 ⟨rfl, b1⟩
  have B1 := hide b1
  clear b1
  gi_wp2
  refine ⟨trivial, ?_⟩
  refine (callsIn_wide.2 (HCL.out _ (HR.out.below B1.out))).mono ?_
  rintro e w2 ⟨⟨y, rfl⟩, b2⟩
  have B2 : Hid (Below w.heap.size w w2) := hide (B1.out.trans (b2.mono B1.out.size))
  clear b2 HCL HCO
  gi_wp2
  refine ⟨trivial, ?_⟩
  refine (callsIn_wide.2 (cells_any s A _ c _)).mono ?_
  rintro e w3 ⟨rfl, rfl⟩
  gi_wp2
  obtain ⟨b, hb⟩ : ∃ b, w2.heap.size = b := ⟨_, rfl⟩
  have BV : Below w.heap.size w (((w2.alloc (Obj.cells #[Value.slice none 0 0] 25)).alloc (Obj.cells #[Value.string s] 9)).alloc (Obj.cells #[Value.slice A l.length c] 22)) :=
    (((B2.out.alloc B2.out.size _).alloc (by have := B2.out.size; simp; omega) _).alloc (by have := B2.out.size; simp; omega) _)
  have bO := ((Boxed.new w2 25 (.slice none 0 0)).alloc (Obj.cells #[Value.string s] 9)).alloc (Obj.cells #[Value.slice A l.length c] 22)
  have bL := (Boxed.new (w2.alloc (Obj.cells #[Value.slice none 0 0] 25)) 9 (.string s)).alloc (Obj.cells #[Value.slice A l.length c] 22)
  have bW := Boxed.new ((w2.alloc (Obj.cells #[Value.slice none 0 0] 25)).alloc (Obj.cells #[Value.string s] 9)) 22 (.slice A l.length c)
  have hsz3 : (((w2.alloc (Obj.cells #[Value.slice none 0 0] 25)).alloc (Obj.cells #[Value.string s] 9)).alloc (Obj.cells #[Value.slice A l.length c] 22)).heap.size = b + 3 := by simp; omega
  rw [World.size_alloc, hb] at bL
  rw [World.size_alloc, World.size_alloc, hb] at bW
  rw [hb] at bO
  have hwb : w.heap.size ≤ b := by rw [← hb]; exact B2.out.size
  rw [hb]
  generalize hV : (((w2.alloc (Obj.cells #[Value.slice none 0 0] 25)).alloc (Obj.cells #[Value.string s] 9)).alloc (Obj.cells #[Value.slice A l.length c] 22)) = V at *
  have HBV := hide BV
  clear hV BV
  refine wpIn_rangeFunc_ownG (F := Fence.wide) (n := 5) rfl (by omega) (gf := 20) (lb := #[.pointer (some ⟨b + 1 + 1, 0, none⟩), .pointer (some ⟨b + 1, 0, none⟩)]) rfl trivial (enters_of Tryz.func20 (by kernel_rfl) rfl)
    (encs := fun x : X => #[Value.int .i64 (x.1 : Int), Value.string x.2]) (Kp := Kp w.heap.size (b + 1)) (S := fun ys => ys = upto s l l.length) (Sp := fun pre => ∃ k, k ≤ l.length ∧ pre = upto s l k) (N := l.length) (w0 := V)
    (fun lp J Jx W hW _ _ hY h0 => cells1_in Fence.wide 4 trivial rfl (by omega) lp (b + 1 + 1) (b + 1) w.heap.size A l c s hl HO.out (by rw [HE.out]; omega) hsz J Jx hY W ((hW.cell (p := ⟨b + 1 + 1, 0, none⟩) (by rw [hsz3]; show b + 1 + 1 < b + 3; omega)).trans bW.cell) ((hW.cell (p := ⟨b + 1, 0, none⟩) (by rw [hsz3]; show b + 1 < b + 3; omega)).trans bL.cell)
      (fun h0 => by
        obtain ⟨g, off, e, hg, hc⟩ := HR.out h0
        exact ⟨g, off, e, hg, fun i hi => ((HBV.out.trans (hW.mono HBV.out.size)).cell (p := ⟨g, off + i, none⟩) hg).trans (hc i hi)⟩) h0)
    Kp.t (fun W q o o' hq h h1 h2 => ⟨belowK_b (w := V) (by rw [hsz3]; omega) W q o o' hq h h1 h2, (belowK_b (n₀ := b + 2) (w := V) (by rw [hsz3]; omega) W q o o' hq h h1 h2).block (b + 1) (by omega)⟩) (Below.refl _ _) (fun _ => rfl)
    (fun pre W => ((∃ v, Boxed W b 25 v ∧ W.ownsRow (b + 3) 9 1 v pre.length (pre.map fun x => Value.string x.2) ∧ True) ∧ Boxed W (b + 1) 9 (.string s)) ∧ Below w.heap.size w W ∧ b + 3 ≤ W.heap.size)
    (fun _ _ _ => False)
    (OwnFrom.and (OwnFrom.and (Own.from (holdsRow_own (b + 3) b 25 9 1 (fun pre : List X => pre.length) (fun pre : List X => pre.map fun x => Value.string x.2) (fun _ _ => True)) _) (Own.from (boxed_own (b + 1) 9 (fun _ => Value.string s)) _)) (OwnFrom.and (ownFrom_below (Nat.le_refl _) (by rw [hsz3]; omega)) (fun _ _ _ _ hs hg _ => Nat.le_trans hs hg.size)))
    (fun _ _ _ _ _ hs _ _ => hs)
    ⟨⟨⟨_, bO, World.ownsRow_nil _ _ _ _, trivial⟩, bL⟩, HBV.out, by rw [hsz3]; exact Nat.le_refl _⟩
    (fun x => { tmps := #[Value.string s, Value.slice A l.length c, undef, undef, Value.slice none 0 0, Value.int IntKind.i64 0,
          Value.int IntKind.i64 y, Value.int IntKind.i64 0, Value.pointer (some { block := b, off := 0 }),
          undef, Value.string x.2, Value.slice A l.length c, Value.int IntKind.i64 l.length, Value.bool false, Value.bool false,
          Value.slice A l.length c, Value.bool false, Value.bool false,
          Value.tuple #[Value.int IntKind.i64 y, Value.int IntKind.i64 0], Value.string s, Value.slice A l.length c,
          Value.tuple #[Value.int IntKind.i64 y, Value.int IntKind.i64 0], Value.int IntKind.i64 y,
          Value.int IntKind.i64 0, Value.int IntKind.i64 0, Value.bool false, undef, Value.string s,
          Value.slice A l.length c,
          Value.func (Fn.func 20) #[]
            #[Value.pointer (some { block := b + 1 + 1, off := 0 }),
              Value.pointer (some { block := b + 1, off := 0 })],
          Value.int .i64 (x.1 : Int), Value.string x.2, undef, undef, undef, undef, undef], defers := [] }) ?assign ?body ?done ?stop
  case assign =>
    intro l x W K hK
    gi_wp2
    exact hK
  case body =>
    rintro lp pre x W ⟨⟨⟨v, hv, hrow, _⟩, hbl⟩, hB, hW3⟩ hlt
    have hW3' : b + 3 ≤ (W.alloc (Obj.cells #[Value.string x.2] 9)).heap.size := by simp; omega
    have hc := hv.cell
    obtain ⟨i0, hi, hz0, hz1, hz2⟩ := info_parts strInfo
    have hbW : b + 1 < W.heap.size := hbl.lt
    gi_wp2_with (gi_at_builtin; refine wpListIn_append_own _ rfl _ _ 25 rfl (b + 3) 9 i0 (.string ⟨#[]⟩) 1 16 Tryz.underlying25 hi hz0 hz1 hz2 rfl (by decide) _ _ _ rfl (hrow.alloc _) ⟨W.heap.size, 0, none⟩ 1 1 [.string x.2] rfl rfl (cell_one_new _ _ _) (by simp [Value.oneCell']) (by unfold maxLen; omega) (by omega) hW3' ?_; intro v' w1 hown' hgrow _; obtain ⟨g', cap', rfl⟩ := ownsRow_succ hown'; obtain ⟨hv1, hv2, hr2, hk2, hb2⟩ := hv.appended (n₀ := w.heap.size) (by decide) (own_base hrow (by omega)) hB.size hwb (own_base hown' (by omega)) hgrow; have hc1 := hv1.cell; have hf1 := hv1.frozen)
    have hne : Value.ownBlock v ≠ some (b + 1) := fun e => by have := (hrow.lt _ e).1; omega
    refine ⟨hk2.from _, ⟨hb2, ?_⟩, ⟨⟨_, hv2, ?_, trivial⟩, ?_⟩, hB.trans hb2, ?_⟩
    · rw [Below.heap_setCell _ _ _ _ (by show b + 1 ≠ b; omega), hgrow.block (b + 1) (by simp; omega) (fun e => hne e.symm)]
      exact Below.heap_alloc _ _ _ hbW
    · have h3 := hown'.kept (grownBy_setCell' w1 b (.slice (some ⟨g', 0, none⟩) (pre.length + 1) cap')) (.inr (hv1.not_row (by decide) hown').symm)
      simpa using h3
    · exact ((hbl.alloc _).kept hgrow (fun e => hne e.symm)).other (by omega) _
    · have := hb2.size
      omega
  case done =>
    rintro D ys W hD rfl ⟨⟨⟨v, hv, hrow, _⟩, hbl⟩, hB, hW3⟩ hK
    have hc := hv.cell
    gi_wp2
    refine ⟨by simp, .inl ⟨_, _, rfl, run_takeDeferred hK, ?_⟩⟩
    refine ⟨.tuple #[v, .int .i64 0], ?_, v, 0, rfl, HC.out.symm, fun h => absurd rfl h, fun _ => ?_, hB.trans (belowK_b (w := V) (by rw [hsz3]; omega) W D _ _ hD hK rfl rfl)⟩
    · simp [results, Tryz.results6, go_sem]
    · rw [upto_length, upto_map] at hrow
      exact own_base (ownsRow_putObj hrow _ hK rfl) (by omega)
  case stop =>
    rintro D c pre W _ _ h _
    exact h.elim
end Go.Proofs.YtcifakhpggoebaaGreatDoor.Fw
