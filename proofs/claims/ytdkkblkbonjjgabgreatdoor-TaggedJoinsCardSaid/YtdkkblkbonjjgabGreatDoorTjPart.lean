/- The fields of a record, read: what part returns where the bytes are right. No condition but the sizes. -/
import Derived.Test.YtdkkblkbonjjgabGreatDoorTjRead
import Derived.Deep.RegionLaw
namespace Go.Proofs.YtdkkblkbonjjgabGreatDoor.Tj
open Go Go.RowKit Go.PlainAid TagN
theorem partInfo : (Tryz.prog.info? 27).map (fun i => (i.zero, i.size, i.bytes)) = some (some (.agg #[.int .i64 0, .string ⟨#[]⟩]), 2, 24) := by kernel_rfl
theorem own_slice {w : World} {B T s : Nat} {v : Value} {n : Nat} {xs : List Value} (h : w.ownsRow B T s v n xs) : ∃ A cap, v = .slice A n cap := by
  rcases h.2 with ⟨rfl, h0⟩ | ⟨g, cap, cur, rfl, _⟩
  · exact ⟨none, 0, by rw [h0]⟩
  · exact ⟨_, cap, rfl⟩
abbrev fn15 (L r : Nat) : Value := .func (.func 15) #[] #[.pointer (some ⟨L, 0, none⟩), .pointer (some ⟨r, 0, none⟩)]
abbrev fn25 (F n : Nat) : Value := .func (.func 25) #[] #[.pointer (some ⟨F, 0, none⟩), .pointer (some ⟨n, 0, none⟩)]
/-- Parts at work: n₀ is the heap's size at its begin; the box of the list, the reader, the box of the function lie behind it; the row of the list behind these. -/
structure St (w W : World) (s : ByteArray) (f k : Nat) (xs : List Value) : Prop where
  b : Below w.heap.size w W
  l : ∃ v, Holds W w.heap.size 22 #[v] ∧ W.ownsRow (w.heap.size + 3) 27 2 v k xs
  r : HR W (w.heap.size + 1) s f
  fn : Holds W (w.heap.size + 2) 57 #[fn15 w.heap.size (w.heap.size + 1)]
theorem St.step {w W X : World} {s s' : ByteArray} {f f' k : Nat} {xs : List Value} (h : St w W s f k xs) (hg : W.grownBy X (some (w.heap.size + 1))) (hr : HR X (w.heap.size + 1) s' f') : St w X s' f' k xs := by
  obtain ⟨v, h1, h2⟩ := h.l
  refine ⟨h.b.grown hg h.b.size (fun q e => by cases e; omega), ⟨v, h1.grown hg (by simp), h2.kept hg ?_⟩, hr, h.fn.grown hg (by simp)⟩
  by_cases e : v.ownBlock = some (w.heap.size + 1)
  · exact absurd (h2.lt _ e).1 (by omega)
  · exact .inr e
theorem St.alloc {w W : World} {s : ByteArray} {f k : Nat} {xs : List Value} (h : St w W s f k xs) (o : Obj) : St w (W.alloc o) s f k xs := by
  obtain ⟨v, h1, h2⟩ := h.l
  exact ⟨h.b.alloc h.b.size _, ⟨v, h1.alloc _, h2.alloc _⟩, h.r.alloc _, h.fn.alloc _⟩
theorem Holds.below {w X : World} {g : Nat} {T : TypeId} {cs : Array Value} (h : Holds w g T cs) (hb : Below w.heap.size w X) : Holds X g T cs := (hb.block g h.lt).trans h
theorem new1 (w : World) (o : Obj) : Below w.heap.size w (w.alloc o) := (Below.refl _ w).alloc (Nat.le_refl _) _
theorem new1d (w : World) (o : Obj) : Below w.heap.size w (w.alloc o).drew := (new1 w o).drew
theorem St.appended {w w1 X0 w2 : World} {s : ByteArray} {f k : Nat} {xs xs2 : List Value} {v v2 : Value} (hb : Below w.heap.size w w1) (hl : Holds w1 w.heap.size 22 #[v]) (ho : w1.ownsRow (w.heap.size + 3) 27 2 v k xs) (hr : HR w1 (w.heap.size + 1) s f)
    (hf : Holds w1 (w.heap.size + 2) 57 #[fn15 w.heap.size (w.heap.size + 1)]) (h0 : Below w1.heap.size w1 X0) (hg : X0.grownBy w2 v.ownBlock) (ho2 : w2.ownsRow (w.heap.size + 3) 27 2 v2 (k + 1) xs2) : St w (w2.setCell ⟨w.heap.size, 0, none⟩ v2) s f (k + 1) xs2 := by
  have ne : ∀ g, g < w.heap.size + 3 → some g ≠ v.ownBlock := fun g hg e => by have := (ho.lt _ e.symm).1; omega
  have ne2 : ¬ v2.ownBlock = some w.heap.size := fun e => by have := (ho2.lt _ e).1; omega
  refine ⟨?_, ⟨v2, ?_, ?_⟩, ?_, ?_⟩
  · refine (Below.grown (hb.trans (h0.mono hb.size)) hg (Nat.le_trans hb.size h0.size) (fun q e => by have := (ho.lt _ e).1; omega)).setCell (Nat.le_refl _) _
  · simpa using Holds.put (((hl.below h0).grown hg (ne _ (by omega)))) 0 v2
  · exact ho2.kept (put_grown _ ⟨w.heap.size, 0, none⟩ _) (.inr ne2)
  · exact Holds.far ((hr.below h0).grown hg (ne _ (by omega))) (by simp) _
  · exact Holds.far ((hf.below h0).grown hg (ne _ (by omega))) (by simp) _
set_option maxRecDepth 100000 in
set_option maxHeartbeats 8000000 in
theorem P1_ok (w W : World) (s : ByteArray) (f k : Nat) (xs : List Value) (x : Int) (hf : f ≤ s.size) (hk : k ≤ 1000) (h : St w W s f k xs) :
    Calls Tryz.prog 15 #[.int .i64 x, .pointer (some ⟨w.heap.size, 0, none⟩), .pointer (some ⟨w.heap.size + 1, 0, none⟩)] W fun e W' => e = .returned (.tuple #[]) ∧ St w W' s s.size (k + 1) (xs ++ [.int .i64 x, .string (s.extract f s.size)]) := by
  have H := hide h
  obtain ⟨v, hl, ho⟩ := h.l
  have HL := hide hl
  have HO := hide ho
  have c0 : W.cell? ⟨w.heap.size, 0, none⟩ = some v := hl.cell 0
  have f0 := hl.free 0
  have hsz : w.heap.size + 3 ≤ W.heap.size := by have := h.fn.lt; omega
  obtain ⟨i0, hi, hz0, hz1, hz2⟩ := info_parts partInfo
  clear h hl ho
  go_enter Tryz.func15, Tryz.ntmps15
  go_wp2_with fail
  go_region_law (first
    | (go_simp; go_at_call 16; (with_reducible refine (rest_ok (w.heap.size + 1) s f _ hf ?_).mono ?_); (exact H.out.r); rintro e w1 ⟨rfl, hr1, hg0⟩; have hg1 : W.grownBy w1 (some (w.heap.size + 1)) := ⟨hg0.os, hg0.tape, hg0.output, hg0.size, hg0.block⟩; have hl1 := HL.out.grown hg1 (by simp); have ho1 := HO.out.kept hg1 (.inr (fun e => by have := (HO.out.lt _ e).1; omega)); have hf1 := H.out.fn.grown hg1 (by simp); have hb1 := H.out.b.grown hg1 H.out.b.size (fun q e => by cases e; omega); have c1 : w1.cell? ⟨w.heap.size, 0, none⟩ = some v := hl1.cell 0; have z1 : w.heap.size < w1.heap.size := hl1.lt; have HF1 := hide hf1; have HB1 := hide hb1; have HO1 := hide ho1; have HL1 := hide hl1; have HR1 := hide hr1; clear hg0 hg1 hl1 ho1 hf1 hb1 hr1)
    | (refine step_append_lies _ (by rfl) _ _ _ (by rfl) (w.heap.size + 3) 27 i0 _ 2 24 Tryz.underlying22 hi hz0 hz1 hz2 rfl (by omega) v k xs (by rfl) (by first | exact HO1.out.alloc _ | exact (HO1.out.alloc _).drew)
        ⟨w1.heap.size, 0, none⟩ 1 1 [.int .i64 x, .string (s.extract f s.size)] (by rfl) (by rfl) (World.news_of_block (cs := #[.int .i64 x, .string (s.extract f s.size)]) (t := 27) (fr := (0, 0)) (heap_alloc_new w1 _)) (by simp [Value.oneCell'])
        (by omega) (by unfold maxLen; omega) (by omega) (by have := HB1.out.size; have := HF1.out.lt; simp; omega) (w1.heap.size + 1) (by simp) ?_; intro gg cap' w2 hown1 hgrow hat hlt1; have S2 := hide (St.appended HB1.out HL1.out HO1.out HR1.out HF1.out (by first | with_reducible exact new1 _ _ | with_reducible exact new1d _ _) hgrow hown1); have hl2 := Holds.grown (Holds.below HL1.out (by first | with_reducible exact new1 _ _ | with_reducible exact new1d _ _)) hgrow (fun e => by have := (HO1.out.lt _ e.symm).1; omega); have c2 : w2.cell? ⟨w.heap.size, 0, none⟩ = some v := hl2.cell 0; have f2 := hl2.free 0; clear hgrow hown1 hat hlt1 hl2))
  all_goals
    go_wp2_with fail
    go_returns
    exact ⟨rfl, S2.out⟩
set_option maxHeartbeats 4000000 in
theorem F1_ok (w W : World) (s : ByteArray) (f k : Nat) (xs : List Value) (x : Int) (N : Nat) (hf : f ≤ s.size) (hk : k ≤ 1000) (h : St w W s f k xs) (hN : Holds W N 3 #[.int .i64 x]) :
    Calls Tryz.prog 25 #[.pointer (some ⟨w.heap.size + 2, 0, none⟩), .pointer (some ⟨N, 0, none⟩)] W fun e W' => e = .returned (.tuple #[]) ∧ St w W' s s.size (k + 1) (xs ++ [.int .i64 x, .string (s.extract f s.size)]) := by
  have H := hide h
  have c0 : W.cell? ⟨w.heap.size + 2, 0, none⟩ = some (fn15 w.heap.size (w.heap.size + 1)) := h.fn.cell 0
  have c1 : W.cell? ⟨N, 0, none⟩ = some (.int .i64 x) := hN.cell 0
  clear h hN
  go_enter Tryz.func25, Tryz.ntmps25
  go_wp2_with fail
  refine (P1_ok w W s f k xs x hf hk H.out).mono ?_
  rintro e w1 ⟨rfl, S1⟩
  go_wp2_with fail
  go_returns
  exact ⟨rfl, S1⟩
set_option maxRecDepth 100000 in
set_option maxHeartbeats 8000000 in
theorem part_ok (w W : World) (s : ByteArray) (f k : Nat) (xs : List Value) (x : Int) (N sz q : Nat) (hs : s.size ≤ 100000) (hk : k ≤ 1000) (h : St w W s f k xs) (hN : Holds W N 3 #[.int .i64 x]) (hN3 : w.heap.size + 3 ≤ N) (hh : Has s f (putL sz)) (hq : f + (putL sz).length = q) (hz : q + sz ≤ s.size) :
    Calls Tryz.prog 24 #[.pointer (some ⟨w.heap.size + 1, 0, none⟩), fn25 (w.heap.size + 2) N] W fun e W' => e = .returned (.tuple #[]) ∧ St w W' s (q + sz) (k + 1) (xs ++ [.int .i64 x, .string (s.extract q (q + sz))]) := by
  have H := hide h
  have HN := hide hN
  have HH := hide hh
  have HQ := hide hq
  clear h hN hh hq
  go_enter Tryz.func24, Tryz.ntmps24
  go_wp2_with fail
  refine (number_ok (w.heap.size + 1) s f sz _ hs (by omega) HH.out H.out.r).mono ?_
  rintro e w1 ⟨rfl, hr1, hg1⟩
  rw [HQ.out] at hr1
  have S1 := hide (H.out.step hg1 hr1)
  have HN1 := hide (HN.out.grown hg1 (by simp; omega))
  have c0 : w1.cell? ⟨w.heap.size + 1, 0, none⟩ = some (.string s) := hr1.cell 0
  have c1 : w1.cell? ⟨w.heap.size + 1, 1, none⟩ = some (.int .i64 (q : Int)) := hr1.cell 1
  have c2 : w1.cell? ⟨w.heap.size + 1, 2, none⟩ = some (.int .i64 0) := hr1.cell 2
  have f0 := hr1.free 0
  have HR1 := hide hr1
  have hgt : ¬ (s.size : Int) - (q : Int) < (sz : Int) := by omega
  have q0 : (0 : Int) ≤ (q : Int) := Int.natCast_nonneg _
  have z0 : (0 : Int) ≤ (sz : Int) := Int.natCast_nonneg _
  have hz' : (q : Int) + (sz : Int) ≤ (s.size : Int) := by omega
  have hs' : (s.size : Int) ≤ 100000 := by omega
  clear hr1 hg1 H HN HH HQ
  go_wp2_with fail
  go_quiet (fail)
  go_wp2_with fail
  obtain ⟨s', hs1⟩ : ∃ s', s.extract 0 (q + sz) = s' := ⟨_, rfl⟩
  have e1 : s'.size = q + sz := by rw [← hs1, ByteArray.size_extract]; omega
  have HE : Hid (s'.extract q s'.size = s.extract q (q + sz)) := hide (by rw [e1, ← hs1, ByteArray.extract_extract]; simp)
  have E1 := hide e1
  rw [hs1]
  have S2 : St w ((w1.drewN nq).setCell ⟨w.heap.size + 1, 0, none⟩ (.string s')) s' q k xs := S1.out.step (grown_trans (drew_grown w1 nq _) (put_grown _ ⟨w.heap.size + 1, 0, none⟩ _)) (by simpa using Holds.put (w := w1.drewN nq) HR1.out 0 (.string s'))
  have HN2 : Holds ((w1.drewN nq).setCell ⟨w.heap.size + 1, 0, none⟩ (.string s')) N 3 #[.int .i64 x] := HN1.out.grown (grown_trans (drew_grown w1 nq (some (w.heap.size + 1))) (put_grown _ ⟨w.heap.size + 1, 0, none⟩ _)) (by simp; omega)
  refine (F1_ok w _ s' q k xs x N (by omega) hk S2 HN2).mono ?_
  rintro e w2 ⟨rfl, S3⟩
  have HS3 := hide S3
  clear S2 HN2 e1 hs1 S3 HN1 HR1 S1 c0 c1 c2 f0
  go_wp2_with fail
  refine (end_ok (w.heap.size + 1) s' _ HS3.out.r).mono ?_
  rintro e w3 ⟨rfl, hr3, hg3⟩
  have HS4 := hide (HS3.out.step hg3 hr3)
  have c0 : w3.cell? ⟨w.heap.size + 1, 0, none⟩ = some (.string s') := hr3.cell 0
  have f0 := hr3.free 0
  have HR3 := hide hr3
  clear hr3 hg3
  go_wp2_with fail
  go_returns
  refine ⟨rfl, ?_⟩
  rw [← HE.out]
  refine HS4.out.step (put_grown _ ⟨w.heap.size + 1, 0, none⟩ _) ?_
  have := Holds.put HR3.out 0 (.string s)
  rw [E1.out] at this
  simpa [HR, rd] using this
end Go.Proofs.YtdkkblkbonjjgabGreatDoor.Tj
