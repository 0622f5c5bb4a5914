/- The reference's Of: an integer times a power of ten, as digits. Condition: bounds. -/
import Derived.Test.YtgppimdakafniaaDoorDecR
import Derived.Maps.AppendAt
namespace Go.Proofs.YtgppimdakafniaaDoor
open Go Go.RowKit Go.PlainAid

/-- a block whose cells are known -/
def Holds (w : World) (g : Nat) (T : TypeId) (cs : Array Value) : Prop := w.heap[g]? = some (.cells cs T (0, 0))
theorem Holds.lt {w : World} {g : Nat} {T : TypeId} {cs : Array Value} (h : Holds w g T cs) : g < w.heap.size := by
  rcases Nat.lt_or_ge g w.heap.size with hlt | hge
  · exact hlt
  · unfold Holds at h; rw [Array.getElem?_eq_none hge] at h; cases h
theorem Holds.cell {w : World} {g : Nat} {T : TypeId} {cs : Array Value} (h : Holds w g T cs) (i : Nat) : w.cell? ⟨g, i, none⟩ = cs[i]? := cell_of_row w g i cs T (0, 0) h
theorem Holds.free {w : World} {g : Nat} {T : TypeId} {cs : Array Value} (h : Holds w g T cs) (i : Nat) : w.frozen? ⟨g, i, none⟩ = false := by
  unfold Holds at h
  simp [World.frozen?, h]
theorem Holds.alloc {w : World} {g : Nat} {T : TypeId} {cs : Array Value} (h : Holds w g T cs) (o : Obj) : Holds (w.alloc o) g T cs := (Below.heap_alloc w o g h.lt).trans h
theorem Holds.grown {w w' : World} {g : Nat} {T : TypeId} {cs : Array Value} {row : Option Nat} (h : Holds w g T cs) (hg : w.grownBy w' row) (hne : some g ≠ row) : Holds w' g T cs := (hg.block g h.lt hne).trans h
theorem Holds.put {w : World} {g : Nat} {T : TypeId} {cs : Array Value} (h : Holds w g T cs) (i : Nat) (u : Value) : Holds (w.setCell ⟨g, i, none⟩ u) g T (cs.setIfInBounds i u) := by
  unfold Holds at h ⊢
  simp [World.setCell, Array.getElem?_modify, h]
theorem Holds.far {w : World} {g : Nat} {T : TypeId} {cs : Array Value} (h : Holds w g T cs) {p : Addr} (hp : g ≠ p.block) (u : Value) : Holds (w.setCell p u) g T cs := (Below.heap_setCell w p u g hp).trans h
theorem put_grown (w : World) (p : Addr) (u : Value) : w.grownBy (w.setCell p u) (some p.block) :=
  ⟨rfl, rfl, rfl, by simp [World.setCell], fun i _ hne => Below.heap_setCell w p u i (fun e => hne (by rw [e]))⟩

/-- Of's two structs and its digits, at the head of a loop -/
def Making (w wr : World) (s : Int) (v : Value) (l : List Int) : Prop :=
  Holds wr w.heap.size 42 #[.int .i64 0, .slice none 0 0] ∧ Holds wr (w.heap.size + 1) 42 #[.int .i64 s, v] ∧
    wr.ownsRow (w.heap.size + 2) 3 1 v l.length (l.map (Value.int .i64)) ∧ Below w.heap.size w wr
theorem Making.own_ne {w wr : World} {s : Int} {v : Value} {l : List Int} (h : Making w wr s v l) {g : Nat} (hg : g < w.heap.size + 2) : some g ≠ v.ownBlock := fun e => by
  have := (h.2.2.1.lt g e.symm).1; omega
theorem Making.size {w wr : World} {s : Int} {v : Value} {l : List Int} (h : Making w wr s v l) : w.heap.size + 2 ≤ wr.heap.size := h.2.1.lt
theorem making_start (w : World) (s : Int) : Making w ((w.alloc (.cells #[.int .i64 0, .slice none 0 0] 42)).alloc (.cells #[.int .i64 s, .slice none 0 0] 42)) s (.slice none 0 0) [] := by
  refine ⟨?_, ?_, World.ownsRow_nil _ _ _ _, below2 _ _ _⟩
  · exact Holds.alloc (show Holds _ _ _ _ from heap_alloc_new w _) _
  · have := heap_alloc_new (w.alloc (.cells #[.int .i64 0, .slice none 0 0] 42)) (.cells #[.int .i64 s, .slice none 0 0] 42)
    unfold Holds
    simpa using this
/-- behind an append, ahead of the store -/
theorem Making.behind {w wr w1 : World} {s : Int} {v : Value} {l : List Int} (h : Making w wr s v l) {o : Obj} (hg : (wr.alloc o).grownBy w1 v.ownBlock) :
    Holds w1 w.heap.size 42 #[.int .i64 0, .slice none 0 0] ∧ Holds w1 (w.heap.size + 1) 42 #[.int .i64 s, v] ∧ Below w.heap.size w w1 :=
  ⟨(h.1.alloc o).grown hg (h.own_ne (by omega)), (h.2.1.alloc o).grown hg (h.own_ne (by omega)),
    (h.2.2.2.alloc h.2.2.2.size o).grown hg (by have := h.2.2.2.size; simp; omega) fun k hk => by have := (h.2.2.1.lt k hk).1; omega⟩
theorem Making.more {w wr w1 : World} {s : Int} {v v' : Value} {l : List Int} (h : Making w wr s v l) {o : Obj} (hg : (wr.alloc o).grownBy w1 v.ownBlock) {d : Int}
    (hown : w1.ownsRow (w.heap.size + 2) 3 1 v' (l.length + 1) (l.map (Value.int .i64) ++ [.int .i64 d])) :
    Making w (w1.setCell ⟨w.heap.size + 1, 1, none⟩ v') s v' (l ++ [d]) := by
  obtain ⟨h1, h2, h3⟩ := h.behind hg
  refine ⟨h1.far (by simp) _, by simpa using h2.put 1 v', ?_, h3.setCell (by simp) _⟩
  have hk := hown.kept (put_grown w1 ⟨w.heap.size + 1, 1, none⟩ v') (.inr fun e => by have := (hown.lt _ e).1; simp at this)
  simpa using hk

/-- a call returns the integer z as sign and digits -/
def NumIs (z : Int) (w : World) (e : Ending) (w' : World) : Prop :=
  ∃ (A : Option Addr) (c : Nat), e = .returned (.agg #[.int .i64 (sgn z), .slice A (digs z.natAbs).length c]) ∧ (digs z.natAbs).length ≤ c ∧ c ≤ maxLen ∧ Row w' A (digs z.natAbs) ∧ (∀ x, A = some x → w.heap.size ≤ x.block) ∧ Below w.heap.size w w'

theorem own_form {w : World} {base n : Nat} {e : TypeId} {size : Nat} {v : Value} {xs : List Value} (h : w.ownsRow base e size v n xs) : ∃ A c, v = .slice A n c := by
  rcases h.2 with ⟨rfl, rfl⟩ | ⟨g, cap, cur, rfl, _⟩
  · exact ⟨_, _, rfl⟩
  · exact ⟨_, _, rfl⟩
theorem of_end (m zeros k : Nat) (hk : k ≤ (List.replicate zeros (0 : Int) ++ digs m).length) (hz : ∀ i, k ≤ i → i < (List.replicate zeros (0 : Int) ++ digs m).length → dg (List.replicate zeros (0 : Int) ++ digs m) i = 0) (hl : k = 0 ∨ dg (List.replicate zeros (0 : Int) ++ digs m) (k - 1) ≠ 0) :
    (List.replicate zeros (0 : Int) ++ digs m).take k = digs (m * 10 ^ zeros) ∧ ∀ s : Int, (s = 1 ∨ s = -1) → (if k = 0 then 0 else s) = sgn (s * ((m * 10 ^ zeros : Nat) : Int)) := by
  have hv : V (dg (List.replicate zeros (0 : Int) ++ digs m)) (List.replicate zeros (0 : Int) ++ digs m).length = ((m * 10 ^ zeros : Nat) : Int) := by
    rw [V_append, List.length_replicate, V_zeros, digs_V, Int.zero_add, Int.mul_comm]
    push_cast; rfl
  have hr : ∀ d ∈ List.replicate zeros (0 : Int) ++ digs m, 0 ≤ d ∧ d ≤ 9 := fun d hd => by
    rcases List.mem_append.1 hd with hd | hd
    · rw [(List.mem_replicate.1 hd).2]; decide
    · exact digs_range m d hd
  have ht := digs_trim hr hk hz hl
  rw [hv, Int.toNat_natCast] at ht
  refine ⟨ht, fun s hs => ?_⟩
  have hlen := congrArg List.length ht
  rw [List.length_take] at hlen
  by_cases h0 : k = 0
  · subst h0
    have : digs (m * 10 ^ zeros) = [] := List.eq_nil_of_length_eq_zero (by rw [← hlen]; simp)
    have h1 : m * 10 ^ zeros = 0 := by
      rcases Nat.eq_zero_or_pos (m * 10 ^ zeros) with h | h
      · exact h
      · rw [digs_ne (by omega)] at this; cases this
    rw [h1, if_pos rfl]
    simp [sgn]
  · rw [if_neg h0]
    have h1 : 0 < m * 10 ^ zeros := by
      rcases Nat.eq_zero_or_pos (m * 10 ^ zeros) with h | h
      · rw [h, digs_zero, List.length_nil] at hlen
        omega
      · exact h
    have h2 : (0 : Int) < ((m * 10 ^ zeros : Nat) : Int) := by exact_mod_cast h1
    generalize ((m * 10 ^ zeros : Nat) : Int) = z at *
    rcases hs with rfl | rfl
    · rw [Int.one_mul, sgn_pos h2]
    · rw [Int.neg_mul, Int.one_mul, sgn_of_neg (by omega)]

/-- what Of comes to -/
def OfPost (s : Int) (m zeros : Nat) (w : World) (e : Ending) (w' : World) : Prop :=
  ∃ (A : Option Addr) (c : Nat), e = .returned (.agg #[.int .i64 (sgn (s * ((m * 10 ^ zeros : Nat) : Int))), .slice A (digs (m * 10 ^ zeros)).length c]) ∧ (digs (m * 10 ^ zeros)).length ≤ c ∧ c ≤ maxLen ∧ Row w' A (digs (m * 10 ^ zeros)) ∧ (∀ x, A = some x → w.heap.size ≤ x.block) ∧ Below w.heap.size w w'

set_option maxHeartbeats 8000000 in
theorem of_pos (m zeros : Nat) (w : World) (hm :  (m : Int) ≤ 999999999999999) (hz : zeros ≤ 1000) :
    Calls Tryd.prog 34 #[.int .i64 (m : Int), .int .i64 zeros] w (OfPost 1 m zeros w) := by
  go_enter Tryd.func34, Tryd.ntmps34
  have HM' : Hid ((m : Int) ≤ 999999999999999) := by unfold Hid; omega
  have HM := hide hm
  have HZ := hide hz
  clear hm hz
  go_wp2_with fail
  go_loopw [6] (fun i wr => ∃ (k : Nat) (v : Value), k ≤ zeros ∧ i = .int .i64 k ∧ Making w wr 1 v (List.replicate k 0)) (fun i _ => zeros - (intOf i).toNat)
  case atStart => exact ⟨0, _, Nat.zero_le _, rfl, making_start w 1⟩
  case round =>
    obtain ⟨k, v, hk, rfl, hM⟩ := hrel
    have c1 : wr.cell? ⟨w.heap.size + 1, 1, none⟩ = some v := (hM.2.1.cell 1).trans rfl
    have hsz := hM.size
    have hown := hM.2.2.1
    rw [List.length_replicate] at hown
    have hz' := HZ.out
    have hk' : k ≤ 1000 := by omega
    clear hz'
    by_cases hlt : k < zeros
    · obtain ⟨i0, hi, hz0, hz1, hz2⟩ := info_parts (show (Tryd.prog.info? 3).map (fun i => (i.zero, i.size, i.bytes)) = some (some (.int .i64 0), 1, 8) by kernel_rfl)
      go_wp2_with (at_builtin; refine wpList_append_own _ rfl _ _ 40 rfl (w.heap.size + 2) 3 i0 (.int .i64 0) 1 8 Tryd.underlying40 hi hz0 hz1 hz2 rfl (by decide) _ _ _ rfl (hown.alloc _) ⟨wr.heap.size, 0, none⟩ 1 1 [.int .i64 0] rfl rfl ?c1 ?c2 ?c3 ?c4 ?c5 ?_)
      case c1 => exact cell_one_new wr _ _
      case c2 => intro u hu; simp at hu; subst hu; rfl
      case c3 => unfold maxLen; omega
      case c4 => omega
      case c5 => simp; omega
      intro v' w1 hown' hgrow _
      obtain ⟨b1, b2, b3⟩ := hM.behind hgrow
      have d1 : w1.cell? ⟨w.heap.size + 1, 1, none⟩ = some v := (b2.cell 1).trans rfl
      have f1 := b2.free 1
      obtain ⟨A', c', rfl⟩ := own_form hown'
      have M := hide (hM.more hgrow (d := 0) (by rw [List.length_replicate, List.map_replicate]; exact hown'))
      clear hown' hgrow b1 b2 b3 hi hz0 hz1 hz2
      go_wp2_with fail
      go_roundw
      case rel => exact ⟨k + 1, _, by omega, by go_num, by rw [List.replicate_succ']; exact M.out⟩
      case measure => simp [intOf]; omega
    · obtain rfl : zeros = k := by omega
      clear hlt hown c1
      go_wp2_with fail
      have hsz := hM.size
      go_loopw [0] (fun n wr => ∃ (q : Nat) (v : Value) (l : List Int), n = .int .i64 q ∧ (q : Int) ≤ 999999999999999 ∧ Making w wr 1 v l ∧ Hid (l ++ digs q = List.replicate zeros 0 ++ digs m)) (fun n _ => (intOf n).toNat)
      case atStart => exact ⟨m, v, List.replicate zeros 0, rfl, HM'.out, hM, rfl⟩
      case round =>
        clear hM hsz
        obtain ⟨q, v, l, rfl, hq, hM, ht⟩ := hrel
        have c1 : wr.cell? ⟨w.heap.size + 1, 1, none⟩ = some v := (hM.2.1.cell 1).trans rfl
        have hsz := hM.size
        have hown := hM.2.2.1
        have hlen : l.length ≤ 1100 := by
          have h1 := congrArg List.length ht.out
          simp only [List.length_append, List.length_replicate] at h1
          have h2 := digs_len (n := m) (k := 15) (by have := HM'.out; have e : (10 : Nat) ^ 15 = 1000000000000000 := by decide
                                                     omega)
          have h3 := HZ.out
          omega
        by_cases h0 : 0 < q
        · obtain ⟨i0, hi, hz0, hz1, hz2⟩ := info_parts (show (Tryd.prog.info? 3).map (fun i => (i.zero, i.size, i.bytes)) = some (some (.int .i64 0), 1, 8) by kernel_rfl)
          go_wp2_with (at_builtin; refine wpList_append_own _ rfl _ _ 40 rfl (w.heap.size + 2) 3 i0 (.int .i64 0) 1 8 Tryd.underlying40 hi hz0 hz1 hz2 rfl (by decide) _ _ _ rfl (hown.alloc _) ⟨wr.heap.size, 0, none⟩ 1 1 [.int .i64 ((q : Int) % 10)] rfl rfl ?c10 ?c20 ?c30 ?c40 ?c50 ?_)
          case c10 => exact cell_one_new wr _ _
          case c20 => intro u hu; simp at hu; subst hu; rfl
          case c30 => unfold maxLen; omega
          case c40 => omega
          case c50 => simp; omega
          intro v' w1 hown' hgrow _
          obtain ⟨b1, b2, b3⟩ := hM.behind hgrow
          have d1 : w1.cell? ⟨w.heap.size + 1, 1, none⟩ = some v := (b2.cell 1).trans rfl
          have f1 := b2.free 1
          obtain ⟨A', c', rfl⟩ := own_form hown'
          have M := hide (hM.more hgrow (d := (q : Int) % 10) hown')
          clear hown' hgrow b1 b2 b3 hi hz0 hz1 hz2
          go_wp2_with fail
          go_roundw
          case rel => exact ⟨q / 10, _, l ++ [((q % 10 : Nat) : Int)], by simp, by omega, by have := M.out; simpa using this, by have := ht.out; rw [digs_ne (by omega)] at this; unfold Hid; rw [← this]; simp⟩
          case measure => simp [intOf]; omega
        · obtain rfl : q = 0 := by omega
          have ht' : l = List.replicate zeros 0 ++ digs m := by have := ht.out; rwa [digs_zero, List.append_nil] at this
          have HT := hide ht'
          clear ht ht' h0 hq
          obtain ⟨A, c, hv, hlc, hcm, hrow⟩ := Row.of_own hown
          have k0 : wr.cell? ⟨w.heap.size + 1, 0, none⟩ = some (.int .i64 1) := (hM.2.1.cell 0).trans rfl
          have hM1 := hM.1
          have hMB := hM.2.2.2
          have hAB : ∀ x, A = some x → w.heap.size + 2 ≤ x.block := fun x hx => (hown.lt x.block (by rw [hv, hx]; rfl)).1
          clear hM hown
          rw [hv] at c1
          clear hv
          go_wp2_with fail
          refine (trim_any _ A c l _ hrow hlc hcm).mono ?_
          rintro e w2 ⟨k, hk, hz, hl, rfl, hb2⟩
          have HF := hide (of_end m zeros k (HT.out ▸ hk) (fun i a b => HT.out ▸ hz i a (by rw [HT.out]; exact b)) (by rw [HT.out] at hl; exact hl))
          have hl2 : wr.heap.size ≤ w2.heap.size := hb2.size
          have l0 : w.heap.size < wr.heap.size := by omega
          have r0 : w2.cell? ⟨w.heap.size, 0, none⟩ = some (.int .i64 0) := (hb2.cell (p := ⟨w.heap.size, 0, none⟩) l0).trans ((hM1.cell 0).trans rfl)
          have r1 : w2.cell? ⟨w.heap.size, 1, none⟩ = some (.slice none 0 0) := (hb2.cell (p := ⟨w.heap.size, 1, none⟩) l0).trans ((hM1.cell 1).trans rfl)
          have f0 : w2.frozen? ⟨w.heap.size, 0, none⟩ = false := (hb2.frozen (p := ⟨w.heap.size, 0, none⟩) l0).trans (hM1.free 0)
          have f1 : w2.frozen? ⟨w.heap.size, 1, none⟩ = false := (hb2.frozen (p := ⟨w.heap.size, 1, none⟩) l0).trans (hM1.free 1)
          have RW := hide ((hrow.below hb2).take k)
          have HK := hide hk
          generalize hsg : (if k = 0 then (0 : Int) else 1) = sg at *
          have SG := hide hsg
          clear hz hl hsg hk hrow
          go_wp2_with fail
          refine bodyPost_ret (v := .agg #[.int .i64 sg, .slice A k c]) (by simp [results, Tryd.results34, go_sem, r0, r1]) rfl ?_
          obtain ⟨e1, e2⟩ := HF.out
          have e3 := RW.out
          rw [HT.out, e1] at e3
          have e4 : (digs (m * 10 ^ zeros)).length = k := by
            rw [← e1, List.length_take, ← HT.out]
            have := HK.out
            omega
          have hBB : Below w.heap.size w w2 := below_step hMB hb2
          refine ⟨A, c, by rw [e4, ← e2 1 (.inl rfl), SG.out], by rw [e4]; have := HK.out; omega, hcm, fun hh => ?_, fun x hx => by have := hAB x hx; omega, ?_⟩
          · obtain ⟨g, off, ea, eg, ec⟩ := e3 hh
            have hgb := hAB _ ea
            simp only at hgb
            refine ⟨g, off, ea, by simpa [World.setCell] using eg, fun i hi => ?_⟩
            rw [World.cell?_setCell_other _ _ _ _ (by first | (simp; done) | (simp; omega)), World.cell?_setCell_other _ _ _ _ (by first | (simp; done) | (simp; omega))]
            exact ec i hi
          · exact (hBB.setCell (Nat.le_refl _) _).setCell (Nat.le_refl _) _

set_option maxHeartbeats 8000000 in
theorem of_neg (m zeros : Nat) (w : World) (hm : 0 < m ∧ (m : Int) ≤ 999999999999999) (hz : zeros ≤ 1000) :
    Calls Tryd.prog 34 #[.int .i64 (-(m : Int)), .int .i64 zeros] w (OfPost (-1) m zeros w) := by
  go_enter Tryd.func34, Tryd.ntmps34
  have hpos : (0 : Int) < (m : Int) := by omega
  have hdec : decide (0 < m) = true := by simp; omega
  have hbd : (m : Int) ≤ 999999999999999 := by omega
  have HM' : Hid ((m : Int) ≤ 999999999999999) := by unfold Hid; omega
  have HM := hide hm
  have HZ := hide hz
  clear hm hz
  go_wp2_with fail
  go_loopw [6] (fun i wr => ∃ (k : Nat) (v : Value), k ≤ zeros ∧ i = .int .i64 k ∧ Making w wr (-1) v (List.replicate k 0)) (fun i _ => zeros - (intOf i).toNat)
  case atStart => exact ⟨0, _, Nat.zero_le _, rfl, making_start w (-1)⟩
  case round =>
    obtain ⟨k, v, hk, rfl, hM⟩ := hrel
    have c1 : wr.cell? ⟨w.heap.size + 1, 1, none⟩ = some v := (hM.2.1.cell 1).trans rfl
    have hsz := hM.size
    have hown := hM.2.2.1
    rw [List.length_replicate] at hown
    have hz' := HZ.out
    have hk' : k ≤ 1000 := by omega
    clear hz'
    by_cases hlt : k < zeros
    · obtain ⟨i0, hi, hz0, hz1, hz2⟩ := info_parts (show (Tryd.prog.info? 3).map (fun i => (i.zero, i.size, i.bytes)) = some (some (.int .i64 0), 1, 8) by kernel_rfl)
      go_wp2_with (at_builtin; refine wpList_append_own _ rfl _ _ 40 rfl (w.heap.size + 2) 3 i0 (.int .i64 0) 1 8 Tryd.underlying40 hi hz0 hz1 hz2 rfl (by decide) _ _ _ rfl (hown.alloc _) ⟨wr.heap.size, 0, none⟩ 1 1 [.int .i64 0] rfl rfl ?c1 ?c2 ?c3 ?c4 ?c5 ?_)
      case c1 => exact cell_one_new wr _ _
      case c2 => intro u hu; simp at hu; subst hu; rfl
      case c3 => unfold maxLen; omega
      case c4 => omega
      case c5 => simp; omega
      intro v' w1 hown' hgrow _
      obtain ⟨b1, b2, b3⟩ := hM.behind hgrow
      have d1 : w1.cell? ⟨w.heap.size + 1, 1, none⟩ = some v := (b2.cell 1).trans rfl
      have f1 := b2.free 1
      obtain ⟨A', c', rfl⟩ := own_form hown'
      have M := hide (hM.more hgrow (d := 0) (by rw [List.length_replicate, List.map_replicate]; exact hown'))
      clear hown' hgrow b1 b2 b3 hi hz0 hz1 hz2
      go_wp2_with fail
      go_roundw
      case rel => exact ⟨k + 1, _, by omega, by go_num, by rw [List.replicate_succ']; exact M.out⟩
      case measure => simp [intOf]; omega
    · obtain rfl : zeros = k := by omega
      clear hlt hown c1
      go_wp2_with fail
      have hsz := hM.size
      go_loopw [0] (fun n wr => ∃ (q : Nat) (v : Value) (l : List Int), n = .int .i64 q ∧ (q : Int) ≤ 999999999999999 ∧ Making w wr (-1) v l ∧ Hid (l ++ digs q = List.replicate zeros 0 ++ digs m)) (fun n _ => (intOf n).toNat)
      case atStart => exact ⟨m, v, List.replicate zeros 0, rfl, HM'.out, hM, rfl⟩
      case round =>
        clear hM hsz
        obtain ⟨q, v, l, rfl, hq, hM, ht⟩ := hrel
        have c1 : wr.cell? ⟨w.heap.size + 1, 1, none⟩ = some v := (hM.2.1.cell 1).trans rfl
        have hsz := hM.size
        have hown := hM.2.2.1
        have hlen : l.length ≤ 1100 := by
          have h1 := congrArg List.length ht.out
          simp only [List.length_append, List.length_replicate] at h1
          have h2 := digs_len (n := m) (k := 15) (by have := HM'.out; have e : (10 : Nat) ^ 15 = 1000000000000000 := by decide
                                                     omega)
          have h3 := HZ.out
          omega
        by_cases h0 : 0 < q
        · obtain ⟨i0, hi, hz0, hz1, hz2⟩ := info_parts (show (Tryd.prog.info? 3).map (fun i => (i.zero, i.size, i.bytes)) = some (some (.int .i64 0), 1, 8) by kernel_rfl)
          go_wp2_with (at_builtin; refine wpList_append_own _ rfl _ _ 40 rfl (w.heap.size + 2) 3 i0 (.int .i64 0) 1 8 Tryd.underlying40 hi hz0 hz1 hz2 rfl (by decide) _ _ _ rfl (hown.alloc _) ⟨wr.heap.size, 0, none⟩ 1 1 [.int .i64 ((q : Int) % 10)] rfl rfl ?c10 ?c20 ?c30 ?c40 ?c50 ?_)
          case c10 => exact cell_one_new wr _ _
          case c20 => intro u hu; simp at hu; subst hu; rfl
          case c30 => unfold maxLen; omega
          case c40 => omega
          case c50 => simp; omega
          intro v' w1 hown' hgrow _
          obtain ⟨b1, b2, b3⟩ := hM.behind hgrow
          have d1 : w1.cell? ⟨w.heap.size + 1, 1, none⟩ = some v := (b2.cell 1).trans rfl
          have f1 := b2.free 1
          obtain ⟨A', c', rfl⟩ := own_form hown'
          have M := hide (hM.more hgrow (d := (q : Int) % 10) hown')
          clear hown' hgrow b1 b2 b3 hi hz0 hz1 hz2
          go_wp2_with fail
          go_roundw
          case rel => exact ⟨q / 10, _, l ++ [((q % 10 : Nat) : Int)], by simp, by omega, by have := M.out; simpa using this, by have := ht.out; rw [digs_ne (by omega)] at this; unfold Hid; rw [← this]; simp⟩
          case measure => simp [intOf]; omega
        · obtain rfl : q = 0 := by omega
          have ht' : l = List.replicate zeros 0 ++ digs m := by have := ht.out; rwa [digs_zero, List.append_nil] at this
          have HT := hide ht'
          clear ht ht' h0 hq
          obtain ⟨A, c, hv, hlc, hcm, hrow⟩ := Row.of_own hown
          have k0 : wr.cell? ⟨w.heap.size + 1, 0, none⟩ = some (.int .i64 (-1)) := (hM.2.1.cell 0).trans rfl
          have hM1 := hM.1
          have hMB := hM.2.2.2
          have hAB : ∀ x, A = some x → w.heap.size + 2 ≤ x.block := fun x hx => (hown.lt x.block (by rw [hv, hx]; rfl)).1
          clear hM hown
          rw [hv] at c1
          clear hv
          go_wp2_with fail
          refine (trim_any _ A c l _ hrow hlc hcm).mono ?_
          rintro e w2 ⟨k, hk, hz, hl, rfl, hb2⟩
          have HF := hide (of_end m zeros k (HT.out ▸ hk) (fun i a b => HT.out ▸ hz i a (by rw [HT.out]; exact b)) (by rw [HT.out] at hl; exact hl))
          have hl2 : wr.heap.size ≤ w2.heap.size := hb2.size
          have l0 : w.heap.size < wr.heap.size := by omega
          have r0 : w2.cell? ⟨w.heap.size, 0, none⟩ = some (.int .i64 0) := (hb2.cell (p := ⟨w.heap.size, 0, none⟩) l0).trans ((hM1.cell 0).trans rfl)
          have r1 : w2.cell? ⟨w.heap.size, 1, none⟩ = some (.slice none 0 0) := (hb2.cell (p := ⟨w.heap.size, 1, none⟩) l0).trans ((hM1.cell 1).trans rfl)
          have f0 : w2.frozen? ⟨w.heap.size, 0, none⟩ = false := (hb2.frozen (p := ⟨w.heap.size, 0, none⟩) l0).trans (hM1.free 0)
          have f1 : w2.frozen? ⟨w.heap.size, 1, none⟩ = false := (hb2.frozen (p := ⟨w.heap.size, 1, none⟩) l0).trans (hM1.free 1)
          have RW := hide ((hrow.below hb2).take k)
          have HK := hide hk
          generalize hsg : (if k = 0 then (0 : Int) else (-1)) = sg at *
          have SG := hide hsg
          clear hz hl hsg hk hrow
          go_wp2_with fail
          refine bodyPost_ret (v := .agg #[.int .i64 sg, .slice A k c]) (by simp [results, Tryd.results34, go_sem, r0, r1]) rfl ?_
          obtain ⟨e1, e2⟩ := HF.out
          have e3 := RW.out
          rw [HT.out, e1] at e3
          have e4 : (digs (m * 10 ^ zeros)).length = k := by
            rw [← e1, List.length_take, ← HT.out]
            have := HK.out
            omega
          have hBB : Below w.heap.size w w2 := below_step hMB hb2
          refine ⟨A, c, by rw [e4, ← e2 (-1) (.inr rfl), SG.out], by rw [e4]; have := HK.out; omega, hcm, fun hh => ?_, fun x hx => by have := hAB x hx; omega, ?_⟩
          · obtain ⟨g, off, ea, eg, ec⟩ := e3 hh
            have hgb := hAB _ ea
            simp only at hgb
            refine ⟨g, off, ea, by simpa [World.setCell] using eg, fun i hi => ?_⟩
            rw [World.cell?_setCell_other _ _ _ _ (by first | (simp; done) | (simp; omega)), World.cell?_setCell_other _ _ _ _ (by first | (simp; done) | (simp; omega))]
            exact ec i hi
          · exact (hBB.setCell (Nat.le_refl _) _).setCell (Nat.le_refl _) _

theorem of_any (n : Int) (zeros : Nat) (w : World) (h1 : -999999999999999 ≤ n) (h2 : n ≤ 999999999999999) (hz : zeros ≤ 1000) :
    Calls Tryd.prog 34 #[.int .i64 n, .int .i64 zeros] w (NumIs (n * ((10 ^ zeros : Nat) : Int)) w) := by
  rcases Int.lt_or_le n 0 with hn | hn
  · obtain ⟨m, rfl⟩ : ∃ m : Nat, n = -(m : Int) := ⟨n.natAbs, by omega⟩
    refine (of_neg m zeros w ⟨by omega, by omega⟩ (by omega)).mono ?_
    rintro e w' ⟨A, c, rfl, a, b, r, fr, hb⟩
    have e1 : (-(m : Int) * ((10 ^ zeros : Nat) : Int)) = -((m * 10 ^ zeros : Nat) : Int) := by rw [Int.natCast_mul, Int.neg_mul]
    refine ⟨A, c, ?_, ?_, b, ?_, fr, hb⟩
    · rw [e1, Int.natAbs_neg, Int.natAbs_natCast, Int.neg_mul, Int.one_mul]
    · rw [e1, Int.natAbs_neg, Int.natAbs_natCast]; exact a
    · rw [e1, Int.natAbs_neg, Int.natAbs_natCast]; exact r
  · obtain ⟨m, rfl⟩ : ∃ m : Nat, n = (m : Int) := ⟨n.natAbs, by omega⟩
    refine (of_pos m zeros w (by omega) (by omega)).mono ?_
    rintro e w' ⟨A, c, rfl, a, b, r, fr, hb⟩
    have e1 : ((m : Int) * ((10 ^ zeros : Nat) : Int)) = ((m * 10 ^ zeros : Nat) : Int) := by rw [Int.natCast_mul]
    refine ⟨A, c, ?_, ?_, b, ?_, fr, hb⟩
    · rw [e1, Int.natAbs_natCast, Int.one_mul]
    · rw [e1, Int.natAbs_natCast]; exact a
    · rw [e1, Int.natAbs_natCast]; exact r
end Go.Proofs.YtgppimdakafniaaDoor
