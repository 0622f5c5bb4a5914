/- CharsetTexts, walked: it returns true and writes nothing that was there. Condition: the table of the forms holds what the program's text lays. -/
import Derived.Test.YtmmigpncoojobacDoorChLatin
namespace Go.Proofs.YtmmigpncoojobacDoor
open Go Go.RowKit Go.PlainAid

/-- what is known of a slice of integers that came in -/
def IsRow (k : IntKind) (w : World) (a : Option Addr) (len cap : Nat) (zs : List Int) : Prop :=
  (a = none ∧ len = 0 ∧ cap = 0 ∧ zs = []) ∨
  ∃ x, a = some x ∧ len ≤ cap ∧ cap ≤ maxLen ∧ zs.length = cap ∧ (∀ i, i < zs.length → w.cell? (x.add i) = some (.int k (zs.getD i 0))) ∧ ∀ n ∈ zs, (Lit.int k n).wf = true
theorem IsRow.bounds {k : IntKind} {w : World} {a : Option Addr} {len cap : Nat} {zs : List Int} (h : IsRow k w a len cap zs) : len ≤ cap ∧ cap ≤ maxLen ∧ zs.length = cap := by
  rcases h with ⟨_, rfl, rfl, rfl⟩ | ⟨x, _, h1, h2, h3, _⟩
  · exact ⟨Nat.le_refl _, Nat.zero_le _, rfl⟩
  · exact ⟨h1, h2, h3⟩
theorem IsRow.ints {w : World} {a : Option Addr} {len cap : Nat} {zs : List Int} (h : IsRow .i64 w a len cap zs) {n : Nat} (hn : n ≤ cap) : IntsAt w w.heap.size (.slice a n cap) (zs.take n) := by
  have hb := h.bounds
  have hl : (zs.take n).length = n := by rw [List.length_take]; omega
  refine ⟨a, cap, by rw [hl], fun h0 => ?_⟩
  rcases h with ⟨_, rfl, rfl, rfl⟩ | ⟨x, rfl, h1, h2, h3, hc, _⟩
  · simp at h0
  · obtain ⟨b, off, spot⟩ := x
    have hc0 := hc 0 (by omega)
    have hspot : spot = none := by simpa [Addr.add] using World.cell?_spot hc0
    subst hspot
    refine ⟨b, off, rfl, ?_, fun i hi => ?_⟩
    · have := World.block_lt_of_cell? w _ hc0
      simpa [Addr.add] using this
    · have := hc i (by omega)
      have ha : (⟨b, off, none⟩ : Addr).add i = ⟨b, off + i, none⟩ := by unfold Addr.add; split <;> simp_all
      rw [ha] at this
      rw [this]
      simp [List.getD, show i < n by omega]

/-- what Text gives: a text and an error number -/
def TextSpec (l : List Int) (a : ByteArray) (ec : Int) : Prop :=
  ((∀ p ∈ l, isPt p = true) ∧ a = strOfNums (encs l) ∧ ec = 0) ∨ ((∃ p ∈ l, isPt p = false) ∧ a = ⟨#[]⟩ ∧ ec = 2)
theorem text_spec (v : Value) (l : List Int) (w : World) (hF : Forms w) (hl : IntsAt w w.heap.size v l) (hn : l.length ≤ 68719476736) :
    Calls Tryd.prog 26 #[v] w fun e w' => ∃ a ec, e = .returned (.tuple #[.string a, .int .i64 ec]) ∧ TextSpec l a ec ∧ Below w.heap.size w w' := by
  refine (text_any v l w hF hl hn).mono ?_
  rintro e w' ⟨hb, ⟨h, rfl⟩ | ⟨h, rfl⟩⟩
  · exact ⟨_, _, rfl, .inl ⟨h, rfl, rfl⟩, hb⟩
  · exact ⟨_, _, rfl, .inr ⟨h, rfl, rfl⟩, hb⟩

theorem getD_mem {l : List Int} {k : Nat} (h : k < l.length) : l.getD k 0 ∈ l := by
  have e : l.getD k 0 = l[k] := by simp [List.getD, h]
  rw [e]; exact List.getElem_mem h

set_option maxHeartbeats 8000000 in
theorem charsetTexts_walk (A : Option Addr) (len cap : Nat) (zs : List Int) (w : World) (hF : Laid w) (hr : IsRow .i64 w A len cap zs) :
    Calls Tryd.prog 7 #[.slice A len cap] w fun e w' => e = .returned (.bool true) ∧ Below w.heap.size w w' := by
  have hbd := hr.bounds
  obtain ⟨b1, b2, b3⟩ := hbd
  unfold maxLen at b2
  obtain ⟨n, hn, hn1, hn2⟩ : ∃ n : Nat, (n : Int) = min (len : Int) 100 ∧ n ≤ cap ∧ n ≤ 100 := ⟨min len 100, by omega, by omega, by omega⟩
  have I := hide (hr.ints hn1)
  clear hr b3
  have hll : (zs.take n).length = n := by
    have := I.out
    obtain ⟨_, _, hv, _⟩ := this
    injection hv with _ h _
    exact h.symm
  generalize zs.take n = l at *
  subst hll
  by_cases hc : len ≤ 100
  · obtain rfl : len = l.length := by omega
    clear hn
    go_enter Tryd.func7, Tryd.ntmps7
    go_wp2_with fail
    refine (text_spec _ l _ hF I.out (by omega)).mono ?_
    rintro e w1 ⟨a, ec, rfl, hspec, hb1⟩
    have I1 := hide ((I.out.below hb1).more hb1.size)
    clear I
    go_wp2_with fail
    go_loopw [5, 6] (fun x i wr => ∃ k : Nat, k ≤ l.length ∧ i = .int .i64 k ∧ x = .string (strOfNums (encs (l.take k))) ∧ Below w.heap.size w wr ∧ Below w1.heap.size w1 wr ∧ Hid (∀ p ∈ l.take k, isPt p = true)) (fun _ i _ => l.length - (intOf i).toNat)
    case atStart => exact ⟨0, Nat.zero_le _, rfl, rfl, hb1, Below.refl _ _, by simp [Hid]⟩
    case round =>
      obtain ⟨k, hk, rfl, rfl, hb, hb', hp⟩ := hrel
      by_cases hlt : k < l.length
      · have e1 := hide (encs_more l k hlt)
        have ek := hide (List.take_succ_eq_append_getElem hlt)
        have hmem := hide (getD_mem hlt)
        have hgd : Hid (l.getD k 0 = l[k]) := by simp [Hid, List.getD, hlt]
        obtain ⟨g, off, c', hv, _, hcell⟩ := ((I1.out.below hb').at_ hlt)
        injection hv with e2 e3 e4
        subst e2 e4
        clear e3
        have hz1 : (strOfNums (encs (l.take k))).size ≤ 2000 := by
          have := encs_small (l := l.take k)
          have := List.length_take_le k l
          omega
        generalize l.getD k 0 = x at hcell hmem hgd e1
        have hz2 : (encS x).size ≤ 4 := by
          have := nums_size (encL x)
          have := encL_len x
          unfold encS
          omega
        cases hip : isPt x
        · have hs2 : Hid (a = ⟨#[]⟩ ∧ ec = 2) := by
            rcases hspec with ⟨h, _⟩ | ⟨_, h⟩
            · have := h x hmem.out; rw [hip] at this; cases this
            · exact h
          obtain ⟨rfl, rfl⟩ := hs2.out
          clear hspec hs2
          go_wp2_with fail
          refine (refIsPoint_any x _).mono ?_
          rintro e w' ⟨rfl, rfl⟩
          go_wp2_with fail
          refine (known_any _ (hF.below hb)).mono ?_
          rintro e w2 ⟨rfl, hb2⟩
          have hb2 := below_step hb hb2
          go_wp2_with fail
          go_ret
          exact ⟨rfl, hb2⟩
        · have hi := isPt_iff.1 hip
          have hi1 := hi.1
          have hi2 := hi.2.1
          clear hi
          go_wp2_with fail
          refine (refIsPoint_any x _).mono ?_
          rintro e w' ⟨rfl, rfl⟩
          go_wp2_with fail
          refine (refEncode_any x _ hi1 hi2).mono ?_
          rintro e w2 ⟨rfl, hb2⟩
          have hb3 := below_step hb hb2
          have hb3' := below_step hb' hb2
          clear hb hb' hb2
          go_wp2_with fail
          go_roundw
          case rel =>
            refine ⟨k + 1, by omega, by go_num, ?_, hb3, hb3', ?_⟩
            · rw [e1.out, ← nums_append]
              rfl
            · intro q hq
              rw [ek.out, List.mem_append] at hq
              rcases hq with hq | hq
              · exact hp.out q hq
              · rw [List.mem_singleton.1 hq, ← hgd.out]
                exact hip
          case measure => simp [intOf]; omega
      · obtain rfl : k = l.length := by omega
        rw [List.take_length] at hp
        have et : l.take l.length = l := List.take_length
        rw [et]
        clear et
        have hs1 : Hid (a = strOfNums (encs l) ∧ ec = 0) := by
          rcases hspec with ⟨_, h⟩ | ⟨⟨q, hq, hq'⟩, _⟩
          · exact h
          · rw [hp.out q hq] at hq'; cases hq'
        obtain ⟨rfl, rfl⟩ := hs1.out
        clear hspec hs1
        have hpe := points_encs hp.out
        have hz := encs_small (l := l)
        have I2 := hide ((I1.out.below hb').more hb'.size)
        clear I1
        go_wp2_with fail
        refine (points_any (strOfNums (encs l)) _ (hF.below hb) (by omega)).mono ?_
        rintro e w2 ⟨hb2, ⟨_, v, rfl, hown⟩ | ⟨hv, _⟩⟩
        rotate_left
        · rw [hpe.2] at hv; omega
        rw [hpe.1] at hown
        have K2 := IntsAt.own hown
        have I3 := (I2.out.below hb2).more hb2.size
        have hb3 := below_step hb hb2
        clear hb hb' hb2 hown I2 hpe
        go_wp2_with fail
        refine (known_any _ (hF.below hb3)).mono ?_
        rintro e w3 ⟨rfl, hb4⟩
        have K4 := (K2.below hb4).more hb4.size
        have I4 := (I3.below hb4).more hb4.size
        have hb5 := below_step hb3 hb4
        clear hb3 hb4 K2 I3
        go_wp2_with fail
        refine (same_any _ _ l _ K4 I4 (by omega)).mono ?_
        rintro e w' ⟨rfl, m2, rfl⟩
        have hb6 := below_drewN hb5 m2
        clear hb5 K4 I4
        go_wp2_with fail
        go_ret
        exact ⟨ret_bool (by simp), hb6⟩
  · have h100 : l.length = 100 := by omega
    have H100 := hide h100
    clear hn
    go_enter Tryd.func7, Tryd.ntmps7
    go_wp2_with fail
    rw [← H100.out]
    clear h100
    refine (text_spec _ l _ hF I.out (by omega)).mono ?_
    rintro e w1 ⟨a, ec, rfl, hspec, hb1⟩
    have I1 := hide ((I.out.below hb1).more hb1.size)
    clear I
    go_wp2_with fail
    go_loopw [5, 6] (fun x i wr => ∃ k : Nat, k ≤ l.length ∧ i = .int .i64 k ∧ x = .string (strOfNums (encs (l.take k))) ∧ Below w.heap.size w wr ∧ Below w1.heap.size w1 wr ∧ Hid (∀ p ∈ l.take k, isPt p = true)) (fun _ i _ => l.length - (intOf i).toNat)
    case atStart => exact ⟨0, Nat.zero_le _, rfl, rfl, hb1, Below.refl _ _, by simp [Hid]⟩
    case round =>
      obtain ⟨k, hk, rfl, rfl, hb, hb', hp⟩ := hrel
      by_cases hlt : k < l.length
      · have e1 := hide (encs_more l k hlt)
        have ek := hide (List.take_succ_eq_append_getElem hlt)
        have hmem := hide (getD_mem hlt)
        have hgd : Hid (l.getD k 0 = l[k]) := by simp [Hid, List.getD, hlt]
        obtain ⟨g, off, c', hv, _, hcell⟩ := ((I1.out.below hb').at_ hlt)
        injection hv with e2 e3 e4
        subst e2 e4
        clear e3
        have hz1 : (strOfNums (encs (l.take k))).size ≤ 2000 := by
          have := encs_small (l := l.take k)
          have := List.length_take_le k l
          omega
        generalize l.getD k 0 = x at hcell hmem hgd e1
        have hz2 : (encS x).size ≤ 4 := by
          have := nums_size (encL x)
          have := encL_len x
          unfold encS
          omega
        cases hip : isPt x
        · have hs2 : Hid (a = ⟨#[]⟩ ∧ ec = 2) := by
            rcases hspec with ⟨h, _⟩ | ⟨_, h⟩
            · have := h x hmem.out; rw [hip] at this; cases this
            · exact h
          obtain ⟨rfl, rfl⟩ := hs2.out
          clear hspec hs2
          go_wp2_with fail
          refine (refIsPoint_any x _).mono ?_
          rintro e w' ⟨rfl, rfl⟩
          go_wp2_with fail
          refine (known_any _ (hF.below hb)).mono ?_
          rintro e w2 ⟨rfl, hb2⟩
          have hb2 := below_step hb hb2
          go_wp2_with fail
          go_ret
          exact ⟨rfl, hb2⟩
        · have hi := isPt_iff.1 hip
          have hi1 := hi.1
          have hi2 := hi.2.1
          clear hi
          go_wp2_with fail
          refine (refIsPoint_any x _).mono ?_
          rintro e w' ⟨rfl, rfl⟩
          go_wp2_with fail
          refine (refEncode_any x _ hi1 hi2).mono ?_
          rintro e w2 ⟨rfl, hb2⟩
          have hb3 := below_step hb hb2
          have hb3' := below_step hb' hb2
          clear hb hb' hb2
          go_wp2_with fail
          go_roundw
          case rel =>
            refine ⟨k + 1, by omega, by go_num, ?_, hb3, hb3', ?_⟩
            · rw [e1.out, ← nums_append]
              rfl
            · intro q hq
              rw [ek.out, List.mem_append] at hq
              rcases hq with hq | hq
              · exact hp.out q hq
              · rw [List.mem_singleton.1 hq, ← hgd.out]
                exact hip
          case measure => simp [intOf]; omega
      · obtain rfl : k = l.length := by omega
        rw [List.take_length] at hp
        have et : l.take l.length = l := List.take_length
        rw [et]
        clear et
        have hs1 : Hid (a = strOfNums (encs l) ∧ ec = 0) := by
          rcases hspec with ⟨_, h⟩ | ⟨⟨q, hq, hq'⟩, _⟩
          · exact h
          · rw [hp.out q hq] at hq'; cases hq'
        obtain ⟨rfl, rfl⟩ := hs1.out
        clear hspec hs1
        have hpe := points_encs hp.out
        have hz := encs_small (l := l)
        have I2 := hide ((I1.out.below hb').more hb'.size)
        clear I1
        go_wp2_with fail
        refine (points_any (strOfNums (encs l)) _ (hF.below hb) (by omega)).mono ?_
        rintro e w2 ⟨hb2, ⟨_, v, rfl, hown⟩ | ⟨hv, _⟩⟩
        rotate_left
        · rw [hpe.2] at hv; omega
        rw [hpe.1] at hown
        have K2 := IntsAt.own hown
        have I3 := (I2.out.below hb2).more hb2.size
        have hb3 := below_step hb hb2
        clear hb hb' hb2 hown I2 hpe
        go_wp2_with fail
        refine (known_any _ (hF.below hb3)).mono ?_
        rintro e w3 ⟨rfl, hb4⟩
        have K4 := (K2.below hb4).more hb4.size
        have I4 := (I3.below hb4).more hb4.size
        have hb5 := below_step hb3 hb4
        clear hb3 hb4 K2 I3
        go_wp2_with fail
        refine (same_any _ _ l _ K4 I4 (by omega)).mono ?_
        rintro e w' ⟨rfl, m2, rfl⟩
        have hb6 := below_drewN hb5 m2
        clear hb5 K4 I4
        go_wp2_with fail
        go_ret
        exact ⟨ret_bool (by simp), hb6⟩
end Go.Proofs.YtmmigpncoojobacDoor
