/- What charset.Text and Encode return. Conditions: the table of the forms holds what the program's text lays; the list has at most 2^36 numbers. -/
import Derived.Test.YtmmigpncoojobacDoorChI
namespace Go.Proofs.YtmmigpncoojobacDoor
open Go Go.RowKit Go.PlainAid

theorem own_string {w : World} {B m : Nat} {v : Value} {ns : List Int} (h : w.ownsRow B 5 1 v m (ns.map (Value.int .u8))) :
    (convert 51 9 v).run Tryd.prog w = .ok (.string (strOfNums ns)) w := by
  have hl : ns.length = m := by have := h.1; simpa using this
  rcases h.2 with ⟨rfl, h0⟩ | ⟨g, cap, cur, rfl, _⟩
  · subst h0
    obtain rfl : ns = [] := List.eq_nil_of_length_eq_zero hl
    exact run_convert_bytes_nil w 51 5 Tryd.underlying51 Tryd.underlying5 0 0 9 Tryd.underlying9
  · refine run_convert_bytes_arg w 51 5 Tryd.underlying51 Tryd.underlying5 g 0 m cap ns hl (fun i hi => ?_) 9 Tryd.underlying9
    rw [Nat.zero_add, h.cellAt i (by omega)]
    simp [List.getD, show i < ns.length by omega]

/-- a slice of ints that reads as l, wherever it lies -/
def IntsAt (w : World) (B : Nat) (v : Value) (l : List Int) : Prop :=
  ∃ (A : Option Addr) (c : Nat), v = .slice A l.length c ∧ (0 < l.length → ∃ g off, A = some ⟨g, off, none⟩ ∧ g < B ∧ ∀ i, i < l.length → w.cell? ⟨g, off + i, none⟩ = some (.int .i64 (l.getD i 0)))

def encs (l : List Int) : List Int := l.flatMap encL
theorem encL_len (p : Int) : (encL p).length ≤ 4 := by
  unfold encL
  repeat' split
  all_goals simp
theorem encs_len (l : List Int) : (encs l).length ≤ 4 * l.length := by
  induction l with
  | nil => simp [encs]
  | cons p l ih =>
    have := encL_len p
    simp only [encs, List.flatMap_cons, List.length_append, List.length_cons] at *
    omega
theorem encs_more (l : List Int) (k : Nat) (h : k < l.length) : encs (l.take (k + 1)) = encs (l.take k) ++ encL (l.getD k 0) := by
  have e : l.getD k 0 = l[k] := by simp [List.getD, h]
  unfold encs
  rw [List.take_succ_eq_append_getElem h, List.flatMap_append, e]
  simp only [List.flatMap_cons, List.flatMap_nil, List.append_nil]

/-- what charset.Text comes to -/
def TextPost (l : List Int) (w : World) (e : Ending) (w' : World) : Prop :=
  Below w.heap.size w w' ∧ ((∀ p ∈ l, isPt p = true) ∧ e = .returned (.tuple #[.string (strOfNums (encs l)), .int .i64 0]) ∨ (∃ p ∈ l, isPt p = false) ∧ e = .returned (.tuple #[.string ⟨#[]⟩, .int .i64 2]))

set_option maxHeartbeats 4000000 in
theorem text_any (v : Value) (l : List Int) (w : World) (hF : Forms w) (hl : IntsAt w w.heap.size v l) (hn : l.length ≤ 68719476736) :
    Calls Tryd.prog 26 #[v] w (TextPost l w) := by
  obtain ⟨A, c, rfl, hA⟩ := hl
  have h0 : 0 < w.heap.size := by have := World.block_lt_of_cell? w _ (hF.at_ (i := 0) rfl); omega
  go_enter Tryd.func26, Tryd.ntmps26
  go_wp2_with fail
  go_loopw [4, 9] (fun v i wr => ∃ (k : Nat), k ≤ l.length ∧ i = .int .i64 k ∧ wr.ownsRow w.heap.size 5 1 v (encs (l.take k)).length ((encs (l.take k)).map (Value.int .u8)) ∧ Below w.heap.size w wr ∧ Hid (∀ p ∈ l.take k, isPt p = true))
    (fun _ i _ => l.length - (intOf i).toNat)
  case atStart => exact ⟨0, Nat.zero_le _, rfl, by simpa [encs] using World.ownsRow_nil w w.heap.size 5 1, Below.refl _ _, by simp [Hid]⟩
  case round =>
    obtain ⟨k, hk, rfl, hown, hb, hp⟩ := hrel
    have hFr := hF.below hb
    by_cases hlt : k < l.length
    · obtain ⟨g, off, rfl, hg, hc⟩ := hA (by omega)
      have hcell := (hb.cell (p := ⟨g, off + k, none⟩) hg).trans (hc k hlt)
      generalize hx : l.getD k 0 = x at hcell
      have hX := hide hx
      have hlen := encs_len (l.take k)
      have htk : (l.take k).length ≤ k := List.length_take_le _ _
      have hC := hide hc
      have hA' := hide hA
      clear hc hA hx
      cases hip : isPt x
      · go_wp2_with (go_at_call 39; refine (isPoint_any _ _).mono ?_; rintro e w' ⟨rfl, rfl⟩)
        go_ret2
        exact ⟨hb, .inr ⟨⟨x, by rw [← hX.out]; simp [List.getD, hlt], hip⟩, rfl⟩⟩
      · have hi := isPt_iff.1 hip
        have hi1 := hi.1
        have hi2 := hi.2.1
        clear hi
        go_wp2_with (go_at_call 39; refine (isPoint_any _ _).mono ?_; rintro e w' ⟨rfl, rfl⟩)
        refine (encode_any _ x w.heap.size _ _ wr hFr hown hb.size h0 (by omega) hi1 hi2).mono ?_
        rintro e w1 ⟨v1, rfl, hown1, hb1⟩
        go_wp2_with fail
        go_roundw
        case rel =>
          have e1 := encs_more l k hlt
          rw [hX.out] at e1
          refine ⟨k + 1, by omega, by go_num, ?_, hb.trans hb1, ?_⟩
          · rw [e1, List.length_append, List.map_append]
            exact hown1
          · intro q hq
            rw [List.take_succ_eq_append_getElem hlt, List.mem_append] at hq
            rcases hq with hq | hq
            · exact hp.out q hq
            · have : l[k] = x := by rw [← hX.out]; simp [List.getD, hlt]
              rw [List.mem_singleton.1 hq, this]
              exact hip
        case measure => simp [intOf]; omega
    · obtain rfl : k = l.length := by omega
      rw [List.take_length] at hown hp
      have hconv := own_string hown
      go_wp2_with fail
      go_ret2
      exact ⟨hb, .inl ⟨hp.out, rfl⟩⟩
end Go.Proofs.YtmmigpncoojobacDoor
