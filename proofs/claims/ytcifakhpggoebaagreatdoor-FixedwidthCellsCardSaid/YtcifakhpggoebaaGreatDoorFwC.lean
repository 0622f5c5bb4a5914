/- What Cells returns: its loop over the function cells. No condition. -/
import Derived.Test.YtcifakhpggoebaaGreatDoorFwB
import Derived.RangeFuncNested
import Derived.RangeFuncBound
import Derived.RangeFuncCalls
import Derived.RangeFuncLeaves
import Derived.RangeFuncBox
import Derived.Shelf.Abstract
import Derived.Shelf.RegionOpen
import Derived.OwnWalkIn
import Derived.TacticsInMore
import Derived.LoopNIn
import Derived.LoopIn
import Derived.Maps.AppendAt
namespace Go.Proofs.YtcifakhpggoebaaGreatDoor.Fw
open Go Go.RowKit Go.PlainAid Go.Shelf
attribute [local go_sem] Oper.semAt_some
abbrev X := Nat × ByteArray
def item (s : ByteArray) (l : List Int) (i : Nat) : X := (S l i, textI s l i)
def upto (s : ByteArray) (l : List Int) (k : Nat) : List X := (List.range k).map (item s l)
theorem upto_succ (s : ByteArray) (l : List Int) (k : Nat) : upto s l (k + 1) = upto s l k ++ [item s l k] := by simp [upto, List.range_succ]
theorem upto_length (s : ByteArray) (l : List Int) (k : Nat) : (upto s l k).length = k := by simp [upto]
/-- what a round keeps: the blocks below n₀, and the line's box -/
def Kp (n₀ Bl : Nat) (A B : World) : Prop := Below n₀ A B ∧ B.heap[Bl]? = A.heap[Bl]?
theorem Kp.t {n₀ Bl : Nat} {A B C : World} (h : Kp n₀ Bl A B) (k : Kp n₀ Bl B C) : Kp n₀ Bl A C := ⟨h.1.trans k.1, k.2.trans h.2⟩
theorem Kp.refl (n₀ Bl : Nat) (A : World) : Kp n₀ Bl A A := ⟨Below.refl _ _, rfl⟩
theorem Kp.cell {n₀ Bl : Nat} {A B : World} (h : Kp n₀ Bl A B) : B.cell? ⟨Bl, 0, none⟩ = A.cell? ⟨Bl, 0, none⟩ := World.cell?_of_block (w := A) h.2
/-- a row below a number -/
def RowB (n₀ : Nat) (w : World) (A : Option Addr) (l : List Int) : Prop := 0 < l.length → ∃ g off, A = some ⟨g, off, none⟩ ∧ g < n₀ ∧ ∀ i, i < l.length → w.cell? ⟨g, off + i, none⟩ = some (.int .i64 (dg l i))
set_option maxRecDepth 100000 in
set_option maxHeartbeats 4000000 in
theorem cells1_in (F : Fence) (n : Nat) (hf : F.fn 20) (hro : F.round = none) (_hn : 1 ≤ n) (lp Bw Bl n₀ : Nat) (A : Option Addr) (l : List Int) (c : Nat) (s : ByteArray) (hl : l.length ≤ 64) (ho : allOk l) (hs : S l l.length ≤ s.size) (hsz : s.size ≤ 1000000) (J Jx : List X → World → Prop)
    (hY : ∀ pre x W, J pre W → pre.length < l.length → YieldAt F (n - 1) Tryz.prog lp #[.int .i64 (x.1 : Int), .string x.2] W fun e W' =>
      (e = .returned (.bool true) ∧ J (pre ++ [x]) W' ∧ Kp n₀ Bl W W') ∨ (e = .returned (.bool false) ∧ Jx (pre ++ [x]) W'))
    (W : World) (hBw : W.cell? ⟨Bw, 0, none⟩ = some (.slice A l.length c)) (hBl : W.cell? ⟨Bl, 0, none⟩ = some (.string s)) (hr : RowB n₀ W A l) (h0 : J [] W) :
    CallsIn F n Tryz.prog 20 #[.func (.yield lp) #[] #[], .pointer (some ⟨Bw, 0, none⟩), .pointer (some ⟨Bl, 0, none⟩)] W fun e W' => (∃ v, e = .returned v) ∧
      ((∃ ys, ys = upto s l l.length ∧ J ys W') ∨ (∃ pre, (∃ k, k ≤ l.length ∧ pre = upto s l k) ∧ Jx pre W')) := by
  have HR := hide hr
  have HO := hide ho
  clear hr ho
  refine callsIn_of_wp Tryz.func20 rfl hf ?_ hro
  simp only [Tryz.ntmps20, List.size_toArray, List.length_cons, List.length_nil, Nat.reduceAdd, Nat.reduceSub, Array.replicate_succ, Array.replicate_zero, List.push_toArray, List.append_toArray, List.nil_append, List.cons_append]
  gi_wp2
  gi_loopw [4, 9] (fun y x wr => ∃ k : Nat, k ≤ l.length ∧ x = .int .i64 k ∧ y = .int .i64 (S l k : Nat) ∧ J (upto s l k) wr ∧ Kp n₀ Bl W wr) (fun _ x _ => l.length - (intOf x).toNat)
  case atStart => exact ⟨0, Nat.zero_le _, rfl, by rw [S_zero]; rfl, h0, Kp.refl _ _ _⟩
  case round =>
    obtain ⟨k, hk, rfl, rfl, hJs, hkp⟩ := hrel
    by_cases hlt : k < l.length
    · obtain ⟨g, off, rfl, hg, hc⟩ := HR.out (by omega)
      have d0 := (hkp.1.cell (p := ⟨g, off + k, none⟩) hg).trans (hc k hlt)
      have d1 := hkp.cell.trans hBl
      obtain ⟨fn, tmps, assign, body, hy, hR⟩ := hY _ (item s l k) wr hJs (by rw [upto_length]; exact hlt)
      obtain ⟨x, hx⟩ : ∃ x, dg l k = x := ⟨_, rfl⟩
      rw [hx] at d0
      have hi0 : (0 : Int) ≤ (k : Int) := Int.natCast_nonneg _
      have hi1 : (k : Int) < (l.length : Int) := by omega
      have NS := S_succ l k hlt
      have NM := S_mono l (k + 1)
      have o1 := HO.out k hlt
      rw [hx] at o1
      obtain ⟨o2, o3⟩ := o1
      obtain ⟨m, rfl⟩ : ∃ n : Nat, x = (n : Int) := ⟨x.toNat, by omega⟩
      obtain ⟨q, hq⟩ : ∃ q, S l k = q := ⟨_, rfl⟩
      rw [hq, hx, Int.toNat_natCast] at NS
      rw [NS] at NM
      have NI : item s l k = (q, s.extract q (q + m)) := by unfold item textI; rw [hq, NS]
      rw [NI] at hy hR
      dsimp only at hy
      have HN : Hid (upto s l k ++ [(q, s.extract q (q + m))] = upto s l (k + 1)) := hide (by rw [upto_succ, NI])
      have HQ := hide NS
      have h8 : (q : Int) + (m : Int) ≤ (s.size : Int) := by omega
      have h9 : (0 : Int) ≤ (q : Int) := Int.natCast_nonneg _
      have h10 : (0 : Int) ≤ (m : Int) := Int.natCast_nonneg _
      rw [hq]
      clear NS NM NI hq hc o2 o3 hx hJs
      gi_wp2
      refine hR.mono ?_
      rintro e W3 (⟨rfl, hJ3, hk3⟩ | ⟨rfl, hJx3⟩)
      · gi_wp2
        go_roundw
        case rel => exact ⟨k + 1, by omega, by go_num, by rw [HQ.out]; go_num, by rw [← HN.out]; exact hJ3, hkp.t hk3⟩
        case measure => simp [intOf]; omega
      · gi_wp2
        refine bodyPost_ret (results_none rfl _ _ _) rfl ?_
        exact ⟨⟨_, rfl⟩, .inr ⟨_, ⟨k + 1, by omega, HN.out⟩, hJx3⟩⟩
    · obtain rfl : k = l.length := by omega
      gi_wp2
      go_end0
      exact ⟨⟨_, rfl⟩, .inl ⟨_, rfl, hJs⟩⟩
end Go.Proofs.YtcifakhpggoebaaGreatDoor.Fw
