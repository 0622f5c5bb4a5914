/- Take for any text of at most 64 bytes. No condition. -/
import Derived.Test.YtllfeoinmjbeaabGreatDoorTagB
namespace Go.Proofs.YtllfeoinmjbeaabGreatDoor.TagB
open Go Go.RowKit Go.PlainAid

set_option maxHeartbeats 4000000 in
theorem take_bad (s : ByteArray) (a : Int) (w : World) (h : a < 0 ∨ (s.size : Int) < a) :
    Calls Tryz.prog 8 #[.string s, .int .i64 a] w fun e w' => e = .returned (.tuple #[.int .i64 0, .int .i64 0, .int .i64 2]) ∧ w' = w := by
  rcases h with h | h
  · go_enter Tryz.func8, Tryz.ntmps8
    go_wp2_with fail
    go_returns
    exact ⟨rfl, rfl⟩
  · have h0 : ¬ a < 0 := by omega
    go_enter Tryz.func8, Tryz.ntmps8
    go_wp2_with fail
    go_returns
    exact ⟨rfl, rfl⟩

set_option maxHeartbeats 4000000 in
theorem take_any (s : ByteArray) (f K : Nat) (w : World) (hs : s.size ≤ 64) (h : Stop s f K) :
    Calls Tryz.prog 8 #[.string s, .int .i64 f] w fun e w' => e = .returned (.tuple #[.int .i64 (takeN s f K).1, .int .i64 (takeN s f K).2.1, .int .i64 (takeN s f K).2.2]) ∧ Below w.heap.size w w' := by
  have h2 : f ≤ s.size := by have := h.fit; omega
  have H := hide h
  clear h
  have hz : (takeN s f K).2.2 = 0 ∨ ((takeN s f K).2.2 ≠ 0 ∧ (takeN s f K).1 = 0 ∧ (takeN s f K).2.1 = 0) := by
    rcases H.out.parts with ⟨_, p⟩ | ⟨_, _, p⟩ | ⟨_, _, _, _, _, p⟩ | ⟨_, _, _, _, p⟩ | ⟨_, _, _, _, _, _, p⟩ <;> rw [p] <;> simp
  go_enter Tryz.func8, Tryz.ntmps8
  go_wp2_with fail
  refine (number_any w.heap.size s f K _ hs H.out ⟨by simp [go_sem], by simp [go_sem], by simp [go_sem], ⟨.int .i64 0, by simp [go_sem]⟩, by simp [go_sem], by simp [go_sem], by simp [go_sem]⟩).mono ?_
  rintro e w' ⟨rfl, ⟨p, hR, hp⟩, hB⟩
  have hW : Below w.heap.size w w' := ((Below.refl _ w).alloc (Nat.le_refl _) _).trans (hB _ (Nat.le_refl _))
  obtain ⟨c0, c1, c2, _, _, _, _⟩ := hR
  rcases hz with hz | ⟨hz, hz1, hz2⟩
  · rw [hz] at c2
    have hp' := hp hz
    subst hp'
    have HZ := hide hz
    clear hp hz
    go_wp2_with fail
    go_quiet (fail)
    go_wp2_with fail
    go_returns
    exact ⟨by rw [HZ.out]; rfl, hW.trans (below_drewN (Below.refl _ _) _)⟩
  · have HZ := hide (And.intro hz1 hz2)
    clear hp hz1 hz2
    generalize hx : (takeN s f K).2.2 = x at *
    go_wp2_with fail
    go_quiet (fail)
    go_wp2_with fail
    go_returns
    exact ⟨by rw [HZ.out.1, HZ.out.2]; (try rw [hx]); rfl, hW.trans (below_drewN (Below.refl _ _) _)⟩
end Go.Proofs.YtllfeoinmjbeaabGreatDoor.TagB
