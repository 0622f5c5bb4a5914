/- CharsetNames, walked: it returns true and writes nothing that was there. Condition: the table of the forms holds what the program's text lays. -/
import Derived.Test.YtmmigpncoojobacDoorChE
import Derived.Test.YtmmigpncoojobacDoorFlat
namespace Go.Proofs.YtmmigpncoojobacDoor
open Go Go.RowKit Go.PlainAid

abbrev Laid (w : World) : Prop := Forms w

theorem allB_at {s : ByteArray} {k : Nat} (h : allB s k = true) : ∀ i, k ≤ i → i < s.size → okAt s i = true := by
  by_cases hk : k < s.size
  · rw [allB_lt hk, Bool.and_eq_true] at h
    intro i hi hs
    by_cases e : i = k
    · subst e; exact h.1
    · exact allB_at h.2 i (by omega) hs
  · intro i hi hs; omega
termination_by s.size - k

theorem name_facts {s : ByteArray} (h : nameB s = true) : s.size ≤ 32 ∧ first s 0 = -1 ∧ shS 65 90 97 s = s := by
  unfold nameB at h
  simp only [Bool.and_eq_true, decide_eq_true_eq] at h
  have hall := allB_at h.2
  have hb : ∀ i, i < s.size → (97 ≤ bt s i ∧ bt s i ≤ 122) ∨ bt s i = 95 ∨ (48 ≤ bt s i ∧ bt s i ≤ 57) := fun i hi => by
    rcases okAt_iff.1 (hall i (Nat.zero_le _) hi) with h | h
    · exact .inl h
    · exact .inr h.2
  refine ⟨h.1.2, first_ascii (fun i hi => by have := hb i hi; omega) 0, ?_⟩
  apply ByteArray.ext
  apply Array.toList_inj.1
  rw [shS_list]
  apply List.ext_getElem
  · simp
  intro i h1 h2
  rw [List.getElem_map]
  have hi : i < s.size := by rw [← size_list]; exact h2
  have e : bt s i = ((s.data.toList[i]).toNat : Int) := by rw [bt_list, List.getElem?_eq_getElem h2]; rfl
  have := hb i hi
  rw [e] at this
  rw [show sh 65 90 97 ((s.data.toList[i]).toNat : Int) = ((s.data.toList[i]).toNat : Int) from if_neg (by omega), Int.toNat_natCast]
  simp

set_option maxHeartbeats 1000000 in
theorem charsetNames_walk (s : ByteArray) (w : World) (hF : Laid w) (hs : s.size ≤ maxLen) :
    Calls Tryd.prog 13 #[.string s] w fun e w' => e = .returned (.bool true) ∧ Below w.heap.size w w' := by
  cases hn : nameB s
  · go_enter Tryd.func13, Tryd.ntmps13
    go_wp2_with (first | (go_at_call 35; refine (isName_any _ _).mono ?_; rintro e w' ⟨rfl, rfl⟩) | (go_at_call 15; refine (known_any _ hF).mono ?_; rintro e w' ⟨rfl, hb⟩) | (go_at_call 36; refine (refIsName_any _ _).mono ?_; rintro e w' ⟨rfl, rfl⟩))
    go_ret
    exact ⟨rfl, hb⟩
  · obtain ⟨h32, hf, hl⟩ := name_facts hn
    have hf' : decide (first s 0 < 0) = true := by rw [hf]; rfl
    clear hf
    go_enter Tryd.func13, Tryd.ntmps13
    go_wp2_with (first | (go_at_call 35; refine (isName_any _ _).mono ?_; rintro e w' ⟨rfl, rfl⟩) | (go_at_call 15; refine (known_any _ hF).mono ?_; rintro e w1 ⟨rfl, hb⟩) | (go_at_call 36; refine (refIsName_any _ _).mono ?_; rintro e w' ⟨rfl, rfl⟩) | (go_at_call 18; refine (valid_any _ _ (hF.below hb) hs).mono ?_; rintro e w' ⟨rfl, m, rfl⟩) | (go_at_call 29; refine (lower_any _ _ hs).mono ?_; rintro e w2 ⟨rfl, hb2⟩))
    go_ret
    exact ⟨rfl, (below_drewN hb m).trans (hb2.mono hb.size)⟩
end Go.Proofs.YtmmigpncoojobacDoor
