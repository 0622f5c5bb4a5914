/- What the calls of package decimal come to, and the laws of them: plain arithmetic. No condition. -/
import Derived.Test.YtcifakhpggoebabGreatDoorDecMath2
namespace Go.Proofs.YtcifakhpggoebabGreatDoor

def okN (n s : Int) : Prop := -999999999999999 ≤ n ∧ n ≤ 999999999999999 ∧ 0 ≤ s ∧ s ≤ 12
instance (n s : Int) : Decidable (okN n s) := by unfold okN; infer_instance
def Small (z : Int) : Prop := -999999999999999 ≤ z ∧ z ≤ 999999999999999
/-- the number of an integer with a scale, or the error -/
def NumOut (z s n t e : Int) : Prop := (Small z ∧ n = z ∧ t = s ∧ e = 0) ∨ (¬ Small z ∧ n = 0 ∧ t = 0 ∧ e = 14)
theorem NumOut.one {z s n t e n' t' e' : Int} (h : NumOut z s n t e) (g : NumOut z s n' t' e') : n = n' ∧ t = t' ∧ e = e' := by
  rcases h with ⟨h, rfl, rfl, rfl⟩ | ⟨h, rfl, rfl, rfl⟩ <;> rcases g with ⟨g, rfl, rfl, rfl⟩ | ⟨g, rfl, rfl, rfl⟩
  · exact ⟨rfl, rfl, rfl⟩
  · exact absurd h g
  · exact absurd g h
  · exact ⟨rfl, rfl, rfl⟩
def Both (a sa b sb : Int) : Prop := okN a sa ∧ okN b sb
/-- a sum (q = 1) or a difference (q = -1) -/
def AddOut (q a sa b sb n t e : Int) : Prop := (Both a sa b sb ∧ NumOut (sca a sa (max sa sb) + q * sca b sb (max sa sb)) (max sa sb) n t e) ∨ (¬ Both a sa b sb ∧ n = 0 ∧ t = 0 ∧ e = 2)
def MulOut (a sa b sb n t e : Int) : Prop := (Both a sa b sb ∧ sa + sb ≤ 12 ∧ NumOut (a * b) (sa + sb) n t e) ∨ (Both a sa b sb ∧ 12 < sa + sb ∧ n = 0 ∧ t = 0 ∧ e = 14) ∨ (¬ Both a sa b sb ∧ n = 0 ∧ t = 0 ∧ e = 2)
def CmpOut (a sa b sb k e : Int) : Prop := (Both a sa b sb ∧ k = cmpI a sa b sb ∧ e = 0) ∨ (¬ Both a sa b sb ∧ k = 0 ∧ e = 2)
theorem Both.comm {a sa b sb : Int} (h : Both a sa b sb) : Both b sb a sa := ⟨h.2, h.1⟩
theorem not_both_comm {a sa b sb : Int} (h : ¬ Both a sa b sb) : ¬ Both b sb a sa := fun g => h g.comm
theorem max_comm' (a b : Int) : max a b = max b a := by omega

theorem add_comm_out {a sa b sb n t e n' t' e' : Int} (h : AddOut 1 a sa b sb n t e) (g : AddOut 1 b sb a sa n' t' e') : n = n' ∧ t = t' ∧ e = e' := by
  rcases h with ⟨hb, h⟩ | ⟨hb, rfl, rfl, rfl⟩ <;> rcases g with ⟨gb, g⟩ | ⟨gb, rfl, rfl, rfl⟩
  · rw [max_comm' sb sa, Int.one_mul, Int.add_comm] at g
    rw [Int.one_mul] at h
    exact h.one g
  · exact absurd hb.comm gb
  · exact absurd gb.comm hb
  · exact ⟨rfl, rfl, rfl⟩
theorem mul_comm_out {a sa b sb n t e n' t' e' : Int} (h : MulOut a sa b sb n t e) (g : MulOut b sb a sa n' t' e') : n = n' ∧ t = t' ∧ e = e' := by
  rcases h with ⟨hb, hs, h⟩ | ⟨hb, hs, rfl, rfl, rfl⟩ | ⟨hb, rfl, rfl, rfl⟩ <;> rcases g with ⟨gb, gs, g⟩ | ⟨gb, gs, rfl, rfl, rfl⟩ | ⟨gb, rfl, rfl, rfl⟩
  · rw [Int.mul_comm, Int.add_comm sb sa] at g
    exact h.one g
  · omega
  · exact absurd hb.comm gb
  · omega
  · exact ⟨rfl, rfl, rfl⟩
  · exact absurd hb.comm gb
  · exact absurd gb.comm hb
  · exact absurd gb.comm hb
  · exact ⟨rfl, rfl, rfl⟩
theorem NumOut.ok {z s n t e : Int} (h : NumOut z s n t e) (he : e = 0) : Small z ∧ n = z ∧ t = s := by
  rcases h with ⟨h, a, b, _⟩ | ⟨_, _, _, c⟩
  · exact ⟨h, a, b⟩
  · omega
theorem AddOut.ok {q a sa b sb n t e : Int} (h : AddOut q a sa b sb n t e) (he : e = 0) : Both a sa b sb ∧ Small n ∧ n = sca a sa (max sa sb) + q * sca b sb (max sa sb) ∧ t = max sa sb := by
  rcases h with ⟨hb, h⟩ | ⟨_, _, _, c⟩
  · obtain ⟨h1, h2, h3⟩ := h.ok he
    rw [← h2] at h1
    exact ⟨hb, h1, h2, h3⟩
  · omega
theorem MulOut.ok {a sa b sb n t e : Int} (h : MulOut a sa b sb n t e) (he : e = 0) : Both a sa b sb ∧ Small n ∧ sa + sb ≤ 12 ∧ n = a * b ∧ t = sa + sb := by
  rcases h with ⟨hb, hs, h⟩ | ⟨_, _, _, _, c⟩ | ⟨_, _, _, c⟩
  · obtain ⟨h1, h2, h3⟩ := h.ok he
    rw [← h2] at h1
    exact ⟨hb, h1, hs, h2, h3⟩
  · omega
  · omega
theorem cmp_same (a b s : Int) : cmpI a s b s = sgn (a - b) := by
  unfold cmpI
  rw [show max s s = s by omega, sca_self, sca_self]
/-- Sub undoes Add -/
theorem sub_add_out {a sa b sb n t d ds i k j : Int} (h : AddOut 1 a sa b sb n t 0) (g : AddOut (-1) n t b sb d ds i) (c : CmpOut d ds a sa k j) : (i = 0 ∨ i = 14) ∧ (i = 0 → k = 0 ∧ j = 0) := by
  obtain ⟨⟨ha, hb⟩, hs, hn, ht⟩ := h.ok rfl
  have hok : okN n t := by
    subst ht
    exact ⟨hs.1, hs.2, by have := ha.2.2.1; have := hb.2.2.1; omega, by have := ha.2.2.2; have := hb.2.2.2; omega⟩
  rcases g with ⟨gb, g⟩ | ⟨gb, _⟩
  · refine ⟨?_, fun h0 => ?_⟩
    · rcases g with ⟨_, _, _, g⟩ | ⟨_, _, _, g⟩
      · exact .inl g
      · exact .inr g
    · obtain ⟨g1, g2, g3⟩ := g.ok h0
      have hm : max t sb = t := by omega
      rw [hm] at g2 g3
      have hda : d = sca a sa t := by
        rw [g2, sca_self, hn, ← ht, Int.one_mul, Int.neg_mul, Int.one_mul]
        omega
      have hd : okN d ds := by
        rw [hm] at g1
        rw [g3]
        rw [← g2] at g1
        exact ⟨g1.1, g1.2, hok.2.2⟩
      rcases c with ⟨_, c1, c2⟩ | ⟨c, _⟩
      · refine ⟨?_, c2⟩
        rw [c1, cmp_at (m := t) (by omega) (by omega), g3, sca_self, hda, Int.sub_self]
        rfl
      · exact absurd ⟨hd, ha⟩ c
  · exact absurd ⟨hok, hb⟩ gb
/-- products are distributive over sums -/
theorem distr_out {a sa b sb c sc n t p ps r rs s ss u us o e : Int} (h1 : AddOut 1 a sa b sb n t 0) (h2 : MulOut a sa c sc p ps 0) (h3 : MulOut b sb c sc r rs 0) (h4 : MulOut n t c sc s ss 0) (h5 : AddOut 1 p ps r rs u us 0) (h6 : CmpOut s ss u us o e) : e = 0 ∧ o = 0 := by
  obtain ⟨⟨ha, hb⟩, s1, e1, t1⟩ := h1.ok rfl
  obtain ⟨⟨_, hc⟩, s2, l2, e2, t2⟩ := h2.ok rfl
  obtain ⟨_, s3, l3, e3, t3⟩ := h3.ok rfl
  obtain ⟨_, s4, l4, e4, t4⟩ := h4.ok rfl
  obtain ⟨_, s5, e5, t5⟩ := h5.ok rfl
  have hcs := hc.2.2.1
  have k1 : okN s ss := ⟨s4.1, s4.2, by have := ha.2.2.1; omega, by omega⟩
  have k2 : okN u us := ⟨s5.1, s5.2, by have := ha.2.2.1; omega, by omega⟩
  rcases h6 with ⟨_, h6, h7⟩ | ⟨h6, _⟩
  · refine ⟨h7, ?_⟩
    have hss : us = ss := by omega
    rw [h6, hss, cmp_same]
    have : s = u := by
      rw [e4, e1, e5, e2, e3]
      unfold sca
      rw [show max ps rs - ps = max sa sb - sa by omega, show max ps rs - rs = max sa sb - sb by omega]
      rw [Int.one_mul, Int.one_mul, Int.add_mul, Int.mul_right_comm, Int.mul_right_comm b]
    rw [this, Int.sub_self]
    rfl
  · exact absurd ⟨k1, k2⟩ h6
/-- Compare is an order -/
theorem order_out {a sa b sb c sc x y z u s e f g h i : Int} (h1 : CmpOut a sa b sb x e) (h2 : CmpOut b sb c sc y f) (h3 : CmpOut a sa c sc z g) (h4 : CmpOut b sb a sa u h) (h5 : CmpOut a sa a sa s i) :
    (e = 0 ∧ f = 0 ∧ g = 0 ∧ h = 0 ∧ u = -x ∧ i = 0 ∧ s = 0 ∧ (x > 0 ∨ y > 0 ∨ z ≤ 0) ∧ (x < 0 ∨ y < 0 ∨ 0 ≤ z) ∧ (0 ≤ x ∨ y > 0 ∨ z < 0)) ∨ ((e = 2 ∨ f = 2) ∧ (x = 0 ∧ e = 2 ∨ y = 0 ∧ f = 2)) := by
  rcases h1 with ⟨⟨ka, kb⟩, rfl, rfl⟩ | ⟨h1, rfl, rfl⟩
  · rcases h2 with ⟨⟨_, kc⟩, rfl, rfl⟩ | ⟨h2, rfl, rfl⟩
    · left
      rcases h3 with ⟨_, rfl, rfl⟩ | ⟨h3, _⟩
      · rcases h4 with ⟨_, rfl, rfl⟩ | ⟨h4, _⟩
        · rcases h5 with ⟨_, rfl, rfl⟩ | ⟨h5, _⟩
          · have m1 : sa ≤ max sa (max sb sc) := by omega
            have m2 : sb ≤ max sa (max sb sc) := by omega
            have m3 : sc ≤ max sa (max sb sc) := by omega
            rw [cmp_at m1 m2, cmp_at m2 m3, cmp_at m1 m3, cmp_at m2 m1, cmp_at m1 m1]
            obtain ⟨o1, o2, o3, o4, o5⟩ := orders (sca a sa (max sa (max sb sc))) (sca b sb (max sa (max sb sc))) (sca c sc (max sa (max sb sc)))
            exact ⟨rfl, rfl, rfl, rfl, o1, rfl, o2, o3, o4, o5⟩
          · exact absurd ⟨ka, ka⟩ h5
        · exact absurd ⟨kb, ka⟩ h4
      · exact absurd ⟨ka, kc⟩ h3
    · right
      exact ⟨.inr rfl, .inr ⟨rfl, rfl⟩⟩
  · right
    exact ⟨.inl rfl, .inl ⟨rfl, rfl⟩⟩
theorem CmpOut.range {a sa b sb k e : Int} (h : CmpOut a sa b sb k e) : -1 ≤ k ∧ k ≤ 1 := by
  rcases h with ⟨_, rfl, _⟩ | ⟨_, rfl, _⟩
  · exact sgn_range _
  · decide
end Go.Proofs.YtcifakhpggoebabGreatDoor
