/- What is right stays so (mathematics: no program). -/
import Derived.Test.YtbpdnaiackfdmaaMetMath2
namespace MetMath
set_option linter.unusedVariables false
set_option linter.unusedSimpArgs false

/-- Right, as an inequality's Prop; golden is as it was at first. -/
def Vl (n : Int) : Prop := 0 ≤ n ∧ n ≤ 281474976710655
def SR (x : Sl) : Prop := (0 ≤ x.s ∧ x.s < 6) ∧ Vl x.v ∧ (0 ≤ x.b ∧ x.b ≤ 512) ∧ (x.b = 0 ∨ x.s = 3) ∧ (x.v = 0 ∨ x.s = 2 ∨ x.s = 3 ∨ x.s = 4)
def MR (m : Mt) : Prop := m.a = ⟨4, 0, 0⟩ ∧ SR m.b ∧ SR m.c ∧ Vl m.flo ∧ Vl m.cur ∧ Vl m.int
  ∧ ((m.act = 0 ∧ m.b.s ≠ 3 ∧ m.c.s ≠ 3) ∨ (m.act = 1 ∧ (m.b.s = 3 ∨ m.b.s = 4) ∧ m.c.s ≠ 3) ∨ (m.act = 2 ∧ (m.c.s = 3 ∨ m.c.s = 4) ∧ m.b.s ≠ 3))
theorem SR.right {x : Sl} (h : SR x) : x.right = true := by
  obtain ⟨⟨h1, h2⟩, ⟨h3, h4⟩, ⟨h5, h6⟩, h7, h8⟩ := h
  simp only [Sl.right, stOk, val, Bool.and_eq_true, Bool.or_eq_true, decide_eq_true_eq, beq_iff_eq]
  refine ⟨⟨⟨⟨⟨h1, h2⟩, h3, h4⟩, h5, h6⟩, h7⟩, ?_⟩
  rcases h8 with h | h | h | h
  · exact Or.inl (Or.inl (Or.inl h))
  · exact Or.inl (Or.inl (Or.inr h))
  · exact Or.inl (Or.inr h)
  · exact Or.inr h
theorem MR.right {m : Mt} (h : MR m) : m.right = true := by
  obtain ⟨⟨a0, a1, a2⟩, b, c, act, flo, cur, int⟩ := m
  obtain ⟨h1, h2, h3, ⟨h4, h5⟩, ⟨h6, h7⟩, ⟨h8, h9⟩, h10⟩ := h
  simp only [Sl.mk.injEq] at h1
  obtain ⟨rfl, rfl, rfl⟩ := h1
  simp only at h4 h5 h6 h7 h8 h9 h10
  have hb := h2.right
  have hc := h3.right
  simp only at hb hc
  rcases h10 with ⟨rfl, hb3, hc3⟩ | ⟨rfl, hb3, hc3⟩ | ⟨rfl, hc3, hb3⟩
  · have hg : (⟨4, 0, 0⟩ : Sl).right = true := by decide
    simp [Mt.right, isS, val, hg, hb, hc, hb3, hc3, h4, h5, h6, h7, h8, h9, Mt.get]
  · rcases hb3 with hb3 | hb3 <;> simp [Mt.right, isS, val, hb, hc, hb3, hc3, h4, h5, h6, h7, h8, h9, Mt.get] <;> decide
  · rcases hc3 with hc3 | hc3 <;> simp [Mt.right, isS, val, hb, hc, hb3, hc3, h4, h5, h6, h7, h8, h9, Mt.get] <;> decide
theorem MR.new : MR Mt.new := by
  refine ⟨rfl, ?_, ?_, ?_, ?_, ?_, Or.inl ⟨rfl, by decide, by decide⟩⟩ <;> simp [SR, Vl, Mt.new]
/-- The law's test of the slot on trial. -/
theorem MR.trial {m : Mt} (h : MR m) : (m.trial.2 = true → m.trial.1 = m.act ∧ m.act ≠ 0 ∧ (m.get m.act).s = 3) ∧ (m.trial.2 = false → m.trial.1 = 0 ∧ (m.get m.act).s = 4) ∧ (m.act = 0 ∨ m.act = 1 ∨ m.act = 2) := by
  obtain ⟨⟨a0, a1, a2⟩, b, c, act, flo, cur, int⟩ := m
  obtain ⟨h1, h2, h3, h4, h6, h8, h10⟩ := h
  simp only [Sl.mk.injEq] at h1
  obtain ⟨rfl, rfl, rfl⟩ := h1
  simp only at h10
  rcases h10 with ⟨rfl, hb3, hc3⟩ | ⟨rfl, hb3, hc3⟩ | ⟨rfl, hc3, hb3⟩
  · simp [Mt.trial, Mt.get, hb3, hc3]
  · rcases hb3 with hb3 | hb3 <;> simp [Mt.trial, Mt.get, hb3, hc3]
  · rcases hc3 with hc3 | hc3 <;> simp [Mt.trial, Mt.get, hb3, hc3]
theorem MR.ways {m : Mt} (h : MR m) : (m.trial = (1, true) ∧ m.act = 1) ∨ (m.trial = (2, true) ∧ m.act = 2) ∨ (m.trial = (0, false) ∧ m.act = 0) ∨ (m.trial = (0, false) ∧ m.act = 1 ∧ m.b.s = 4) ∨ (m.trial = (0, false) ∧ m.act = 2 ∧ m.c.s = 4) := by
  obtain ⟨⟨a0, a1, a2⟩, b, c, act, flo, cur, int⟩ := m
  obtain ⟨h1, h2, h3, h4, h6, h8, h10⟩ := h
  simp only [Sl.mk.injEq] at h1
  obtain ⟨rfl, rfl, rfl⟩ := h1
  simp only at h10
  rcases h10 with ⟨rfl, hb3, hc3⟩ | ⟨rfl, hb3, hc3⟩ | ⟨rfl, hc3, hb3⟩
  · simp [Mt.trial, hb3, hc3]
  · rcases hb3 with hb3 | hb3 <;> simp [Mt.trial, hb3, hc3]
  · rcases hc3 with hc3 | hc3 <;> simp [Mt.trial, hb3, hc3]
theorem SR.bad : SR ⟨5, 0, 0⟩ := by simp [SR, Vl]
theorem SR.write : SR ⟨1, 0, 0⟩ := by simp [SR, Vl]
theorem SR.empty : SR ⟨0, 0, 0⟩ := by simp [SR, Vl]
theorem SR.stage {v : Int} (h : Vl v) : SR ⟨2, v, 0⟩ := by simpa [SR, Vl] using h
theorem SR.conf {v : Int} (h : Vl v) : SR ⟨4, v, 0⟩ := by simpa [SR, Vl] using h
theorem SR.trial {v b : Int} (h : Vl v) (h0 : 0 ≤ b) (h1 : b ≤ 512) : SR ⟨3, v, b⟩ := by simp [SR]; exact ⟨h, h0, h1⟩
theorem SR.val {x : Sl} (h : SR x) : Vl x.v := h.2.1
theorem Vl.max {a b : Int} (ha : Vl a) (hb : Vl b) : Vl (max a b) := by simp only [Vl] at *; omega
/-- How the active slot and those on trial stand together. -/
def AR (act b c : Int) : Prop := (act = 0 ∧ b ≠ 3 ∧ c ≠ 3) ∨ (act = 1 ∧ (b = 3 ∨ b = 4) ∧ c ≠ 3) ∨ (act = 2 ∧ (c = 3 ∨ c = 4) ∧ b ≠ 3)
theorem MR.mk' {b0 b1 b2 c0 c1 c2 act flo cur int : Int} (hb : SR ⟨b0, b1, b2⟩) (hc : SR ⟨c0, c1, c2⟩) (hf : Vl flo) (hu : Vl cur) (hn : Vl int) (ha : AR act b0 c0) : MR ⟨⟨4, 0, 0⟩, ⟨b0, b1, b2⟩, ⟨c0, c1, c2⟩, act, flo, cur, int⟩ := ⟨rfl, hb, hc, hf, hu, hn, ha⟩
theorem rule_right (m : Mt) (k i v : Int) (x : Mt) (hk : k ≤ 13) (h : MR m) (hv : Vl v) (hi : (k < 8 ∨ 11 < k) → i = 0 ∨ i = 1 ∨ i = 2) (e : m.rule k i v = some (true, x)) : MR x ∧ m.flo ≤ x.flo := by
  obtain ⟨⟨a0, a1, a2⟩, ⟨b0, b1, b2⟩, ⟨c0, c1, c2⟩, act, flo, cur, int⟩ := m
  obtain ⟨h1, hb, hc, hf, hu, hn, ha⟩ := h
  simp only [Sl.mk.injEq] at h1
  obtain ⟨rfl, rfl, rfl⟩ := h1
  have ha : AR act b0 c0 := ha
  simp only at hb hc hf hu hn
  have hk0 : ¬ k < 1 := fun hh => by rw [rule_hi (fun _ => by omega) (Or.inl hh)] at e; cases e
  have hkk : k = 1 ∨ k = 2 ∨ k = 3 ∨ k = 4 ∨ k = 5 ∨ k = 6 ∨ k = 7 ∨ k = 8 ∨ k = 9 ∨ k = 10 ∨ k = 11 ∨ k = 12 ∨ k = 13 := by omega
  have hv0 : 0 ≤ v := hv.1
  have V0 : Vl 0 := by simp [Vl]
  rcases hkk with rfl | rfl | rfl | rfl | rfl | rfl | rfl | rfl | rfl | rfl | rfl | rfl | rfl
  · rcases hi (by omega) with rfl | rfl | rfl <;> simp [Mt.rule, Mt.idle, Mt.is, Mt.get, Mt.put] at e
    · obtain ⟨h1, rfl⟩ := e
      exact ⟨MR.mk' SR.write hc hf hu hn (by unfold AR at ha ⊢; omega), Int.le_refl _⟩
    · obtain ⟨h1, rfl⟩ := e
      exact ⟨MR.mk' hb SR.write hf hu hn (by unfold AR at ha ⊢; omega), Int.le_refl _⟩
  · rcases hi (by omega) with rfl | rfl | rfl <;> simp [Mt.rule, Mt.is, Mt.get, Mt.put] at e
    · obtain ⟨h1, rfl⟩ := e
      exact ⟨MR.mk' (SR.stage hv) hc hf hu hn (by unfold AR at ha ⊢; omega), Int.le_refl _⟩
    · obtain ⟨h1, rfl⟩ := e
      exact ⟨MR.mk' hb (SR.stage hv) hf hu hn (by unfold AR at ha ⊢; omega), Int.le_refl _⟩
  · rcases hi (by omega) with rfl | rfl | rfl <;> simp [Mt.rule, Mt.is, Mt.get, Mt.put, Mt.trial] at e
    · obtain ⟨⟨⟨h1, h2⟩, h3⟩, rfl⟩ := e
      have h4 : b0 ≠ 3 ∧ c0 ≠ 3 := by
        refine ⟨by omega, fun hh => ?_⟩
        simp [hh, h1] at h3
      exact ⟨MR.mk' (SR.trial hb.val hv0 h2) hc hf hu hn (by unfold AR at ha ⊢; omega), Int.le_refl _⟩
    · obtain ⟨⟨⟨h1, h2⟩, h3⟩, rfl⟩ := e
      have h4 : b0 ≠ 3 ∧ c0 ≠ 3 := by
        refine ⟨fun hh => ?_, by omega⟩
        simp [hh, h1] at h3
      exact ⟨MR.mk' hb (SR.trial hc.val hv0 h2) hf hu hn (by unfold AR at ha ⊢; omega), Int.le_refl _⟩
  · rcases hi (by omega) with rfl | rfl | rfl <;> simp [Mt.rule, Mt.is, Mt.get, Mt.put] at e
    · obtain ⟨h1, rfl⟩ := e
      exact ⟨MR.mk' (SR.conf hb.val) hc (hf.max hb.val) hu hn (by unfold AR at ha ⊢; omega), by simp only; omega⟩
    · obtain ⟨h1, rfl⟩ := e
      exact ⟨MR.mk' hb (SR.conf hc.val) (hf.max hc.val) hu hn (by unfold AR at ha ⊢; omega), by simp only; omega⟩
  · rcases hi (by omega) with rfl | rfl | rfl <;> simp [Mt.rule, Mt.is, Mt.get, Mt.put, Mt.spoil, isS] at e
    · obtain ⟨h1, rfl⟩ := e
      split
      · exact ⟨MR.mk' SR.bad hc hf hu hn (by unfold AR at ha ⊢; omega), Int.le_refl _⟩
      · exact ⟨MR.mk' SR.bad hc hf hu hn (by unfold AR at ha ⊢; omega), Int.le_refl _⟩
    · obtain ⟨h1, rfl⟩ := e
      split
      · exact ⟨MR.mk' hb SR.bad hf hu hn (by unfold AR at ha ⊢; omega), Int.le_refl _⟩
      · exact ⟨MR.mk' hb SR.bad hf hu hn (by unfold AR at ha ⊢; omega), Int.le_refl _⟩
  · rcases hi (by omega) with rfl | rfl | rfl <;> simp [Mt.rule, Mt.idle, Mt.is, Mt.get, Mt.put] at e
    · obtain ⟨h1, rfl⟩ := e
      exact ⟨MR.mk' SR.empty hc hf hu hn (by unfold AR at ha ⊢; omega), Int.le_refl _⟩
    · obtain ⟨h1, rfl⟩ := e
      exact ⟨MR.mk' hb SR.empty hf hu hn (by unfold AR at ha ⊢; omega), Int.le_refl _⟩
  · have hbt : (b0 = 3 ∧ c0 ≠ 3 ∧ act = 1) ∨ (b0 ≠ 3 ∧ c0 = 3 ∧ act = 2) ∨ (b0 ≠ 3 ∧ c0 ≠ 3) := by simp only [AR] at ha; omega
    rcases hbt with ⟨rfl, h5, rfl⟩ | ⟨h5, rfl, rfl⟩ | ⟨h5, h6⟩
    · rcases hi (by omega) with rfl | rfl | rfl <;> simp [Mt.rule, Mt.boots, Mt.is, Mt.get, Mt.put, Mt.trial, Mt.spoil, isS] at e
      · subst e
        exact ⟨MR.mk' SR.bad hc hf hu hn (by unfold AR at ha ⊢; omega), Int.le_refl _⟩
      · obtain ⟨h1, rfl⟩ := e
        exact ⟨MR.mk' SR.bad hc hf hu hn (by unfold AR at ha ⊢; omega), Int.le_refl _⟩
    · rcases hi (by omega) with rfl | rfl | rfl <;> simp [Mt.rule, Mt.boots, Mt.is, Mt.get, Mt.put, Mt.trial, Mt.spoil, isS, h5] at e
      · subst e
        exact ⟨MR.mk' hb SR.bad hf hu hn (by unfold AR at ha ⊢; omega), Int.le_refl _⟩
      · obtain ⟨h1, rfl⟩ := e
        exact ⟨MR.mk' hb SR.bad hf hu hn (by unfold AR at ha ⊢; omega), Int.le_refl _⟩
    · rcases hi (by omega) with rfl | rfl | rfl <;> simp [Mt.rule, Mt.boots, Mt.is, Mt.get, Mt.put, Mt.trial, Mt.spoil, isS, h5, h6] at e
      · subst e
        exact ⟨MR.mk' hb hc hf hu hn (by unfold AR at ha ⊢; omega), Int.le_refl _⟩
      · obtain ⟨h1, rfl⟩ := e
        exact ⟨MR.mk' hb hc hf hu hn (by unfold AR at ha ⊢; omega), Int.le_refl _⟩
      · obtain ⟨h1, rfl⟩ := e
        exact ⟨MR.mk' hb hc hf hu hn (by unfold AR at ha ⊢; omega), Int.le_refl _⟩
  · simp [Mt.rule] at e
    obtain ⟨h1, rfl⟩ := e
    exact ⟨MR.mk' hb hc hv hu hn ha, Int.le_of_lt h1⟩
  · simp [Mt.rule] at e
    subst e
    exact ⟨MR.mk' hb hc hf hv hn ha, Int.le_refl _⟩
  · simp [Mt.rule] at e
    obtain ⟨h1, rfl⟩ := e
    exact ⟨MR.mk' hb hc hf hu hv ha, Int.le_refl _⟩
  · simp [Mt.rule] at e
    obtain ⟨h1, rfl⟩ := e
    exact ⟨MR.mk' hb hc hf hu V0 ha, Int.le_refl _⟩
  · rcases hi (by omega) with rfl | rfl | rfl <;> simp [Mt.rule, Mt.is, Mt.get, Mt.put] at e
    · obtain ⟨h1, rfl⟩ := e
      exact ⟨MR.mk' (SR.conf hv) hc hf hu hn (by unfold AR at ha ⊢; omega), Int.le_refl _⟩
    · obtain ⟨h1, rfl⟩ := e
      exact ⟨MR.mk' hb (SR.conf hv) hf hu hn (by unfold AR at ha ⊢; omega), Int.le_refl _⟩
  · have hact : act = 0 ∨ act = 1 ∨ act = 2 := by simp only [AR] at ha; omega
    rcases hact with rfl | rfl | rfl
    · simp [Mt.rule] at e
    · rcases hi (by omega) with rfl | rfl | rfl <;> simp [Mt.rule, Mt.boots, Mt.is, Mt.get, Mt.put, Mt.spoil, isS] at e
      · subst e
        exact ⟨MR.mk' SR.bad hc hf hu hn (by unfold AR at ha ⊢; omega), Int.le_refl _⟩
      · obtain ⟨h1, rfl⟩ := e
        exact ⟨MR.mk' SR.bad hc hf hu hn (by unfold AR at ha ⊢; omega), Int.le_refl _⟩
    · rcases hi (by omega) with rfl | rfl | rfl <;> simp [Mt.rule, Mt.boots, Mt.is, Mt.get, Mt.put, Mt.spoil, isS] at e
      · subst e
        exact ⟨MR.mk' hb SR.bad hf hu hn (by unfold AR at ha ⊢; omega), Int.le_refl _⟩
      · obtain ⟨h1, rfl⟩ := e
        exact ⟨MR.mk' hb SR.bad hf hu hn (by unfold AR at ha ⊢; omega), Int.le_refl _⟩
theorem doo_right (m : Mt) (ok : Bool) (k i v : Int) (x : Mt) (er : Int) (hk : k ≤ 13) (h : MR m) (hv : ok = true → Vl v) (e : m.doo ok k i v = (x, er)) : MR x ∧ m.flo ≤ x.flo ∧ (er = 0 ∨ x = m) := by
  unfold Mt.doo at e
  split at e
  · simp only [Prod.mk.injEq] at e
    rw [← e.1]
    exact ⟨h, Int.le_refl _, Or.inr rfl⟩
  · rename_i hn
    have hi : (k < 8 ∨ 11 < k) → i = 0 ∨ i = 1 ∨ i = 2 := fun h => by
      have ho : ofS k = true := by simp only [ofS, Bool.or_eq_true, decide_eq_true_eq]; exact h
      refine isS_is.1 ?_
      cases hs : isS i with
      | true => rfl
      | false => exact absurd (by rw [ho, hs]; simp) hn
    have hok : ok = true := by
      cases ok with
      | true => rfl
      | false => exact absurd (by simp) hn
    split at e
    · simp only [Prod.mk.injEq] at e
      rw [← e.1]
      exact ⟨h, Int.le_refl _, Or.inr rfl⟩
    · simp only [Prod.mk.injEq] at e
      rw [← e.1]
      exact ⟨h, Int.le_refl _, Or.inr rfl⟩
    · rename_i y ey
      simp only [Prod.mk.injEq] at e
      rw [← e.1]
      have := rule_right m k i v y hk h (hv hok) hi ey
      exact ⟨this.1, this.2, Or.inl e.2.symm⟩
end MetMath
