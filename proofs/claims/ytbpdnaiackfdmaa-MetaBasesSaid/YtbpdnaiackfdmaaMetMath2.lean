/- What a record may turn (mathematics: no program). -/
import Derived.Test.YtbpdnaiackfdmaaMetMath
namespace MetMath
set_option linter.unusedVariables false
set_option linter.unusedSimpArgs false

/-- How slot j's state may turn from a to b. -/
def Path (k act j a b v : Int) : Prop := a = b ∨ (b = 2 ∧ a = 1) ∨ (b = 3 ∧ a = 2 ∧ act = j) ∨ (b = 4 ∧ (a = 3 ∨ (k = 12 ∧ (a = 1 ∨ a = 5)))) ∨ ((b = 1 ∨ b = 0 ∨ b = 5) ∧ v = 0 ∧ act ≠ j)
def Paths (m x : Mt) (k : Int) : Prop := x.a.s = 4 ∧ Path k x.act 0 m.a.s x.a.s x.a.v ∧ Path k x.act 1 m.b.s x.b.s x.b.v ∧ Path k x.act 2 m.c.s x.c.s x.c.v
theorem Paths.same {m : Mt} {k : Int} (h : m.a.s = 4) : Paths m m k := ⟨h, Or.inl rfl, Or.inl rfl, Or.inl rfl⟩
theorem rule_hi {m : Mt} {k i v : Int} (h : 13 < k → k ≠ 110 ∧ k ≠ 111 ∧ ¬ (100 ≤ k ∧ k ≤ 105)) (hk : k < 1 ∨ 13 < k) : m.rule k i v = none := by
  unfold Mt.rule
  rw [if_neg (by omega), if_neg (by omega), if_neg (by omega), if_neg (by omega), if_neg (by omega), if_neg (by omega), if_neg (by omega), if_neg (by omega), if_neg (by omega), if_neg (by omega), if_neg (by omega), if_neg (by omega), if_neg (by omega), if_neg (by omega), if_neg (by omega),
    if_neg (by simp only [stOk, Bool.and_eq_true, decide_eq_true_eq]; omega)]
theorem rule_path (m : Mt) (k i v : Int) (x : Mt) (hk : k ≤ 13) (h0 : m.a.s = 4) (hi : (k < 8 ∨ 11 < k) → i = 0 ∨ i = 1 ∨ i = 2) (e : m.rule k i v = some (true, x)) : Paths m x k := by
  obtain ⟨⟨a0, a1, a2⟩, ⟨b0, b1, b2⟩, ⟨c0, c1, c2⟩, act, flo, cur, int⟩ := m
  simp only at h0
  subst h0
  have hk0 : ¬ k < 1 := fun hh => by rw [rule_hi (fun _ => by omega) (Or.inl hh)] at e; cases e
  have hkk : k = 1 ∨ k = 2 ∨ k = 3 ∨ k = 4 ∨ k = 5 ∨ k = 6 ∨ k = 7 ∨ k = 8 ∨ k = 9 ∨ k = 10 ∨ k = 11 ∨ k = 12 ∨ k = 13 := by omega
  rcases hkk with rfl | rfl | rfl | rfl | rfl | rfl | rfl | rfl | rfl | rfl | rfl | rfl | rfl
  case inr.inr.inr.inr.inr.inr.inr.inl => 
    simp [Mt.rule] at e; obtain ⟨h1, rfl⟩ := e; simp [Paths, Path]
  case inr.inr.inr.inr.inr.inr.inr.inr.inl => 
    simp [Mt.rule] at e; subst e; simp [Paths, Path]
  case inr.inr.inr.inr.inr.inr.inr.inr.inr.inl => 
    simp [Mt.rule] at e; obtain ⟨h1, rfl⟩ := e; simp [Paths, Path]
  case inr.inr.inr.inr.inr.inr.inr.inr.inr.inr.inl => 
    simp [Mt.rule] at e; obtain ⟨h1, rfl⟩ := e; simp [Paths, Path]
  case inr.inr.inr.inr.inr.inr.inl =>
    rcases hi (by omega) with rfl | rfl | rfl
    all_goals
      simp [Mt.rule, Mt.boots, Mt.is, Mt.get, Mt.trial] at e
      by_cases hb : b0 = 3
      · simp [hb, Mt.spoil, Mt.put, isS] at e <;> by_cases ha : act = 1 <;> simp [ha] at e
        all_goals
          first
            | (subst e; simp [Paths, Path]; omega)
            | (obtain ⟨h1, rfl⟩ := e; simp [Paths, Path]; omega)
            | (subst e; simp [Paths, Path, hb])
            | (obtain ⟨h1, rfl⟩ := e; simp [Paths, Path, hb])
      · by_cases hc : c0 = 3
        · simp [hb, hc, Mt.spoil, Mt.put, isS] at e <;> by_cases ha : act = 2 <;> simp [ha] at e
          all_goals
            first
              | (subst e; simp [Paths, Path]; omega)
              | (obtain ⟨h1, rfl⟩ := e; simp [Paths, Path]; omega)
              | (subst e; simp [Paths, Path, hc])
              | (obtain ⟨h1, rfl⟩ := e; simp [Paths, Path, hc])
        · simp [hb, hc] at e
          first
            | (subst e; simp [Paths, Path])
            | (obtain ⟨h1, rfl⟩ := e; simp [Paths, Path])
  case inr.inr.inr.inr.inr.inr.inr.inr.inr.inr.inr.inr =>
    by_cases ha1 : act = 1
    · subst ha1
      rcases hi (by omega) with rfl | rfl | rfl <;> simp [Mt.rule, Mt.boots, Mt.is, Mt.get, Mt.spoil, Mt.put, isS] at e
      · subst e; simp [Paths, Path]
      · obtain ⟨h1, rfl⟩ := e; simp [Paths, Path]
    · by_cases ha2 : act = 2
      · subst ha2
        rcases hi (by omega) with rfl | rfl | rfl <;> simp [Mt.rule, Mt.boots, Mt.is, Mt.get, Mt.spoil, Mt.put, isS] at e
        · subst e; simp [Paths, Path]
        · obtain ⟨h1, rfl⟩ := e; simp [Paths, Path]
      · have hs : act ≠ 0 → isS act = false := fun h => by
          simp only [isS, Bool.and_eq_false_iff, decide_eq_false_iff_not]; omega
        rcases hi (by omega) with rfl | rfl | rfl <;> simp [Mt.rule, Mt.boots, Mt.is, Mt.get] at e
        all_goals
          obtain ⟨h1, rfl⟩ := e
          simp [Paths, Path, Mt.spoil, hs (by first | exact h1 | exact h1.1 | exact h1.1.1)]
  case inr.inr.inr.inr.inl =>
    rcases hi (by omega) with rfl | rfl | rfl <;> simp [Mt.rule, Mt.is, Mt.get, Mt.put, Mt.spoil, isS] at e
    · by_cases ha : act = 1 <;> simp [ha] at e <;> obtain ⟨h1, rfl⟩ := e <;> simp [Paths, Path] <;> omega
    · by_cases ha : act = 2 <;> simp [ha] at e <;> obtain ⟨h1, rfl⟩ := e <;> simp [Paths, Path] <;> omega
  all_goals
    rcases hi (by omega) with rfl | rfl | rfl
    all_goals
      simp [Mt.rule, Mt.idle, Mt.is, Mt.get, Mt.put, Mt.trial, Mt.spoil, isS] at e
    all_goals
      first
        | (obtain ⟨h1, rfl⟩ := e; simp [Paths, Path]; omega)
        | (obtain ⟨h1, rfl⟩ := e; simp [Paths, Path, h1])
theorem Path.ways {k act j a b v : Int} (h : Path k act j a b v) (hn : a ≠ b) : (b = 2 ∧ a = 1) ∨ (b = 3 ∧ a = 2 ∧ act = j) ∨ (b = 4 ∧ a = 3) ∨ (b = 4 ∧ k = 12 ∧ a = 1) ∨ (b = 4 ∧ k = 12 ∧ a = 5) ∨ (b = 1 ∧ v = 0 ∧ act ≠ j) ∨ (b = 0 ∧ v = 0 ∧ act ≠ j) ∨ (b = 5 ∧ v = 0 ∧ act ≠ j) := by
  rcases h with h | h | h | ⟨h1, h2 | ⟨h3, h4 | h5⟩⟩ | ⟨h1 | h1 | h1, h4, h5⟩
  · exact absurd h hn
  · exact Or.inl h
  · exact Or.inr (Or.inl h)
  · exact Or.inr (Or.inr (Or.inl ⟨h1, h2⟩))
  · exact Or.inr (Or.inr (Or.inr (Or.inl ⟨h1, h3, h4⟩)))
  · exact Or.inr (Or.inr (Or.inr (Or.inr (Or.inl ⟨h1, h3, h5⟩))))
  · exact Or.inr (Or.inr (Or.inr (Or.inr (Or.inr (Or.inl ⟨h1, h4, h5⟩)))))
  · exact Or.inr (Or.inr (Or.inr (Or.inr (Or.inr (Or.inr (Or.inl ⟨h1, h4, h5⟩))))))
  · exact Or.inr (Or.inr (Or.inr (Or.inr (Or.inr (Or.inr (Or.inr ⟨h1, h4, h5⟩))))))
theorem doo_path (m : Mt) (ok : Bool) (k i v : Int) (hk : k ≤ 13) (h0 : m.a.s = 4) : Paths m (m.doo ok k i v).1 k := by
  unfold Mt.doo
  split
  · exact Paths.same h0
  · rename_i hn
    have hi : (k < 8 ∨ 11 < k) → i = 0 ∨ i = 1 ∨ i = 2 := fun h => by
      have ho : ofS k = true := by simp only [ofS, Bool.or_eq_true, decide_eq_true_eq]; exact h
      refine isS_is.1 ?_
      cases hs : isS i with
      | true => rfl
      | false => exact absurd (by rw [ho, hs]; simp) hn
    split
    · exact Paths.same h0
    · exact Paths.same h0
    · rename_i x e
      exact rule_path m k i v x hk h0 hi e
end MetMath
