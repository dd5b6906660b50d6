/- What geo answers is where the list has it: mathematics, no program in it. -/
import Derived.Test.YtiakbdekleaaoaaDoorGeoMath2
namespace Go.Proofs.YtiakbdekleaaoaaDoor.GeoMath
set_option linter.unusedVariables false

/-- What the statement's sector asks. -/
def secB (n e want : Int) : Bool := if want < 0 then decide (n = 0 ∧ e = 2) else decide (n = want ∧ e = 0)
theorem secB_no {n e want : Int} (h : want = -1) (hn : n = 0) (he : e = 2) : secB n e want = true := by
  subst h; subst hn; subst he; decide
theorem secB_yes {n e want : Int} (h : 0 ≤ want) (hn : n = want) (he : e = 0) : secB n e want = true := by
  rw [secB, if_neg (by omega)]
  exact decide_eq_true ⟨hn, he⟩
structure Dim (g : Gm) (W S : Nat) : Prop where
  r : Rt g
  w : g.d + g.p = (W : Int)
  s : g.s = (S : Int)
theorem Dim.W3 {g : Gm} {W S : Nat} (h : Dim g W S) : 3 ≤ W := by have := h.r.d1; have := h.r.p2; have := h.w; omega
theorem Dim.S1 {g : Gm} {W S : Nat} (h : Dim g W S) : 1 ≤ S := by have := h.r.s1; have := h.s; omega
theorem Dim.slot {g : Gm} {W S : Nat} (h : Dim g W S) : slot g = ((W * S : Nat) : Int) := by rw [slot_yes h.r, h.w, h.s, Int.natCast_mul]
theorem ask_two {g : Gm} {L : List Sp} (hr : Rt g) (h : ¬ askF g L = 0) : askF g L = 2 := by
  rcases ask_cases g L with ⟨h1, _⟩ | ⟨_, _, h2⟩ | ⟨_, _, h2⟩
  · rw [(right_iff g).2 hr] at h1; cases h1
  · exact h2
  · exact absurd h2 h
theorem ask_ok {g : Gm} {L : List Sp} (hr : Rt g) (h : okAll L = true) : askF g L = 0 := by
  rw [askF, if_pos ((right_iff g).2 hr), if_pos h]
theorem sec_ok {g : Gm} {W S : Nat} (D : Dim g W S) {a b c r : Int} (h : IsAt W S (cnt W S) ⟨0, a, b, c⟩ r) : secB (sect g a b c) (sectQ g a b c) r = true := by
  have hW := D.W3
  have hS := D.S1
  rcases h with ⟨h1, h2⟩ | ⟨j, h1, h2, h3, h4⟩
  · have hq : ¬ sectQ g a b c = 0 := fun hq => by
      have hi := (sectQ_zero g a b c).1 hq
      have x1 := hi.a0; have x2 := hi.a2; have x3 := hi.b0; have x4 := hi.bs; have x5 := hi.c0; have x6 := hi.cw
      rw [D.s] at x4
      rw [D.w] at x6
      have l1 : a.toNat < 3 := by omega
      have l2 : c.toNat < W := by omega
      have l3 : b.toNat < S := by omega
      have hp := pl_slot l1 l2 l3
      have hl : a.toNat * (W * S) + c.toNat * S + b.toNat < cnt W S := by
        have m1 : (a.toNat + 1) * (W * S) ≤ 3 * (W * S) := Nat.mul_le_mul_right _ l1
        have m2 : (c.toNat + 1) * S ≤ W * S := Nat.mul_le_mul_right _ l2
        rw [Nat.add_mul] at m1 m2
        rw [cnt]
        omega
      refine h2 _ hl ?_
      rw [hp, Int.toNat_of_nonneg x1, Int.toNat_of_nonneg x3, Int.toNat_of_nonneg x5]
    exact secB_no h1 (if_neg hq) (ask_two D.r hq)
  · rcases pl_cases (by omega) (by omega) h1 with ⟨a', b', c', l1, l2, l3, e, hp⟩ | ⟨a', b', c', l1, l2, l3, e, hp⟩ | ⟨a', l1, e, hp⟩
    · rw [hp] at h3
      cases h3
      have hi : SIn g (a' : Nat) (b' : Nat) (c' : Nat) := ⟨D.r, by omega, by omega, by omega, by rw [D.s]; omega, by omega, by rw [D.w]; omega⟩
      have hq := (sectQ_zero g _ _ _).2 hi
      refine secB_yes (by omega) ?_ hq
      rw [sect, if_pos hq, D.slot, D.s, h2, e]
      simp only [Int.natCast_add, Int.natCast_mul]
    · rw [hp] at h3; cases h3
    · rw [hp] at h3; cases h3
theorem half_ok {g : Gm} {W S : Nat} (D : Dim g W S) {a b r : Int} (h : IsAt W S (cnt W S) ⟨1, a, b, 0⟩ r) : secB (half g a b) (halfQ g a b) r = true := by
  have hW := D.W3
  have hS := D.S1
  rcases h with ⟨h1, h2⟩ | ⟨j, h1, h2, h3, h4⟩
  · have hq : ¬ halfQ g a b = 0 := fun hq => by
      obtain ⟨⟨x1, x2⟩, x3, x4⟩ := (okAll2 _ _).1 (ask_zero hq).2
      dsimp only at x1 x2 x3 x4
      have hp := pl_log (W := W) (S := S) (a := a.toNat) (b := b.toNat) (c := 0) (by omega) (by omega) (by omega)
      refine h2 _ (by rw [cnt]; omega) (hp.trans ?_)
      rw [Int.toNat_of_nonneg x1, Int.toNat_of_nonneg x3]
      rfl
    exact secB_no h1 (if_neg hq) (ask_two D.r hq)
  · rcases pl_cases (by omega) (by omega) h1 with ⟨a', b', c', l1, l2, l3, e, hp⟩ | ⟨a', b', c', l1, l2, l3, e, hp⟩ | ⟨a', l1, e, hp⟩
    · rw [hp] at h3; cases h3
    · rw [hp] at h3
      simp only [Pl.mk.injEq] at h3
      obtain ⟨_, ha, hb, hc⟩ := h3
      have hq : halfQ g a b = 0 := ask_ok D.r ((okAll2 _ _).2 ⟨⟨by show 0 ≤ a; omega, by show a ≤ 1; omega⟩, by show 0 ≤ b; omega, by show b ≤ 1; omega⟩)
      refine secB_yes (by omega) ?_ hq
      rw [half, if_pos hq, log, D.slot, h2, e]
      omega
    · rw [hp] at h3; cases h3
theorem tal_ok {g : Gm} {W S : Nat} (D : Dim g W S) {a r : Int} (h : IsAt W S (cnt W S) ⟨2, a, 0, 0⟩ r) : secB (talA g a) (talQ g a) r = true := by
  have hW := D.W3
  have hS := D.S1
  rcases h with ⟨h1, h2⟩ | ⟨j, h1, h2, h3, h4⟩
  · have hq : ¬ talQ g a = 0 := fun hq => by
      obtain ⟨x1, x2⟩ := (okAll1 _).1 (ask_zero hq).2
      dsimp only at x1 x2
      have hp := pl_tal (W := W) (S := S) (a := a.toNat)
      refine h2 _ (by rw [cnt]; omega) (hp.trans ?_)
      rw [Int.toNat_of_nonneg x1]
    exact secB_no h1 (if_neg hq) (ask_two D.r hq)
  · rcases pl_cases (by omega) (by omega) h1 with ⟨a', b', c', l1, l2, l3, e, hp⟩ | ⟨a', b', c', l1, l2, l3, e, hp⟩ | ⟨a', l1, e, hp⟩
    · rw [hp] at h3; cases h3
    · rw [hp] at h3; cases h3
    · rw [hp] at h3
      simp only [Pl.mk.injEq] at h3
      obtain ⟨_, ha, _, _⟩ := h3
      have hq : talQ g a = 0 := ask_ok D.r ((okAll1 _).2 ⟨by show 0 ≤ a; omega, by show a ≤ 1; omega⟩)
      refine secB_yes (by omega) ?_ hq
      rw [talA, if_pos hq, tal, log, D.slot, h2, e]
      omega
/-- What Of answers: of a slot's sector what lies there, of others zeros. -/
theorem of_cases {g : Gm} {W S : Nat} (D : Dim g W S) (n : Int) :
    ((n < 0 ∨ ((cnt W S : Nat) : Int) ≤ n) ∧ ofA g n = 0 ∧ ofB g n = 0 ∧ ofC g n = 0 ∧ ofK g n = false) ∨
    ∃ k : Nat, n = (k : Int) ∧ k < cnt W S ∧ ((¬ (pl W S k).w = 0 ∧ ofA g n = 0 ∧ ofB g n = 0 ∧ ofC g n = 0 ∧ ofK g n = false) ∨ (pl W S k = ⟨0, ofA g n, ofB g n, ofC g n⟩ ∧ ofK g n = true)) := by
  have hW := D.W3
  have hS := D.S1
  have hno : ¬ (0 ≤ n ∧ n < 3 * ((W * S : Nat) : Int)) → ofA g n = 0 ∧ ofB g n = 0 ∧ ofC g n = 0 ∧ ofK g n = false := fun h => by
    have hq : ¬ ofQ g n = 0 := fun hq => by
      obtain ⟨x1, x2⟩ := (okAll1 _).1 (ask_zero hq).2
      dsimp only at x1 x2
      rw [log, D.slot] at x2
      exact h ⟨x1, by omega⟩
    exact ⟨if_neg hq, if_neg hq, if_neg hq, decide_eq_false hq⟩
  by_cases h0 : n < 0 ∨ ((cnt W S : Nat) : Int) ≤ n
  · exact Or.inl ⟨h0, hno (by rw [cnt] at h0; omega)⟩
  · refine Or.inr ⟨n.toNat, by omega, by omega, ?_⟩
    by_cases h1 : n.toNat < 3 * (W * S)
    · refine Or.inr ?_
      have hq : ofQ g n = 0 := ask_ok D.r ((okAll1 _).2 ⟨by show 0 ≤ n; omega, by show n ≤ log g - 1; rw [log, D.slot]; omega⟩)
      obtain ⟨k, rfl⟩ : ∃ k : Nat, n = (k : Int) := ⟨n.toNat, by omega⟩
      rw [ofA, ofB, ofC, ofK, if_pos hq, if_pos hq, if_pos hq, D.slot, D.s, Int.toNat_natCast, pl, if_pos (by simpa using h1)]
      exact ⟨by simp only [Int.natCast_ediv, Int.natCast_emod], decide_eq_true hq⟩
    · refine Or.inl ⟨?_, hno (by omega)⟩
      rw [pl, if_neg h1]
      split <;> simp
end Go.Proofs.YtiakbdekleaaoaaDoor.GeoMath
