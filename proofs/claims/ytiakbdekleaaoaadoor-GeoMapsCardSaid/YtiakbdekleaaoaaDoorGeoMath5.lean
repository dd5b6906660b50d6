/- GeoApart's mathematics: no program in it. -/
import Derived.Test.YtiakbdekleaaoaaDoorGeoMath4
namespace Go.Proofs.YtiakbdekleaaoaaDoor.GeoMath
set_option linter.unusedVariables false

/-- The sectors of slots seen ahead of slot a, stripe b, sector c. -/
def vis (W S a b c : Nat) (z : Int) : Bool := decide (0 ≤ z ∧ z.toNat < 3 * (W * S) ∧ (z.toNat / (W * S) < a ∨ (z.toNat / (W * S) = a ∧ (z.toNat % (W * S) % S < b ∨ (z.toNat % (W * S) % S = b ∧ z.toNat % (W * S) / S < c)))))
/-- .. of the log, q of them, and h of the tally. -/
def vlg (M q h : Nat) (z : Int) : Bool := decide ((0 ≤ z ∧ z < 3 * (M : Int) + q) ∨ (3 * (M : Int) + 16 ≤ z ∧ z < 3 * (M : Int) + 16 + h))
theorem vis_start (W S : Nat) (z : Int) : vis W S 0 0 0 z = false := decide_eq_false (by generalize z.toNat / (W * S) = A; generalize z.toNat % (W * S) % S = B; generalize z.toNat % (W * S) / S = C; omega)
theorem vis_div {W S a b c : Nat} (h1 : a < 3) (h2 : c < W) (h3 : b < S) : (a * (W * S) + c * S + b) / (W * S) = a ∧ (a * (W * S) + c * S + b) % (W * S) % S = b ∧ (a * (W * S) + c * S + b) % (W * S) / S = c ∧ a * (W * S) + c * S + b < 3 * (W * S) := by
  have h4 : c * S + b < W * S := by
    have : (c + 1) * S ≤ W * S := Nat.mul_le_mul_right _ h2
    rw [Nat.add_mul, Nat.one_mul] at this
    omega
  have h5 : a * (W * S) + c * S + b < 3 * (W * S) := by
    have : (a + 1) * (W * S) ≤ 3 * (W * S) := Nat.mul_le_mul_right _ h1
    rw [Nat.add_mul, Nat.one_mul] at this
    omega
  have e1 : (a * (W * S) + c * S + b) / (W * S) = a := by
    rw [Nat.add_assoc, Nat.mul_comm a, Nat.mul_add_div (by omega), Nat.div_eq_of_lt h4, Nat.add_zero]
  have e2 : (a * (W * S) + c * S + b) % (W * S) = c * S + b := by
    rw [Nat.add_assoc, Nat.mul_comm a, Nat.mul_add_mod, Nat.mod_eq_of_lt h4]
  refine ⟨e1, ?_, ?_, h5⟩
  · rw [e2, Nat.mul_comm c, Nat.mul_add_mod, Nat.mod_eq_of_lt h3]
  · rw [e2, Nat.mul_comm c, Nat.mul_add_div (by omega), Nat.div_eq_of_lt h3, Nat.add_zero]
theorem vis_new {W S a b c : Nat} (h1 : a < 3) (h2 : c < W) (h3 : b < S) : vis W S a b c ((a * (W * S) + c * S + b : Nat) : Int) = false := by
  obtain ⟨e1, e2, e3, e4⟩ := vis_div h1 h2 h3
  refine decide_eq_false ?_
  rw [Int.toNat_natCast, e1, e2, e3]
  omega
theorem vis_step {W S a b c : Nat} (h1 : a < 3) (h2 : c < W) (h3 : b < S) (z : Int) : vis W S a b (c + 1) z = (vis W S a b c z || decide (z = ((a * (W * S) + c * S + b : Nat) : Int))) := by
  obtain ⟨e1, e2, e3, e4⟩ := vis_div h1 h2 h3
  rw [vis, vis, ← Bool.decide_or]
  apply decide_eq_decide.2
  by_cases hz : z = ((a * (W * S) + c * S + b : Nat) : Int)
  · subst hz
    rw [Int.toNat_natCast, e1, e2, e3]
    omega
  · have hne : 0 ≤ z → ¬ (z.toNat / (W * S) = a ∧ z.toNat % (W * S) % S = b ∧ z.toNat % (W * S) / S = c) := fun h0 ⟨q1, q2, q3⟩ => hz (by
      have g1 := Nat.div_add_mod z.toNat (W * S)
      have g2 := Nat.div_add_mod (z.toNat % (W * S)) S
      rw [q1] at g1
      rw [q2, q3] at g2
      rw [Nat.mul_comm a, Nat.mul_comm c, Nat.add_assoc, g2, g1]
      omega)
    constructor
    · rintro ⟨g0, g1, g2⟩
      exact Or.inl ⟨g0, g1, by have := hne g0; omega⟩
    · rintro (⟨g0, g1, g2⟩ | g)
      · exact ⟨g0, g1, by omega⟩
      · exact absurd g hz
theorem vis_c {W S : Nat} (hW : 0 < W) (hS : 0 < S) (a b : Nat) (z : Int) : vis W S a b W z = vis W S a (b + 1) 0 z := by
  rw [vis, vis]
  apply decide_eq_decide.2
  have hl : z.toNat % (W * S) / S < W := Nat.div_lt_of_lt_mul (by rw [Nat.mul_comm S W]; exact Nat.mod_lt _ (Nat.mul_pos hW hS))
  revert hl
  generalize z.toNat / (W * S) = A; generalize z.toNat % (W * S) % S = B; generalize z.toNat % (W * S) / S = C
  intro hl
  omega
theorem vis_b {W S : Nat} (hS : 0 < S) (a : Nat) (z : Int) : vis W S a S 0 z = vis W S (a + 1) 0 0 z := by
  rw [vis, vis]
  apply decide_eq_decide.2
  have hl : z.toNat % (W * S) % S < S := Nat.mod_lt _ hS
  revert hl
  generalize z.toNat / (W * S) = A; generalize z.toNat % (W * S) % S = B; generalize z.toNat % (W * S) / S = C
  intro hl
  omega
theorem vis_a {W S : Nat} (hW : 0 < W) (hS : 0 < S) (z : Int) : vis W S 3 0 0 z = vlg (W * S) 0 0 z := by
  rw [vis, vlg]
  apply decide_eq_decide.2
  constructor
  · rintro ⟨g0, g1, g2⟩
    left
    omega
  · rintro (⟨g0, g1⟩ | ⟨g0, g1⟩)
    · have hl : z.toNat / (W * S) < 3 := Nat.div_lt_of_lt_mul (by rw [Nat.mul_comm (W * S) 3]; omega)
      exact ⟨g0, by omega, Or.inl hl⟩
    · omega
theorem vlg_q {M q h : Nat} (hq : q < 16) (z : Int) : vlg M (q + 1) h z = (vlg M q h z || decide (z = 3 * (M : Int) + q)) := by
  rw [vlg, vlg, ← Bool.decide_or]
  apply decide_eq_decide.2
  omega
theorem vlg_qnew {M q h : Nat} (hq : q < 16) : vlg M q h (3 * (M : Int) + q) = false := decide_eq_false (by omega)
theorem vlg_h {M q h : Nat} (z : Int) : vlg M q (h + 1) z = (vlg M q h z || decide (z = 3 * (M : Int) + 16 + h)) := by
  rw [vlg, vlg, ← Bool.decide_or]
  apply decide_eq_decide.2
  omega
theorem vlg_hnew {M q h : Nat} (hq : q ≤ 16) : vlg M q h (3 * (M : Int) + 16 + h) = false := decide_eq_false (by omega)
theorem vlg_all {M : Nat} {z : Int} (h0 : 0 ≤ z) (h1 : z < 3 * (M : Int) + 18) : vlg M 16 2 z = true := decide_eq_true (by omega)
/-! What is answered of places that there are. -/
theorem sect_at {g : Gm} {W S : Nat} (D : Dim g W S) {a b c : Nat} (h1 : a < 3) (h2 : c < W) (h3 : b < S) : sect g a b c = ((a * (W * S) + c * S + b : Nat) : Int) ∧ sectQ g a b c = 0 := by
  have hi : SIn g (a : Nat) (b : Nat) (c : Nat) := ⟨D.r, by omega, by omega, by omega, by rw [D.s]; omega, by omega, by rw [D.w]; omega⟩
  have hq := (sectQ_zero g _ _ _).2 hi
  refine ⟨?_, hq⟩
  rw [sect, if_pos hq, D.slot, D.s]
  simp only [Int.natCast_add, Int.natCast_mul]
theorem of_at {g : Gm} {W S : Nat} (D : Dim g W S) {a b c : Nat} (h1 : a < 3) (h2 : c < W) (h3 : b < S) :
    ofA g ((a * (W * S) + c * S + b : Nat) : Int) = a ∧ ofB g ((a * (W * S) + c * S + b : Nat) : Int) = b ∧ ofC g ((a * (W * S) + c * S + b : Nat) : Int) = c ∧ ofK g ((a * (W * S) + c * S + b : Nat) : Int) = true := by
  have hp := pl_slot h1 h2 h3
  obtain ⟨_, _, _, e4⟩ := vis_div h1 h2 h3
  rcases of_cases D ((a * (W * S) + c * S + b : Nat) : Int) with ⟨h, _⟩ | ⟨k, e, hk, ⟨hw, _⟩ | ⟨hq, h4⟩⟩
  · rw [cnt] at h; omega
  · have e : a * (W * S) + c * S + b = k := by omega
    subst e
    rw [hp] at hw
    exact absurd rfl hw
  · have e : a * (W * S) + c * S + b = k := by omega
    subst e
    rw [hp] at hq
    simp only [Pl.mk.injEq] at hq
    exact ⟨hq.2.1.symm, hq.2.2.1.symm, hq.2.2.2.symm, h4⟩
theorem half_at {g : Gm} {W S : Nat} (D : Dim g W S) {h c : Nat} (h1 : h < 2) (h2 : c < 2) : half g h c = 3 * ((W * S : Nat) : Int) + ((h * 8 + c * 4 : Nat) : Int) ∧ halfQ g h c = 0 := by
  have hq : halfQ g h c = 0 := ask_ok D.r ((okAll2 _ _).2 ⟨⟨by show (0 : Int) ≤ h; omega, by show (h : Int) ≤ 1; omega⟩, by show (0 : Int) ≤ c; omega, by show (c : Int) ≤ 1; omega⟩)
  refine ⟨?_, hq⟩
  rw [half, if_pos hq, log, D.slot]
  omega
theorem tal_at {g : Gm} {W S : Nat} (D : Dim g W S) {h : Nat} (h1 : h < 2) : talA g h = 3 * ((W * S : Nat) : Int) + 16 + (h : Int) ∧ talQ g h = 0 := by
  have hq : talQ g h = 0 := ask_ok D.r ((okAll1 _).2 ⟨by show (0 : Int) ≤ h; omega, by show (h : Int) ≤ 1; omega⟩)
  refine ⟨?_, hq⟩
  rw [talA, if_pos hq, tal, log, D.slot]
theorem all_at {g : Gm} {W S : Nat} (D : Dim g W S) : all g = 3 * ((W * S : Nat) : Int) + 18 := by
  rw [all, if_pos ((right_iff g).2 D.r), tal, log, D.slot]
  omega
end Go.Proofs.YtiakbdekleaaoaaDoor.GeoMath
