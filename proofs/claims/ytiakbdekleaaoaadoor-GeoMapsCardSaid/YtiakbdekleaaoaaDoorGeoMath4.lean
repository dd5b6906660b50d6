/- GeoSpread's mathematics: no program in it. -/
import Derived.Test.YtiakbdekleaaoaaDoorGeoMath3
namespace Go.Proofs.YtiakbdekleaaoaaDoor.GeoMath
set_option linter.unusedVariables false

theorem ofQ_in {g : Gm} {W S : Nat} (D : Dim g W S) {n : Int} (h0 : 0 ≤ n) (h1 : n < 3 * slot g) : ofQ g n = 0 :=
  ask_ok D.r ((okAll1 _).2 ⟨by show 0 ≤ n; omega, by show n ≤ log g - 1; rw [log]; omega⟩)
theorem ofB_in {g : Gm} {W S : Nat} (D : Dim g W S) {n : Int} (h0 : 0 ≤ n) (h1 : n < 3 * slot g) : ofB g n = n % (S : Int) := by
  rw [ofB, if_pos (ofQ_in D h0 h1), D.s, D.slot]
  exact Int.emod_emod_of_dvd n ⟨(W : Int), by rw [Int.natCast_mul, Int.mul_comm]⟩
def key (g : Gm) (f : Int) (j : Nat) : Int × Int := (ofA g (f + j), ofB g (f + j))
def keys (g : Gm) (f : Int) (k : Nat) (z : Int × Int) : Bool := (List.range k).any fun j => decide (z = key g f j)
theorem keys_zero (g : Gm) (f : Int) (z : Int × Int) : keys g f 0 z = false := rfl
theorem keys_succ (g : Gm) (f : Int) (k : Nat) (z : Int × Int) : keys g f (k + 1) z = (keys g f k z || decide (z = key g f k)) := by
  rw [keys, List.range_succ, List.any_append, keys]; simp
theorem keys_new {g : Gm} {W S : Nat} (D : Dim g W S) {f : Int} (h0 : 0 ≤ f) (hm : f ≤ 3 * slot g - g.s) {k : Nat} (hk : k < S) : keys g f k (key g f k) = false := by
  rw [keys, List.any_eq_false]
  intro j hj
  have hj := List.mem_range.1 hj
  have hs := D.s
  rw [decide_eq_true_iff]
  intro e
  rw [key, key, Prod.mk.injEq] at e
  have e2 := e.2
  rw [ofB_in D (by omega) (by omega), ofB_in D (by omega) (by omega)] at e2
  have h1 := Int.emod_emod_of_dvd (f + (k : Int)) (Int.dvd_refl (S : Int))
  have h3 : (f + (k : Int) - (f + (j : Int))) % (S : Int) = 0 := Int.emod_eq_emod_iff_emod_sub_eq_zero.1 e2
  rw [show f + (k : Int) - (f + (j : Int)) = (k : Int) - (j : Int) from by omega] at h3
  rw [Int.emod_eq_of_lt (by omega) (by omega)] at h3
  omega
theorem key_ok {g : Gm} {W S : Nat} (D : Dim g W S) {f : Int} (h0 : 0 ≤ f) (hm : f ≤ 3 * slot g - g.s) {k : Nat} (hk : k < S) : ofK g (f + k) = true ∧ (0 ≤ ofA g (f + k) ∧ ofA g (f + k) ≤ 400) ∧ 0 ≤ ofB g (f + k) ∧ ofB g (f + k) ≤ 400 := by
  have hs := D.s
  have hl := slot_le g
  have hp := slot_pos D.r
  have hs8 := D.r.s8
  have hq := ofQ_in D (n := f + k) (by omega) (by omega)
  refine ⟨decide_eq_true hq, ?_, ?_⟩
  · rw [ofA, if_pos hq]
    refine ⟨Int.ediv_nonneg (by omega) (by omega), ?_⟩
    have := Int.ediv_le_self (a := f + (k : Int)) (slot g) (by omega)
    omega
  · rw [ofB_in D (by omega) (by omega)]
    have h1 := Int.emod_nonneg (f + (k : Int)) (b := (S : Int)) (by omega)
    have h2 := Int.emod_lt_of_pos (f + (k : Int)) (b := (S : Int)) (by omega)
    omega
end Go.Proofs.YtiakbdekleaaoaaDoor.GeoMath
