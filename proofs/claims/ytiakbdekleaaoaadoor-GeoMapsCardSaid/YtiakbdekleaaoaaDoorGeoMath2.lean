/- The list of all sectors, as a function of the place; where something lies in it. No program in it. -/
import Derived.Test.YtiakbdekleaaoaaDoorGeoMath
namespace Go.Proofs.YtiakbdekleaaoaaDoor.GeoMath
set_option linter.unusedVariables false

structure Pl where
  w : Int
  a : Int
  b : Int
  c : Int
/-- What lies on sector k (W sectors a stripe, S stripes). -/
def pl (W S k : Nat) : Pl :=
  if k < 3 * (W * S) then ⟨0, ((k / (W * S) : Nat) : Int), ((k % (W * S) % S : Nat) : Int), ((k % (W * S) / S : Nat) : Int)⟩
  else if k < 3 * (W * S) + 16 then ⟨1, (((k - 3 * (W * S)) / 8 : Nat) : Int), (((k - 3 * (W * S)) / 4 % 2 : Nat) : Int), (((k - 3 * (W * S)) % 4 : Nat) : Int)⟩
  else ⟨2, ((k - (3 * (W * S) + 16) : Nat) : Int), 0, 0⟩
theorem pl_slot {W S k1 k2 k3 : Nat} (h1 : k1 < 3) (h2 : k2 < W) (h3 : k3 < S) : pl W S (k1 * (W * S) + k2 * S + k3) = ⟨0, (k1 : Int), (k3 : Int), (k2 : Int)⟩ := by
  have h4 : k2 * S + k3 < W * S := by
    have : (k2 + 1) * S ≤ W * S := Nat.mul_le_mul_right _ h2
    rw [Nat.add_mul, Nat.one_mul] at this
    omega
  have h5 : k1 * (W * S) + k2 * S + k3 < 3 * (W * S) := by
    have : (k1 + 1) * (W * S) ≤ 3 * (W * S) := Nat.mul_le_mul_right _ h1
    rw [Nat.add_mul, Nat.one_mul] at this
    omega
  have e1 : (k1 * (W * S) + k2 * S + k3) / (W * S) = k1 := by
    rw [Nat.add_assoc, Nat.mul_comm k1, Nat.mul_add_div (by omega), Nat.div_eq_of_lt h4, Nat.add_zero]
  have e2 : (k1 * (W * S) + k2 * S + k3) % (W * S) = k2 * S + k3 := by
    rw [Nat.add_assoc, Nat.mul_comm k1, Nat.mul_add_mod, Nat.mod_eq_of_lt h4]
  have e3 : (k2 * S + k3) % S = k3 := by rw [Nat.mul_comm, Nat.mul_add_mod, Nat.mod_eq_of_lt h3]
  have e4 : (k2 * S + k3) / S = k2 := by rw [Nat.mul_comm, Nat.mul_add_div (by omega), Nat.div_eq_of_lt h3, Nat.add_zero]
  rw [pl, if_pos h5, e1, e2, e3, e4]
theorem pl_log {W S a b c : Nat} (h1 : a < 2) (h2 : b < 2) (h3 : c < 4) : pl W S (3 * (W * S) + a * 8 + b * 4 + c) = ⟨1, (a : Int), (b : Int), (c : Int)⟩ := by
  rw [pl, if_neg (by omega), if_pos (by omega)]
  rw [show 3 * (W * S) + a * 8 + b * 4 + c - 3 * (W * S) = a * 8 + b * 4 + c from by omega]
  rw [show (a * 8 + b * 4 + c) / 8 = a from by omega, show (a * 8 + b * 4 + c) / 4 % 2 = b from by omega, show (a * 8 + b * 4 + c) % 4 = c from by omega]
theorem pl_tal {W S a : Nat} : pl W S (3 * (W * S) + 16 + a) = ⟨2, (a : Int), 0, 0⟩ := by
  rw [pl, if_neg (by omega), if_neg (by omega), Nat.add_sub_cancel_left]
/-- A list of n places, place by place. -/
def pls (W S : Nat) : Nat → List Pl
  | 0 => []
  | n + 1 => pls W S n ++ [pl W S n]
theorem pls_length (W S n : Nat) : (pls W S n).length = n := by induction n with
  | zero => rfl
  | succ n ih => rw [pls, List.length_append, ih]; rfl
theorem pls_get (W S n k : Nat) (h : k < n) : (pls W S n)[k]? = some (pl W S k) := by induction n with
  | zero => omega
  | succ n ih =>
    rw [pls]
    by_cases e : k < n
    · rw [List.getElem?_append_left (by rw [pls_length]; exact e), ih e]
    · have e : k = n := by omega
      subst e
      rw [List.getElem?_append_right (by rw [pls_length]; exact Nat.le_refl _), pls_length, Nat.sub_self]; rfl
/-- How many sectors there are. -/
def cnt (W S : Nat) : Nat := 3 * (W * S) + 18
/-- What a sector may be. -/
theorem pl_cases {W S k : Nat} (hW : 0 < W) (hS : 0 < S) (h : k < cnt W S) :
    (∃ a b c, a < 3 ∧ c < W ∧ b < S ∧ k = a * (W * S) + c * S + b ∧ pl W S k = ⟨0, (a : Nat), (b : Nat), (c : Nat)⟩) ∨
    (∃ a b c, a < 2 ∧ b < 2 ∧ c < 4 ∧ k = 3 * (W * S) + a * 8 + b * 4 + c ∧ pl W S k = ⟨1, (a : Nat), (b : Nat), (c : Nat)⟩) ∨
    (∃ a, a < 2 ∧ k = 3 * (W * S) + 16 + a ∧ pl W S k = ⟨2, (a : Nat), 0, 0⟩) := by
  rw [cnt] at h
  by_cases h1 : k < 3 * (W * S)
  · have hp : 0 < W * S := Nat.mul_pos hW hS
    have e1 := Nat.div_add_mod k (W * S)
    have e2 := Nat.div_add_mod (k % (W * S)) S
    have l1 : k / (W * S) < 3 := Nat.div_lt_of_lt_mul (by rw [Nat.mul_comm]; exact h1)
    have l2 : k % (W * S) / S < W := Nat.div_lt_of_lt_mul (by rw [Nat.mul_comm S W]; exact Nat.mod_lt _ hp)
    have l3 : k % (W * S) % S < S := Nat.mod_lt _ hS
    have e3 : k = k / (W * S) * (W * S) + k % (W * S) / S * S + k % (W * S) % S := by
      rw [Nat.mul_comm (k / (W * S)), Nat.mul_comm (k % (W * S) / S), Nat.add_assoc, e2, e1]
    exact Or.inl ⟨_, _, _, l1, l2, l3, e3, by rw [pl, if_pos h1]⟩
  · by_cases h2 : k < 3 * (W * S) + 16
    · exact Or.inr (Or.inl ⟨(k - 3 * (W * S)) / 8, (k - 3 * (W * S)) / 4 % 2, (k - 3 * (W * S)) % 4, by omega, by omega, by omega, by omega, by rw [pl, if_neg h1, if_pos h2]⟩)
    · exact Or.inr (Or.inr ⟨k - (3 * (W * S) + 16), by omega, by omega, by rw [pl, if_neg h1, if_neg h2]⟩)
/-- Where p lies among the first n, or -1. -/
def IsAt (W S n : Nat) (p : Pl) (r : Int) : Prop := (r = -1 ∧ ∀ j, j < n → pl W S j ≠ p) ∨ ∃ j, j < n ∧ r = (j : Int) ∧ pl W S j = p ∧ ∀ i, i < j → pl W S i ≠ p
end Go.Proofs.YtiakbdekleaaoaaDoor.GeoMath
