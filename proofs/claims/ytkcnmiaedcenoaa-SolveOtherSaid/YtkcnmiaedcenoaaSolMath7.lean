/- SolveBack's mathematics: what is seen, what is turned. No program in it. -/
import Derived.Test.YtkcnmiaedcenoaaSolMath6
namespace SolMath
open GfMath PolyMath RsMath
set_option linter.unusedVariables false

theorem snocInd {α : Type} {P : List α → Prop} (h0 : P []) (h1 : ∀ l a, P l → P (l ++ [a])) (l : List α) : P l := by
  rw [← List.reverse_reverse l]
  induction l.reverse with
  | nil => exact h0
  | cons a l ih => rw [List.reverse_cons]; exact h1 _ _ ih
theorem cnt_put {G : List Bool} {i : Nat} (hi : i < G.length) : cnt (G.set i true) = if gAt G i = true then cnt G else cnt G + 1 := by
  cases h : gAt G i with
  | true => rw [if_pos rfl, set_self h]
  | false => rw [if_neg (by decide), cnt_set hi h]
theorem setG_snoc (G : List Bool) (er : List Int) (x : Int) : setG G (er ++ [x]) = (setG G er).set x.toNat true := by rw [setG, List.foldl_append]; rfl
/-- One turn: a place, and by what. -/
structure Tv where
  at_ : Int
  by_ : Nat
def badT (W : List Nat) (T : List Tv) : List Nat := T.foldl (fun W t => W.set t.at_.toNat (sq W t.at_.toNat ^^^ t.by_)) W
def othT (n : Nat) (G : List Bool) (T : List Tv) : List Bool := T.foldl (fun O t => if gAt G t.at_.toNat = true then O else O.set t.at_.toNat true) (noneG n)
theorem badT_snoc (W : List Nat) (T : List Tv) (t : Tv) : badT W (T ++ [t]) = (badT W T).set t.at_.toNat (sq (badT W T) t.at_.toNat ^^^ t.by_) := by rw [badT, List.foldl_append]; rfl
theorem othT_snoc (n : Nat) (G : List Bool) (T : List Tv) (t : Tv) : othT n G (T ++ [t]) = if gAt G t.at_.toNat = true then othT n G T else (othT n G T).set t.at_.toNat true := by rw [othT, List.foldl_append]; rfl
theorem badT_length (W : List Nat) (T : List Tv) : (badT W T).length = W.length := by
  induction T using snocInd with
  | h0 => rfl
  | h1 l a ih => rw [badT_snoc, List.length_set, ih]
theorem othT_length (n : Nat) (G : List Bool) (T : List Tv) : (othT n G T).length = n := by
  induction T using snocInd with
  | h0 => exact List.length_replicate
  | h1 l a ih =>
    rw [othT_snoc]
    split
    · exact ih
    · rw [List.length_set, ih]
theorem badT_by {W : List Nat} (h : By W) (T : List Tv) (hT : ∀ t ∈ T, t.by_ < 256) : By (badT W T) := by
  induction T using snocInd with
  | h0 => exact h
  | h1 l a ih =>
    have ih := ih fun t ht => hT t (List.mem_append_left _ ht)
    rw [badT_snoc]
    intro x hx
    rcases List.mem_or_eq_of_mem_set hx with hx | rfl
    · exact ih x hx
    · exact Nat.xor_lt_two_pow (n := 8) (ih.sq _) (hT a (by simp))
/-- What differs is turned: erased, or another. -/
theorem badT_oth {D : List Nat} {n : Nat} (hD : D.length = n) (G : List Bool) (T : List Tv) (hT : ∀ t ∈ T, 0 ≤ t.at_ ∧ t.at_ < (n : Int)) {j : Nat} (hj : er (badT D T) D j ≠ 0) (hg : gAt G j = false) : gAt (othT n G T) j = true := by
  induction T using snocInd with
  | h0 => exact absurd (Nat.xor_self _) hj
  | h1 l a ih =>
    have ih := ih (fun t ht => hT t (List.mem_append_left _ ht))
    have ha := hT a (by simp)
    rw [othT_snoc]
    by_cases e : a.at_.toNat = j
    · rw [if_neg (by rw [e, hg]; decide), gAt_set _ _ _ (by rw [othT_length]; omega), e]
      simp
    · have h2 : er (badT D l) D j ≠ 0 := by
        rw [er, badT_snoc, sq_set _ _ _ _ (by rw [badT_length, hD]; omega), if_neg (fun e2 => e e2.symm)] at hj
        exact hj
      split
      · exact ih h2
      · rw [gAt_set _ _ _ (by rw [othT_length]; omega), ih h2]; rfl
theorem cnt_eq (O : List Bool) : cnt O = ((List.range O.length).filter fun j => gAt O j).length := by
  induction O using snocInd with
  | h0 => rfl
  | h1 l a ih =>
    rw [List.length_append, List.length_singleton, List.range_succ, List.filter_append, List.length_append]
    have e1 : (List.range l.length).filter (fun j => gAt (l ++ [a]) j) = (List.range l.length).filter fun j => gAt l j := List.filter_congr fun j hj => by
      have := List.mem_range.1 hj
      unfold gAt
      rw [List.getD_eq_getElem?_getD, List.getD_eq_getElem?_getD, List.getElem?_append_left this]
    have e2 : gAt (l ++ [a]) l.length = a := by unfold gAt; simp
    rw [e1, ← ih]
    unfold cnt
    rw [List.count_append]
    cases a <;> simp [e2]
theorem ocnt_back {W D : List Nat} {n : Nat} {G O : List Bool} (hO : O.length = n) (h : ∀ j, er W D j ≠ 0 → gAt G j = false → gAt O j = true) : ocnt (oth W D G) n ≤ cnt O := by
  rw [cnt_eq, hO, ocnt]
  have e : (List.range n).filter (fun j => decide (oth W D G j ≠ 0)) = ((List.range n).filter fun j => gAt O j).filter fun j => decide (oth W D G j ≠ 0) := by
    rw [List.filter_filter]
    refine List.filter_congr fun j _ => ?_
    by_cases hz : oth W D G j = 0
    · simp [hz]
    · have h1 : gAt G j = false := by
        cases hg : gAt G j with
        | false => rfl
        | true => exact absurd (by rw [oth, if_pos hg]) hz
      have h2 : er W D j ≠ 0 := by rwa [oth, if_neg (by rw [h1]; decide)] at hz
      simp [hz, h j h2 h1]
  rw [e]
  exact List.length_filter_le _ _
/-! The places that differ, in order. -/
theorem atF_succ (d : Nat → Nat) (i : Nat) : atF d (i + 1) = atF d i ++ (if d i = 0 then [] else [i]) := by
  rw [atF, List.range_succ, List.filter_append, atF]
  by_cases h : d i = 0 <;> simp [h]
theorem atF_pre (d : Nat → Nat) (i : Nat) : ∀ m, ∃ l, atF d (i + m) = atF d i ++ l
  | 0 => ⟨[], by simp⟩
  | m + 1 => by
    obtain ⟨l, h⟩ := atF_pre d i m
    exact ⟨l ++ (if d (i + m) = 0 then [] else [i + m]), by rw [← Nat.add_assoc, atF_succ, h, List.append_assoc]⟩
theorem atF_at (d : Nat → Nat) {i n : Nat} (hi : i < n) (h : d i ≠ 0) : (atF d n)[(atF d i).length]? = some i := by
  obtain ⟨l, hl⟩ := atF_pre d (i + 1) (n - (i + 1))
  rw [show i + 1 + (n - (i + 1)) = n from by omega] at hl
  rw [hl, atF_succ, if_neg h, List.append_assoc, List.getElem?_append_right (Nat.le_refl _), Nat.sub_self]
  rfl
end SolMath
