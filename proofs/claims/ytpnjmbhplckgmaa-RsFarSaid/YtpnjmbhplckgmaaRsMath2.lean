/- In how many places two words differ. No program. -/
import Derived.Test.YtpnjmbhplckgmaaRsMath
namespace RsMath
open GfMath PolyMath
set_option linter.unusedVariables false

def dif (A B : List Nat) : Nat → Nat
  | 0 => 0
  | i + 1 => dif A B i + if sq A i = sq B i then 0 else 1
theorem dif_le (A B : List Nat) : ∀ i, dif A B i ≤ i
  | 0 => Nat.le_refl _
  | i + 1 => by have := dif_le A B i; rw [dif]; split <;> omega
theorem dif_filter (A B : List Nat) : ∀ i, dif A B i = ((List.range i).filter fun j => (sq A j ^^^ sq B j) ≠ 0).length
  | 0 => rfl
  | i + 1 => by
    rw [dif, dif_filter A B i, List.range_succ, List.filter_append, List.length_append]
    congr 1
    by_cases h : sq A i = sq B i
    · rw [if_pos h, List.filter_cons, if_neg (by simp [h])]
      rfl
    · rw [if_neg h, List.filter_cons, if_pos (by simpa using xor_ne h)]
      rfl
theorem dif_supp (A B : List Nat) (h : A.length = B.length) : dif A B A.length = (supp (xl A B)).length := by
  rw [dif_filter, supp, xl_length]
  congr 1
  refine List.filter_congr fun j hj => ?_
  rw [xl, sq_tab, if_pos (List.mem_range.1 hj)]
theorem dif_zero (A B : List Nat) : ∀ i, dif A B i = 0 → ∀ j, j < i → sq A j = sq B j
  | 0, _, j, hj => absurd hj (by omega)
  | i + 1, h, j, hj => by
    rw [dif] at h
    by_cases e : sq A i = sq B i
    · rw [if_pos e] at h
      by_cases e2 : j = i
      · rw [e2]; exact e
      · exact dif_zero A B i h j (by omega)
    · rw [if_neg e] at h; omega
theorem dif_same (A : List Nat) : ∀ i, dif A A i = 0
  | 0 => rfl
  | i + 1 => by rw [dif, dif_same A i, if_pos rfl]
theorem sq_set (D : List Nat) (j v q : Nat) (hj : j < D.length) : sq (D.set j v) q = if q = j then v else sq D q := by
  by_cases e : q = j
  · subst e
    rw [if_pos rfl, sq_get _ _ (by simpa using hj)]
    simp
  · rw [if_neg e]
    by_cases hq : q < D.length
    · rw [sq_get _ _ (by simpa using hq), sq_get _ _ hq, List.getElem_set_ne (by omega)]
    · rw [sq_out _ _ (by simp; omega), sq_out _ _ (by omega)]
theorem dif_set_le (D B : List Nat) (j v : Nat) (hj : j < D.length) : ∀ i, i ≤ j → dif (D.set j v) B i = dif D B i
  | 0, _ => rfl
  | i + 1, h => by rw [dif, dif, dif_set_le D B j v hj i (by omega), sq_set D j v i hj, if_neg (show ¬ i = j by omega)]
theorem dif_set (D B : List Nat) (j v : Nat) (hj : j < D.length) (h1 : sq D j = sq B j) (h2 : v ≠ sq B j) : ∀ i, j < i → dif (D.set j v) B i = dif D B i + 1
  | i + 1, h => by
    rw [dif, dif, sq_set D j v i hj]
    by_cases e : i = j
    · subst e
      rw [if_pos (show i = i from rfl), dif_set_le D B i v hj i (Nat.le_refl _), if_pos h1, if_neg h2]
    · rw [if_neg (show ¬ i = j from e), dif_set D B j v hj h1 h2 i (by omega)]
      omega
theorem far_dif {a b : List Nat} {p : Nat} (ha : By a) (hb : By b) (hl : a.length = b.length) (hn : a.length ≤ 255) (hs : dif a b a.length ≤ p) (h0 : allz (vals a p) = true) (h1 : allz (vals b p) = true) : a = b :=
  far_two ha hb hl hn (by rw [← dif_supp a b hl]; exact hs) (allz_zero.1 h0) (allz_zero.1 h1)
theorem xl_right {a b : List Nat} {p : Nat} (ha : By a) (hb : By b) (hl : a.length = b.length) (h0 : allz (vals a p) = true) (h1 : allz (vals b p) = true) : allz (vals (xl a b) p) = true :=
  allz_zero.2 fun i hi => by rw [ev_xl ha hb hl, allz_zero.1 h0 i hi, allz_zero.1 h1 i hi]; rfl
theorem code_inj {X Y : List Nat} (hX : By X) (hY : By Y) {p : Nat} (hl : X.length = Y.length) (h : code X p = code Y p) : X = Y := by
  have h1 := congrArg (List.take X.length) h
  rw [code, code, List.take_left, hl, List.take_left] at h1
  exact h1

end RsMath
