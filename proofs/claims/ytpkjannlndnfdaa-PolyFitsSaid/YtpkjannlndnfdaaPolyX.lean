/- The contract of poly's DivMod. -/
import Derived.Test.YtpkjannlndnfdaaPolyF
import Derived.Test.YtpkjannlndnfdaaInvS
import Derived.Test.YtpkjannlndnfdaaPolyMath5
namespace Go.Proofs.Ytpkjannlndnfdaa
open Go.RowKit GfMath PolyMath
set_option linter.unusedVariables false

def rsj (A C Q : List Nat) (k j n : Nat) : Nat := sq A n ^^^ cvj Q C k j n
theorem rsj_zero (A C Q : List Nat) (k n : Nat) : rsj A C Q k 0 n = rst A C Q k n := by rw [rsj, cvj_zero]; rfl
theorem rsj_full (A C Q : List Nat) (k n : Nat) : rsj A C Q k C.length n = rst A C Q (k + 1) n := by rw [rsj, cvj_full]; rfl
theorem rsj_step (A C Q : List Nat) (N k j : Nat) : (tab N (rsj A C Q k j)).set (k + j) (rsj A C Q k j (k + j) ^^^ gm (sq Q k) (sq C j)) = tab N (rsj A C Q k (j + 1)) := by
  rw [tab_set]
  refine tab_congr N fun n _ => ?_
  by_cases e : n = k + j
  · subst e
    rw [if_pos rfl, rsj, rsj, cvj, cvj, if_neg (by omega), if_pos (by omega), show k + j - k = j by omega, Nat.xor_zero, Nat.xor_assoc]
  · rw [if_neg e, rsj, rsj, cvj, cvj]
    by_cases h : k ≤ n ∧ n - k < j
    · rw [if_pos h, if_pos (by omega)]
    · rw [if_neg h, if_neg (by omega)]
theorem rsj_lt {A C Q : List Nat} (hA : By A) (hC : By C) (hQ : By Q) (k j n : Nat) : rsj A C Q k j n < 256 := xor_lt (hA.sq n) (cvj_lt hQ hC k j n)

theorem u8s_sq' {w : World} {b off : Nat} {l : List Nat} (h : ∀ j u, (u8s l)[j]? = some u → w.cell? ⟨b, off + j, none⟩ = some u) (j : Nat) (hj : j < l.length) : w.cell? ⟨b, off + j, none⟩ = some (.int .u8 (sq l j : Int)) := by
  rw [sq_get l j hj]; exact h j _ (u8s_get l j hj)
end Go.Proofs.Ytpkjannlndnfdaa
