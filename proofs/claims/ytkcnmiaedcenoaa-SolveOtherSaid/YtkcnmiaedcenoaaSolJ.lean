/- SolveAgain's walk, whole. -/
import Derived.Test.YtkcnmiaedcenoaaSolI
namespace Go.Proofs.Ytkcnmiaedcenoaa
open Go.RowKit GfMath PolyMath RsMath SolMath
set_option linter.unusedVariables false
set_option maxRecDepth 100000

theorem mendF_at_le {seek : Nat → List Nat → Nat → List Nat} {n p : Nat} {W m l : List Nat} {er : List Int} (h : mendF seek n p W er = .ok m l) : l.length ≤ n := by
  rw [mendF_eq] at h
  split at h
  · cases h
  · unfold mendG at h
    simp only at h
    split at h
    · injection h with h1 h2
      subst h2
      exact atF_le _ n
    · cases h

end Go.Proofs.Ytkcnmiaedcenoaa
