/- May a record be? (mathematics: no program) -/
import Derived.Test.YtbpdnaiackfdmaaKit
namespace Go.Proofs.Ytbpdnaiackfdmaa
set_option linter.unusedVariables false
def rOk (k s n v : Int) : Bool := decide (0 ≤ k ∧ k < 128 ∧ 0 ≤ s ∧ s < 4 ∧ 0 ≤ n ∧ n < 65536 ∧ 0 ≤ v ∧ v < 281474976710656)
theorem rOk_is {k s n v : Int} (h : rOk k s n v = true) : 0 ≤ k ∧ k < 128 ∧ 0 ≤ s ∧ s < 4 ∧ 0 ≤ n ∧ n < 65536 ∧ 0 ≤ v ∧ v < 281474976710656 := by simpa [rOk] using h
structure Rc where
  k : Int
  s : Int
  n : Int
  v : Int
end Go.Proofs.Ytbpdnaiackfdmaa
