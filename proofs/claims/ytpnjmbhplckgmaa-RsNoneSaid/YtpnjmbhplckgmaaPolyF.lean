/- The contract of poly's Add. -/
import Derived.Test.YtpnjmbhplckgmaaPolyE
namespace Go.Proofs.Ytpnjmbhplckgmaa
open Go.RowKit GfMath PolyMath
set_option linter.unusedVariables false

theorem u8s_zero (N : Nat) : u8s (List.replicate N 0) = List.replicate N (.int .u8 0) := by rw [u8s, List.map_replicate]; rfl
theorem hi_zero (N : Nat) : hi N (sumf []) = List.replicate N 0 := (tab_zero N).symm

end Go.Proofs.Ytpnjmbhplckgmaa
