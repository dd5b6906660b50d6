/- The contract of the document's product. -/
import Derived.Test.YtpkjannlndnfdaaPolyT
namespace Go.Proofs.Ytpkjannlndnfdaa
open Go.RowKit GfMath PolyMath
set_option linter.unusedVariables false

theorem info_int1 : (Try.prog.info? 3).map (·.size) = some 1 := by kernel_rfl
theorem nats_zero (N : Nat) : nats (List.replicate N 0) = List.replicate N (.int .i64 0) := by rw [nats, List.map_replicate]; rfl

end Go.Proofs.Ytpkjannlndnfdaa
