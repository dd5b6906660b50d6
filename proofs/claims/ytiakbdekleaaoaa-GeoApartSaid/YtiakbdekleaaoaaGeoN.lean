/- Keys: ints; pairs of ints. -/
import Derived.Test.YtiakbdekleaaoaaSeen
import Derived.DeepKeys3
import Derived.WideKeyPair
namespace Go.Proofs.Ytiakbdekleaaoaa
open Go.RowKit Go.Maps
set_option linter.unusedVariables false
set_option maxRecDepth 100000

theorem geo_zero_bool (w : World) : (zeroValue 4).run Try.prog w = .ok (.bool false) w := by kernel_rfl
theorem i64_wf {x : Int} (hx : -9223372036854775808 ≤ x ∧ x < 9223372036854775808) : (Lit.int .i64 x).wf = true := by
  simp [Lit.wf, IntKind.min, IntKind.max, IntKind.bits, IntKind.signed]; omega
def KI : KeyKind Try.prog 48 3 4 Int where
  val := fun i => .int .i64 i
  lit := fun i => .int .i64 i
  ok := fun i => -9223372036854775808 ≤ i ∧ i < 9223372036854775808
  keyed := int_keyed Try.underlying3
  typ := Try.underlying48
  elem := Try.underlying4
  zero := geo_zero_bool
  key := fun i hi => keyOf_int_mk Try.underlying3 (i64_wf hi)
  inj := fun i j h => by cases h; rfl
theorem pair_arr : WideMaps.ArrKey Try.prog 51 3 2 := by
  constructor <;> kernel_rfl
theorem pair_law : WideMaps.KeyLaw Try.prog 51 := deep_law (m := 5) (by decide) (by kernel_rfl) (by kernel_rfl) (by kernel_rfl)
def KP : KeyKind Try.prog 50 51 4 (Int × Int) where
  val := fun i => .agg #[.int .i64 i.1, .int .i64 i.2]
  lit := fun i => .string (keyBytes [.int .i64 i.1, .int .i64 i.2])
  ok := fun i => (-9223372036854775808 ≤ i.1 ∧ i.1 < 9223372036854775808) ∧ (-9223372036854775808 ≤ i.2 ∧ i.2 < 9223372036854775808)
  keyed := Keyed.of_law pair_law
  typ := Try.underlying50
  elem := Try.underlying4
  zero := geo_zero_bool
  key := fun i hi => by
    have h1 := i64_wf hi.1
    have h2 := i64_wf hi.2
    exact WideMaps.keyOf_pair pair_arr Try.underlying3 ⟨_, rfl⟩ h1 h2
  inj := fun i j h => by cases i; cases j; cases h; rfl
end Go.Proofs.Ytiakbdekleaaoaa
