/- Contracts of two functions over texts that many laws call: Joined, Long. -/
import Derived.Test.YtbcilifdgpfmnaaDoorKit
import Derived.Lib.Join
namespace Go.Proofs.YtbcilifdgpfmnaaDoor
open Go.RowKit

/-- Are texts more than what is played? -/
def longB (l : List ByteArray) : Bool := decide (3000 < (cat l).length) || decide (60 < l.length)

theorem cat_take_le (l : List ByteArray) (k : Nat) : (cat (l.take k)).length ≤ (cat l).length := by
  conv => rhs; rw [← List.take_append_drop k l, cat, List.flatMap_append]
  rw [List.length_append]
  exact Nat.le_add_right _ _

end Go.Proofs.YtbcilifdgpfmnaaDoor
