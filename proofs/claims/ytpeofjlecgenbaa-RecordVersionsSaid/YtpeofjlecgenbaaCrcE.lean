/- Contracts of the document's answers: Seal, Open, Joined; Long, awake. -/
import Derived.Test.YtpeofjlecgenbaaCrcD
import Derived.Deep.RegionWith
namespace Go.Proofs.Ytpeofjlecgenbaa
open Go.RowKit CrcMath

/-- Are texts more than what is played? -/
def crc_longB (l : List ByteArray) : Bool := decide (3000 < (cat l).length) || decide (60 < l.length)

theorem crc_cat_take_le (l : List ByteArray) (k : Nat) : (cat (l.take k)).length ≤ (cat l).length := by
  conv => rhs; rw [← List.take_append_drop k l, cat, List.flatMap_append]
  rw [List.length_append]
  exact Nat.le_add_right _ _

end Go.Proofs.Ytpeofjlecgenbaa
