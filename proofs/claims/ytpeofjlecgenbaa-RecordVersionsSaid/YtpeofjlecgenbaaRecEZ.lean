/- RecordVersions (gen_rec_e.py). -/
import Derived.Test.YtpeofjlecgenbaaRecE1
import Derived.Test.YtpeofjlecgenbaaRecE2
import Derived.Test.YtpeofjlecgenbaaRecE3
import Derived.Test.YtpeofjlecgenbaaRecE4
import Derived.Test.YtpeofjlecgenbaaRecE5
import Derived.Test.YtpeofjlecgenbaaRecE6
namespace Go.Proofs.Ytpeofjlecgenbaa
open Go.RowKit CrcMath NumMath
set_option linter.unusedVariables false
set_option maxRecDepth 100000

theorem recordVersions_walk (a b c d e f n : Int) (w : World) :
    Calls Try.prog 5 #[.agg (vcv a b c).toArray, .agg (vcv d e f).toArray, .int .i64 n] w fun e w' => e = .returned (.bool true) ∧ Below w.heap.size w w' := by
  have hin : vIn n = true → 0 ≤ n := fun h => (by simpa [vIn] using h : 0 ≤ n ∧ n < 281474976710656).1
  cases h1 : vOk a b c <;> cases h2 : vIn n
  · by_cases h3 : 0 ≤ n
    · exact recordVersions_w2 a b c d e f n w h1 h2 h3
    · exact recordVersions_w3 a b c d e f n w h1 h2 h3
  · exact recordVersions_w1 a b c d e f n w h1 h2 (hin h2)
  · by_cases h3 : 0 ≤ n
    · exact recordVersions_w5 a b c d e f n w h1 h2 h3
    · exact recordVersions_w6 a b c d e f n w h1 h2 h3
  · exact recordVersions_w4 a b c d e f n w h1 h2 (hin h2)
end Go.Proofs.Ytpeofjlecgenbaa
