/- The statement CrcTells: its walk. -/
import Derived.Test.YtmffkfgcopaoeaaCrcT
import Derived.Deep.QuietTactic
import Derived.Test.YtmffkfgcopaoeaaEq
namespace Go.Proofs.Ytmffkfgcopaoeaa
open Go.RowKit CrcMath

end Go.Proofs.Ytmffkfgcopaoeaa
