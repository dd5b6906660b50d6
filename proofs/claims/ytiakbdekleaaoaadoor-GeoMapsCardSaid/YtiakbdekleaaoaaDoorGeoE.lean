/- Contracts of geo's Half, Tally (gen_geo_e.py). -/
import Derived.Test.YtiakbdekleaaoaaDoorGeoD
namespace Go.Proofs.YtiakbdekleaaoaaDoor
open Go.RowKit GeoMath
set_option linter.unusedVariables false
set_option maxRecDepth 100000

end Go.Proofs.YtiakbdekleaaoaaDoor
