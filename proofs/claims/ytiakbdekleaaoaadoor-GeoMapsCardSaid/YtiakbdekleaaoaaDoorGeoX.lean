/- GeoMaps, whole; what the row's listed variables give the walk: nothing. -/
import Derived.Test.YtiakbdekleaaoaaDoorGeoW
import Derived.Test.YtiakbdekleaaoaaDoorGeoR
import Derived.Test.YtiakbdekleaaoaaDoorRows
namespace Go.Proofs.YtiakbdekleaaoaaDoor
open Go.RowKit GeoMath
def Glob (_ : World) : Prop := True
theorem glob_of_laid {W : World} {l} (_ : laidMetH Tryd.prog l W) : Glob W := trivial
theorem geoMaps_walk (d p s : Int) (w : World) : Calls Tryd.prog 3 #[.agg #[.int .i64 d, .int .i64 p, .int .i64 s]] w fun e w' => e = .returned (.bool true) ∧ Below w.heap.size w w' := by
  cases hr : right ⟨d, p, s⟩ with
  | false => exact geoMaps_no d p s w hr
  | true =>
    have h := (right_iff ⟨d, p, s⟩).1 hr
    exact geoMaps_yes d p s (d + p).toNat s.toNat ⟨h, by have := h.d1; have := h.p2; dsimp only at *; omega, by have := h.s1; dsimp only at *; omega⟩ w
end Go.Proofs.YtiakbdekleaaoaaDoor
