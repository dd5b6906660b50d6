/- GeoPlaces: the walk, whole; what came in. -/
import Derived.Test.YtiakbdekleaaoaaGeoL
import Derived.Test.YtiakbdekleaaoaaGeoR
namespace Go.Proofs.Ytiakbdekleaaoaa
open Go.RowKit GeoMath
theorem dim_of {g : Gm} (h : right g = true) : Dim g (g.d + g.p).toNat g.s.toNat := by
  have hr := (right_iff g).1 h
  have h1 := hr.d1; have h2 := hr.p2; have h3 := hr.s1
  exact ⟨hr, by omega, by omega⟩
theorem geoPlaces_walk (d p s a0 a1 a2 b0 b1 b2 : Int) (w : World) :
    Calls Try.prog 3 #[.agg #[.int .i64 d, .int .i64 p, .int .i64 s], .agg #[.int .i64 a0, .int .i64 a1, .int .i64 a2], .agg #[.int .i64 b0, .int .i64 b1, .int .i64 b2]] w fun e w' => e = .returned (.bool true) ∧ Below w.heap.size w w' := by
  cases hr : right ⟨d, p, s⟩ with
  | false => exact geoPlaces_no d p s a0 a1 a2 b0 b1 b2 w hr
  | true => exact geoPlaces_yes d p s a0 a1 a2 b0 b1 b2 _ _ w (dim_of hr)
end Go.Proofs.Ytiakbdekleaaoaa
