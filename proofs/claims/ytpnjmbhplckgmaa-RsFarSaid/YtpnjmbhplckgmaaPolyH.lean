/- The walk of PolyTimes. -/
import Derived.Test.YtpnjmbhplckgmaaPolyF
import Derived.Test.YtpnjmbhplckgmaaPolyMath2
namespace Go.Proofs.Ytpnjmbhplckgmaa
open Go.RowKit GfMath PolyMath
set_option linter.unusedVariables false

theorem two_polys {u : World} {a c : Option Addr} {ca cc : Nat} {A C : List Nat} (hA : By A) (hC : By C) (h1 : A.length ≤ ca) (h2 : C.length ≤ cc) (h3 : ca ≤ 140737488351232) (h4 : cc ≤ 140737488351232)
    (hr : Lies u u.heap.size a (u8s A)) (hs : Lies u u.heap.size c (u8s C)) : Polys u [(a, A.length, ca), (c, C.length, cc)] [A, C] := by
  refine ⟨rfl, fun i hi hi2 => ?_⟩
  match i, hi with
  | 0, _ => exact ⟨rfl, h1, h3, hA, hr⟩
  | 1, _ => exact ⟨rfl, h2, h4, hC, hs⟩
theorem powI_3 {x : Nat} (hx : x < 256) : powI x 3 = pw x 3 := by
  by_cases h : x = 0
  · subst h; rw [powI, if_neg (by omega), if_pos rfl, pw, gm_zero_right]
  · exact powI_pw hx h 3 3 (by decide)

end Go.Proofs.Ytpnjmbhplckgmaa
