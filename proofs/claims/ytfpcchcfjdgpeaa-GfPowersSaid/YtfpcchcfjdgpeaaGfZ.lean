/- gf: all cases of each statement together. -/
import Derived.Test.YtfpcchcfjdgpeaaGfE
import Derived.Test.YtfpcchcfjdgpeaaGfF
import Derived.Test.YtfpcchcfjdgpeaaGfG
import Derived.Test.YtfpcchcfjdgpeaaGfI
import Derived.Test.YtfpcchcfjdgpeaaGfJ
import Derived.Test.YtfpcchcfjdgpeaaGfK
import Derived.Test.YtfpcchcfjdgpeaaGfL
import Derived.Test.YtfpcchcfjdgpeaaGfM
namespace Go.Proofs.Ytfpcchcfjdgpeaa
open Go.RowKit GfMath

/-- A byte that came in is a number below 256. -/
theorem u8_of {n : Int} (h : (Lit.int .u8 n).wf = true) : ∃ b : Nat, n = (b : Int) ∧ b < 256 := by
  have h2 := h
  simp [Lit.wf, IntKind.min, IntKind.max, IntKind.bits, IntKind.signed] at h2
  exact ⟨n.toNat, by omega, by omega⟩

theorem gfIs_all (a b c : Int) (w : World) (ha : (Lit.int .u8 a).wf = true) (hb : (Lit.int .u8 b).wf = true) (hc : (Lit.int .u8 c).wf = true) :
    Calls Try.prog 5 #[.int .u8 a, .int .u8 b, .int .u8 c] w fun e w' => e = .returned (.bool true) ∧ Below w.heap.size w w' := by
  obtain ⟨x, rfl, hx⟩ := u8_of ha
  obtain ⟨y, rfl, hy⟩ := u8_of hb
  obtain ⟨z, rfl, hz⟩ := u8_of hc
  by_cases h0 : x = 0
  · exact gfIs_zero x y z w hx hy hz h0
  · exact gfIs_some x y z w hx hy hz h0
theorem gfMuls_all (a b c : Int) (w : World) (ha : (Lit.int .u8 a).wf = true) (hb : (Lit.int .u8 b).wf = true) (hc : (Lit.int .u8 c).wf = true) :
    Calls Try.prog 3 #[.int .u8 a, .int .u8 b, .int .u8 c] w fun e w' => e = .returned (.bool true) ∧ Below w.heap.size w w' := by
  obtain ⟨x, rfl, hx⟩ := u8_of ha
  obtain ⟨y, rfl, hy⟩ := u8_of hb
  obtain ⟨z, rfl, hz⟩ := u8_of hc
  by_cases h0 : y = 0
  · exact gfMuls_zero x y z w hx hy hz h0
  · exact gfMuls_some x y z w hx hy hz h0
theorem gfDivides_all (a b : Int) (w : World) (ha : (Lit.int .u8 a).wf = true) (hb : (Lit.int .u8 b).wf = true) :
    Calls Try.prog 7 #[.int .u8 a, .int .u8 b] w fun e w' => e = .returned (.bool true) ∧ Below w.heap.size w w' := by
  obtain ⟨x, rfl, hx⟩ := u8_of ha
  obtain ⟨y, rfl, hy⟩ := u8_of hb
  by_cases h0 : y = 0
  · rw [h0]; exact gfDivides_zero x w
  · by_cases hx0 : x = 0
    · exact gfDivides_none x y w hx hy h0 hx0
    · exact gfDivides_some x y w hx hy h0 hx0
theorem gfPowers_all (a n m : Int) (w : World) (ha : (Lit.int .u8 a).wf = true) (hm : (Lit.int .i16 m).wf = true) :
    Calls Try.prog 4 #[.int .u8 a, .int .i64 n, .int .i16 m] w fun e w' => e = .returned (.bool true) ∧ Below w.heap.size w w' := by
  obtain ⟨x, rfl, hx⟩ := u8_of ha
  have h2 := hm
  simp [Lit.wf, IntKind.min, IntKind.max, IntKind.bits, IntKind.signed] at h2
  by_cases h0 : x = 0
  · by_cases hn : n = 0
    · rw [h0, hn]; exact gfPowers_none m w (by omega) (by omega)
    · by_cases ht : n.tmod 255 < 0
      · rw [h0]; exact gfPowers_zeroA n m w (by omega) (by omega) hn ht
      · rw [h0]; exact gfPowers_zeroB n m w (by omega) (by omega) hn ht
  · by_cases ht : n.tmod 255 < 0
    · exact gfPowers_someA x n m w hx h0 (by omega) (by omega) ht
    · exact gfPowers_someB x n m w hx h0 (by omega) (by omega) ht
end Go.Proofs.Ytfpcchcfjdgpeaa
