/- A list that came in isn't longer than an int tells. -/
import Derived.Test.YtlcmnpbbfnfcmaaGreatStrR
namespace Go.Proofs.YtlcmnpbbfnfcmaaGreat
open Go.RowKit CrcMath GfMath PolyMath RsMath SolMath GeoMath
theorem reads_len {w : World} {a : Option Addr} {cap : Nat} {e : Open.Ty} {l : List e.den} {by_ : Nat} (h : Open.Reads w (.sl by_ e) [.slice a l.length cap] l) : l.length ≤ 9223372036854775807 := by
  obtain ⟨a', cap', e1, h1, h2, h3, h4⟩ := h
  simp at e1
  obtain ⟨rfl, rfl⟩ := e1
  first | (unfold maxLen at h2; omega) | omega
end Go.Proofs.YtlcmnpbbfnfcmaaGreat
