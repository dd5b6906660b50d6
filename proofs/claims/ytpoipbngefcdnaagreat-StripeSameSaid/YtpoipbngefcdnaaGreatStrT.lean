/- StripeSame, whole. -/
import Derived.Test.YtpoipbngefcdnaaGreatStrS
namespace Go.Proofs.YtpoipbngefcdnaaGreat
open Go.RowKit CrcMath GfMath PolyMath RsMath SolMath GeoMath
set_option linter.unusedVariables false
set_option maxRecDepth 100000

theorem reads_len {w : World} {a : Option Addr} {cap : Nat} {e : Open.Ty} {l : List e.den} {by_ : Nat} (h : Open.Reads w (.sl by_ e) [.slice a l.length cap] l) : l.length ≤ 9223372036854775807 := by
  obtain ⟨a', cap', e1, h1, h2, h3, h4⟩ := h
  simp at e1
  obtain ⟨rfl, rfl⟩ := e1
  first | (unfold maxLen at h2; omega) | omega
theorem stripeSame_walk (d p s : Int) (a1 a2 : Option Addr) (n1 n2 cap1 cap2 : Nat) (f g : Fb) (w : World) (hr1 : Lies w w.heap.size a1 (bytes (grid n1 f))) (hr2 : Lies w w.heap.size a2 (bytes (grid n2 g))) (hn1 : n1 ≤ 9223372036854775807) (hn2 : n2 ≤ 9223372036854775807) :
    Calls Tryz.prog 8 #[.agg #[.int .i64 d, .int .i64 p, .int .i64 s], .slice a1 n1 cap1, .slice a2 n2 cap2] w fun e w' => e = .returned (.bool true) ∧ Below w.heap.size w w' := by
  by_cases h : right ⟨d, p, s⟩ = true ∧ (n1 : Int) = d ∧ (n2 : Int) = d
  · obtain ⟨h1, h2, h3⟩ := h
    obtain ⟨k, q, t, e, g1, g2, g3, g4, g5, g6⟩ := right_is h1
    simp only [gmN, Gm.mk.injEq] at e
    obtain ⟨rfl, rfl, rfl⟩ := e
    obtain rfl : n1 = k := by omega
    obtain rfl : n2 = n1 := by omega
    exact stripeSame_good n2 q t a1 a2 cap1 cap2 f g w g1 g2 g3 g4 g5 g6 hr1 hr2
  · exact stripeSame_bad d p s a1 a2 n1 n2 cap1 cap2 w h hn1 hn2
end Go.Proofs.YtpoipbngefcdnaaGreat
