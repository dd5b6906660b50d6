/- StripeUpdates' walk, whole. -/
import Derived.Test.YtpoipbngefcdnaaGreatStrZB
import Derived.Test.YtpoipbngefcdnaaGreatStrL
namespace Go.Proofs.YtpoipbngefcdnaaGreat
open Go.RowKit CrcMath GfMath PolyMath RsMath SolMath GeoMath
set_option linter.unusedVariables false

theorem reads_edit {w : World} {cs : List Value} {x : (Open.Ty.pair (.int .i64) (.pair (.arr 60 (.int .u8)) .unit)).den} (h : Open.Reads w (.pair (.int .i64) (.pair (.arr 60 (.int .u8)) .unit)) cs x) : ∃ (q : Int) (H : List UInt8), H.length = 60 ∧ cs = [.int .i64 q] ++ bytes H ++ [] := by
  obtain ⟨⟨h1, g1⟩, h2, h3⟩ := h
  obtain ⟨H, hH, e⟩ := reads_bytes h2
  have h3' : (cs.drop 1).drop 60 = [] := h3
  have h1' : cs.take 1 = [.int .i64 x.1] := h1
  have e' : (cs.drop 1).take 60 = bytes H := e
  refine ⟨x.1, H, hH, ?_⟩
  have h4 : cs = cs.take 1 ++ ((cs.drop 1).take 60 ++ (cs.drop 1).drop 60) := by rw [List.take_append_drop, List.take_append_drop]
  rw [h1', e', h3', ← List.append_assoc] at h4
  exact h4

theorem reads_cap {w : World} {a : Option Addr} {cap : Nat} {l : List (List Int)} {by_ : Nat} (h : Open.Reads w (.sl by_ (.arr 60 (.int .u8))) [.slice a l.length cap] l) : l.length ≤ cap := by
  obtain ⟨_, _, _, _, h1⟩ := reads_blocks h
  exact h1

theorem stripeUpdates_walk (d p s : Int) (a1 : Option Addr) (m cap1 : Nat) (f : Fb) (q : Int) (H : List UInt8) (w : World) (hr : Lies w w.heap.size a1 (bytes (grid m f))) (hm : m ≤ 9223372036854775807) (hcap : m ≤ cap1) (hH : H.length = 60) :
    Calls Tryz.prog 7 #[.agg #[.int .i64 d, .int .i64 p, .int .i64 s], .slice a1 m cap1, .agg ⟨[Value.int .i64 q] ++ bytes H ++ []⟩] w fun e w' => e = .returned (.bool true) ∧ Below w.heap.size w w' := by
  by_cases h : right ⟨d, p, s⟩ = true ∧ (m : Int) = d
  · obtain ⟨h1, h2⟩ := h
    obtain ⟨k, pp, t, e, g1, g2, g3, g4, g5, g6⟩ := right_is h1
    simp only [gmN, Gm.mk.injEq] at e
    obtain ⟨rfl, rfl, rfl⟩ := e
    obtain rfl : m = k := by omega
    by_cases hq : 0 ≤ q ∧ q < (m : Int)
    · obtain ⟨Q, rfl⟩ := Int.eq_ofNat_of_zero_le hq.1
      exact stripeUpdates_in m pp t a1 cap1 f Q H w g1 g2 g3 g4 g5 g6 hcap hH (by omega) hr
    · exact stripeUpdates_out m pp t a1 cap1 f q H w g1 g2 g3 g4 g5 g6 hcap hH (by omega) hr
  · exact stripeUpdates_early d p s a1 m cap1 _ w h hm
end Go.Proofs.YtpoipbngefcdnaaGreat
