/- Records and versions that came in. -/
import Derived.Test.YtnbindmmbbiifaaGreatB6
import Derived.Test.YtnbindmmbbiifaaGreatReads
import Derived.Test.YtnbindmmbbiifaaGreatGeoR
namespace Go.Proofs.YtnbindmmbbiifaaGreat
open Go.RowKit
def TRc : Open.Ty := .pair (.int .i64) (.pair (.int .i64) (.pair (.int .i64) (.pair (.int .i64) .unit)))
theorem reads_rec {w : World} {cs : List Value} {x : TRc.den} (h : Open.Reads w TRc cs x) : ∃ k s n v : Int, cs = rcv k s n v := by
  have hl : cs.length = 4 := h.length
  match cs, hl with
  | [a, b, c, d], _ =>
    obtain ⟨⟨h1, g1⟩, ⟨h2, g2⟩, ⟨h3, g3⟩, ⟨h4, g4⟩, _⟩ := h
    have e1 : a = .int .i64 x.1 := by simpa [Open.Ty.size] using h1
    have e2 : b = .int .i64 x.2.1 := by simpa [Open.Ty.size] using h2
    have e3 : c = .int .i64 x.2.2.1 := by simpa [Open.Ty.size] using h3
    have e4 : d = .int .i64 x.2.2.2.1 := by simpa [Open.Ty.size] using h4
    exact ⟨_, _, _, _, by rw [e1, e2, e3, e4]; rfl⟩
theorem two_bytes {H : List UInt8} (h : H.length = 2) : ∃ x y : UInt8, H = [x, y] :=
  match H, h with
  | [x, y], _ => ⟨x, y, rfl⟩
end Go.Proofs.YtnbindmmbbiifaaGreat
