/- Geometries and arrays that came in. -/
import Derived.Test.YtnbindmmbbiifaaGreatB6
namespace Go.Proofs.YtnbindmmbbiifaaGreat
open Go.RowKit
def TG : Open.Ty := .pair (.int .i64) (.pair (.int .i64) (.pair (.int .i64) .unit))
theorem geo_wf {n : Int} (h : (Lit.int .i64 n).wf = true) : -9223372036854775808 ≤ n ∧ n < 9223372036854775808 := by
  have h2 := h
  simp [Lit.wf, IntKind.min, IntKind.max, IntKind.bits, IntKind.signed] at h2
  omega
theorem reads_geo {w : World} {cs : List Value} {x : TG.den} (h : Open.Reads w TG cs x) : ∃ d p s : Int, cs = [.int .i64 d, .int .i64 p, .int .i64 s] := by
  have hl : cs.length = 3 := h.length
  match cs, hl with
  | [a, b, c], _ =>
    obtain ⟨⟨h1, g1⟩, ⟨h2, g2⟩, ⟨h3, g3⟩, _⟩ := h
    have e1 : a = .int .i64 x.1 := by simpa [Open.Ty.size] using h1
    have e2 : b = .int .i64 x.2.1 := by simpa [Open.Ty.size] using h2
    have e3 : c = .int .i64 x.2.2.1 := by simpa [Open.Ty.size] using h3
    exact ⟨_, _, _, by rw [e1, e2, e3]⟩
theorem reads_three {w : World} {cs : List Value} {x : List Int} (h : Open.Reads w (.arr 3 (.int .i64)) cs x) : ∃ a b c : Int, cs = [.int .i64 a, .int .i64 b, .int .i64 c] := by
  obtain ⟨h1, h2, h3⟩ := h
  have hl : cs.length = 3 := by simpa [Open.Ty.size] using h2
  match cs, hl with
  | [a, b, c], _ =>
    have e1 := (h3 0 (by omega)).1
    have e2 := (h3 1 (by omega)).1
    have e3 := (h3 2 (by omega)).1
    simp [Open.Ty.size] at e1 e2 e3
    exact ⟨_, _, _, by rw [e1, e2, e3]⟩
theorem geo_byte {n : Int} (h : (Lit.int .u8 n).wf = true) : ∃ b : Nat, b < 256 ∧ n = (b : Int) := by
  have h2 := h
  simp [Lit.wf, IntKind.min, IntKind.max, IntKind.bits, IntKind.signed] at h2
  exact ⟨n.toNat, by omega, by omega⟩
end Go.Proofs.YtnbindmmbbiifaaGreat
