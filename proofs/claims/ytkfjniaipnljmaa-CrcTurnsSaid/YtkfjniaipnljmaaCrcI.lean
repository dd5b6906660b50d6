/- Four bytes that came in, as CrcTells' walk takes them; all walks together. -/
import Derived.Test.YtkfjniaipnljmaaCrcG
import Derived.Test.YtkfjniaipnljmaaCrcH
namespace Go.Proofs.Ytkfjniaipnljmaa
open Go.RowKit

/-- A byte that came in is a byte. -/
theorem byte_of {n : Int} (h : (Lit.int .u8 n).wf = true) : ∃ b : UInt8, n = (b.toNat : Int) := by
  have h2 := h
  simp [Lit.wf, IntKind.min, IntKind.max, IntKind.bits, IntKind.signed] at h2
  refine ⟨UInt8.ofNat n.toNat, ?_⟩
  rw [UInt8.toNat_ofNat']
  omega

theorem reads_four {w : World} {cs : List Value} {x : List Int} (h : Open.Reads w (.arr 4 (.int .u8)) cs x) :
    ∃ b0 b1 b2 b3 : UInt8, cs = [.int .u8 (b0.toNat : Int), .int .u8 (b1.toNat : Int), .int .u8 (b2.toNat : Int), .int .u8 (b3.toNat : Int)] := by
  obtain ⟨h1, h2, h3⟩ := h
  have hl : cs.length = 4 := h2
  match cs, hl, x, h1, h3 with
  | [c0, c1, c2, c3], _, [x0, x1, x2, x3], _, h3 =>
    have g0 := h3 0 (by simp)
    have g1 := h3 1 (by simp)
    have g2 := h3 2 (by simp)
    have g3 := h3 3 (by simp)
    simp [Open.Reads, Open.Ty.size] at g0 g1 g2 g3
    obtain ⟨b0, e0⟩ := byte_of g0.2
    obtain ⟨b1, e1⟩ := byte_of g1.2
    obtain ⟨b2, e2⟩ := byte_of g2.2
    obtain ⟨b3, e3⟩ := byte_of g3.2
    exact ⟨b0, b1, b2, b3, by rw [g0.1, g1.1, g2.1, g3.1, e0, e1, e2, e3]⟩
end Go.Proofs.Ytkfjniaipnljmaa
