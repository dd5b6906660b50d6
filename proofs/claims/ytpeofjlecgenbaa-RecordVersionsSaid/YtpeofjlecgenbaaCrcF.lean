/- The statements CrcSums and CrcOpens: their walks. -/
import Derived.Test.YtpeofjlecgenbaaCrcE
import Derived.Test.YtpeofjlecgenbaaOpen
namespace Go.Proofs.Ytpeofjlecgenbaa
open Go.RowKit CrcMath

/-- Texts that came in, as the walks take them. -/
theorem crc_reads_strs {w : World} {a : Option Addr} {cap : Nat} {l : List ByteArray} (h : Open.Reads w (.sl 16 .str) [.slice a l.length cap] l) :
    Lies w w.heap.size a (strs l) ∧ (∀ s ∈ l, s.size ≤ 140737488351232) ∧ l.length ≤ cap ∧ cap ≤ 140737488351232 := by
  obtain ⟨a', cap', e, h1, h2, h3, h4⟩ := h
  simp at e
  obtain ⟨rfl, rfl⟩ := e
  refine ⟨fun h0 => ?_, fun s hs => ?_, h1, by omega⟩
  · rw [strs_length] at h0
    obtain ⟨b, off, e1, e2, e3⟩ := h4 h0
    refine ⟨b, off, e1, e2, fun j u hu => ?_⟩
    have hj : j < l.length := by
      have := (List.getElem?_eq_some_iff.1 hu).1
      rwa [strs_length] at this
    obtain ⟨cs', q1, q2, q3⟩ := e3 j hj
    have := q2 0 (by decide)
    rw [q3.1] at this
    rw [strs_get l j hj] at hu
    simpa [Open.Ty.size, ← hu] using this
  · obtain ⟨i, hi, rfl⟩ := List.mem_iff_getElem.1 hs
    obtain ⟨b, off, e1, e2, e3⟩ := h4 (by omega)
    obtain ⟨cs', q1, q2, q3⟩ := e3 i hi
    exact q3.2

/-- What was sealed is opened. -/
theorem openR_seal (l : List UInt8) : openR (sealB l) = (l, 0) := by
  have e : (sealB l).length - 4 = l.length := by rw [sealB_length]; omega
  have h1 : (sealB l).take ((sealB l).length - 4) = l := by rw [e, sealB, List.take_left]
  have h2 : (sealB l).drop ((sealB l).length - 4) = tailB (sumI l) := by rw [e, sealB, List.drop_left]
  rw [openR_ok (by rw [sealB_length]; omega) (by rw [h1, h2]), h1]

end Go.Proofs.Ytpeofjlecgenbaa
