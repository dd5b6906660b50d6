/- What a list of texts that came in reads as. -/
import Derived.Test.YtbehbefijiaehaaDoorKit
import Derived.Test.YtbehbefijiaehaaDoorOpen
namespace Go.Proofs.YtbehbefijiaehaaDoor
open Go.RowKit

theorem reads_strs {w : World} {a : Option Addr} {cap : Nat} {l : List ByteArray} (h : Open.Reads w (.sl 16 .str) [.slice a l.length cap] l) :
    Lies w w.heap.size a (strs l) ∧ (∀ s ∈ l, s.size ≤ 140737488351232) ∧ l.length ≤ cap ∧ cap ≤ 140737488351232 := by
  obtain ⟨a', cap', e, h1, h2, h3, h4⟩ := h
  simp at e
  obtain ⟨rfl, rfl⟩ := e
  refine ⟨fun h0 => ?_, fun s hs => ?_, h1, by omega⟩
  · rw [strs_length] at h0
    obtain ⟨b, off, e1, e2, e3⟩ := h4 h0
    refine ⟨b, off, e1, e2, fun j u hu => ?_⟩
    have hj : j < l.length := by
      have := (List.getElem?_eq_some_iff.1 hu).1
      rwa [strs_length] at this
    obtain ⟨cs', q1, q2, q3⟩ := e3 j hj
    have := q2 0 (by decide)
    rw [q3.1] at this
    rw [strs_get l j hj] at hu
    simpa [Open.Ty.size, ← hu] using this
  · obtain ⟨i, hi, rfl⟩ := List.mem_iff_getElem.1 hs
    obtain ⟨b, off, e1, e2, e3⟩ := h4 (by omega)
    obtain ⟨cs', q1, q2, q3⟩ := e3 i hi
    exact q3.2

end Go.Proofs.YtbehbefijiaehaaDoor
