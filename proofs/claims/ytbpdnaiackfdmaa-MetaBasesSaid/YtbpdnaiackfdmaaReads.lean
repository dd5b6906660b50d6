/- What a list of texts that came in reads as. -/
import Derived.Test.YtbpdnaiackfdmaaKit
import Derived.Test.YtbpdnaiackfdmaaOpen
namespace Go.Proofs.Ytbpdnaiackfdmaa
open Go.RowKit

theorem reads_strs {w : World} {a : Option Addr} {cap : Nat} {l : List ByteArray} (h : Open.Reads w (.sl 16 .str) [.slice a l.length cap] l) :
    Lies w w.heap.size a (strs l) ∧ (∀ s ∈ l, s.size ≤ 140737488351232) ∧ l.length ≤ cap ∧ cap ≤ 140737488351232 := by
  obtain ⟨a', cap', e, h1, h2, h3, h4⟩ := h
  simp at e
  obtain ⟨rfl, rfl⟩ := e
  refine ⟨fun h0 => ?_, fun s hs => ?_, h1, by omega⟩
  · rw [strs_length] at h0
    obtain ⟨b, off, e1, e2, e3⟩ := h4 h0
    refine ⟨b, off, e1, e2, fun j u hu => ?_⟩
    have hj : j < l.length := by
      have := (List.getElem?_eq_some_iff.1 hu).1
      rwa [strs_length] at this
    obtain ⟨cs', q1, q2, q3⟩ := e3 j hj
    have := q2 0 (by decide)
    rw [q3.1] at this
    rw [strs_get l j hj] at hu
    simpa [Open.Ty.size, ← hu] using this
  · obtain ⟨i, hi, rfl⟩ := List.mem_iff_getElem.1 hs
    obtain ⟨b, off, e1, e2, e3⟩ := h4 (by omega)
    obtain ⟨cs', q1, q2, q3⟩ := e3 i hi
    exact q3.2

/-- An array of bytes that came in. -/
def toByte (v : Value) : UInt8 := match v with | .int _ z => UInt8.ofNat z.toNat | _ => 0
theorem reads_bytes {w : World} {n : Nat} {cs : List Value} {x : List Int} (h : Open.Reads w (.arr n (.int .u8)) cs x) : ∃ H : List UInt8, H.length = n ∧ cs = bytes H := by
  obtain ⟨h1, h2, h3⟩ := h
  have hl : cs.length = n := by simpa [Open.Ty.size] using h2
  refine ⟨cs.map toByte, by simpa using hl, ?_⟩
  apply List.ext_getElem?
  intro i
  rw [bytes, List.getElem?_map, List.getElem?_map]
  by_cases hi : i < cs.length
  · have hx : i < x.length := by omega
    have h4 := h3 i hx
    simp only [Open.Ty.size, Nat.mul_one] at h4
    obtain ⟨h5, h6⟩ := h4
    have h7 : cs[i]? = some (.int .u8 x[i]) := by
      have := congrArg (·[0]?) h5
      simpa [List.getElem?_take, List.getElem?_drop] using this
    have hb : 0 ≤ x[i] ∧ x[i] ≤ 255 := by
      simp [Lit.wf, IntKind.min, IntKind.max, IntKind.bits, IntKind.signed] at h6
      omega
    rw [h7, Option.map_some, Option.map_some, toByte, UInt8.toNat_ofNat']
    congr 2
    omega
  · rw [List.getElem?_eq_none (by omega)]
    rfl

end Go.Proofs.Ytbpdnaiackfdmaa
