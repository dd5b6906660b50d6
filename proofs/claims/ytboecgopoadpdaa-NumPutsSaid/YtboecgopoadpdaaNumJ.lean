/- A slice of numbers that came in, as the walks take it. -/
import Derived.Test.YtboecgopoadpdaaNumI
namespace Go.Proofs.Ytboecgopoadpdaa
open Go.RowKit NumMath

theorem row_lies {w : World} {a : Option Addr} {len cap : Nat} {zs : List Int}
    (h : (a = none ∧ len = 0 ∧ cap = 0 ∧ zs = []) ∨
      ∃ x, a = some x ∧ len ≤ cap ∧ cap ≤ maxLen ∧ zs.length = cap ∧ (∀ i, i < zs.length → w.cell? (x.add i) = some (.int .i64 (zs.getD i 0))) ∧ ∀ n ∈ zs, (Lit.int .i64 n).wf = true) :
    ∃ l : List Int, l.length = len ∧ Lies w w.heap.size a (ints l) ∧ (∀ n ∈ l, (Lit.int .i64 n).wf = true) ∧ l.length ≤ maxLen := by
  rcases h with ⟨rfl, rfl, rfl, rfl⟩ | ⟨x, rfl, hl, hm, hz, hc, hwf⟩
  · exact ⟨[], rfl, fun h0 => by simp [ints] at h0, by simp, by simp⟩
  · refine ⟨zs.take len, by rw [List.length_take]; omega, fun h0 => ?_, fun n hn => hwf n (List.mem_of_mem_take hn), by rw [List.length_take]; omega⟩
    rw [ints_length, List.length_take] at h0
    obtain ⟨b, off, spot⟩ := x
    have hspot : spot = none := by
      have h1 := hc 0 (by omega)
      have h2 := World.cell?_spot h1
      simpa [Addr.add] using h2
    subst hspot
    have hlt : b < w.heap.size := by
      have := World.block_lt_of_cell? w _ (hc 0 (by omega))
      simpa [Addr.add_lit] using this
    refine ⟨b, off, rfl, hlt, fun j u hu => ?_⟩
    have hj : j < (zs.take len).length := by
      have := (List.getElem?_eq_some_iff.1 hu).1
      rwa [ints_length] at this
    rw [ints_get _ _ hj] at hu
    rw [List.length_take] at hj
    have h1 := hc j (by omega)
    rw [Addr.add_lit] at h1
    rw [h1]
    simp only [List.getElem_take] at hu
    rw [← hu]
    simp [List.getD, show j < zs.length by omega]

theorem wf_le {n : Int} (h : (Lit.int .i64 n).wf = true) : n ≤ 9223372036854775807 := by
  have := h
  simp [Lit.wf, IntKind.min, IntKind.max, IntKind.bits, IntKind.signed] at this
  omega
end Go.Proofs.Ytboecgopoadpdaa
