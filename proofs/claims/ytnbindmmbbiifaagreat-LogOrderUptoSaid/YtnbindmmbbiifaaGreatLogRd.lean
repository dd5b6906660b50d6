/- Slices of records that came in. -/
import Derived.Test.YtnbindmmbbiifaaGreatB6
import Derived.Test.YtnbindmmbbiifaaGreatRecR
namespace Go.Proofs.YtnbindmmbbiifaaGreat
open Go.RowKit
set_option linter.unusedVariables false
set_option linter.unusedSimpArgs false
theorem rcs_back {l : List Rc} {j : Nat} {u : Value} (h : (rcs l)[j]? = some u) : ∃ hi : j / 4 < l.length, (l[j / 4]).cells[j % 4]? = some u := by
  have hj : j < l.length * 4 := by
    rw [← rcs_length]
    exact (List.getElem?_eq_some_iff.1 h).1
  have hi : j / 4 < l.length := by omega
  refine ⟨hi, ?_⟩
  have hl : (l[j / 4]).cells.length = 4 := rfl
  have hm : j % 4 < (l[j / 4]).cells.length := by rw [hl]; omega
  have := rcs_get l (j / 4) hi (j % 4) _ (List.getElem?_eq_getElem hm)
  rw [show j / 4 * 4 + j % 4 = j by omega, h] at this
  rw [List.getElem?_eq_getElem hm, ← this]
theorem reads_recs {w : World} {a : Option Addr} {cap by_ : Nat} {l : List TRc.den} (h : Open.Reads w (.sl by_ TRc) [.slice a l.length cap] l) : ∃ L : List Rc, L.length = l.length ∧ Lies w w.heap.size a (rcs L) := by
  obtain ⟨a', cap', hc, _, _, _, hr⟩ := h
  obtain ⟨rfl, rfl⟩ : a' = a ∧ cap' = cap := by simp at hc; exact ⟨hc.1.symm, hc.2.symm⟩
  rcases Nat.eq_zero_or_pos l.length with h0 | h0
  · exact ⟨[], by rw [h0]; rfl, Lies.nil _ _ _⟩
  · obtain ⟨b, off, ha, hb, hx⟩ := hr h0
    have hp : ∀ i, i < l.length → ∃ r : Rc, ∀ j u, r.cells[j]? = some u → w.cell? ⟨b, off + (i * 4 + j), none⟩ = some u := fun i hi => by
      obtain ⟨cs, h1, h2, h3⟩ := hx i hi
      obtain ⟨k, s, n, v, rfl⟩ := reads_rec h3
      refine ⟨⟨k, s, n, v⟩, fun j u hj => ?_⟩
      have hj4 : j < 4 := (List.getElem?_eq_some_iff.1 hj).1
      have := h2 j hj4
      rw [show TRc.size = 4 from rfl] at this
      rw [this]
      exact hj
    obtain ⟨L, hL, hL2⟩ := Open.choose_list (α := Rc) (fun i r => ∀ j u, r.cells[j]? = some u → w.cell? ⟨b, off + (i * 4 + j), none⟩ = some u) l.length hp ()
    refine ⟨L, hL, fun _ => ⟨b, off, ha, hb, fun j u hj => ?_⟩⟩
    obtain ⟨hi, hc2⟩ := rcs_back hj
    have := hL2 (j / 4) hi _ _ hc2
    rwa [show j / 4 * 4 + j % 4 = j by omega] at this
end Go.Proofs.YtnbindmmbbiifaaGreat
