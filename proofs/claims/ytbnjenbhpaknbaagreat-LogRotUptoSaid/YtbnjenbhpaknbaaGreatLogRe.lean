/- Slices of turns that came in. -/
import Derived.Test.YtbnjenbhpaknbaaGreatB6
namespace Go.Proofs.YtbnjenbhpaknbaaGreat
open Go.RowKit
set_option linter.unusedVariables false
set_option linter.unusedSimpArgs false
def TTn : Open.Ty := .pair (.int .u8) (.pair (.int .u8) (.pair (.int .u8) (.pair (.int .u8) .unit)))
theorem twf_byte {n : Int} (h : (Lit.int .u8 n).wf = true) : ∃ b : UInt8, n = (b.toNat : Int) := by
  have h2 := h
  simp [Lit.wf, IntKind.min, IntKind.max, IntKind.bits, IntKind.signed] at h2
  refine ⟨UInt8.ofNat n.toNat, ?_⟩
  rw [UInt8.toNat_ofNat', Nat.mod_eq_of_lt (by omega)]
  omega
theorem reads_turn {w : World} {cs : List Value} {x : TTn.den} (h : Open.Reads w TTn cs x) : ∃ t : Tn, cs = t.cells := by
  have hl : cs.length = 4 := h.length
  match cs, hl with
  | [a, b, c, d], _ =>
    obtain ⟨⟨h1, g1⟩, ⟨h2, g2⟩, ⟨h3, g3⟩, ⟨h4, g4⟩, _⟩ := h
    obtain ⟨b1, k1⟩ := twf_byte g1
    obtain ⟨b2, k2⟩ := twf_byte g2
    obtain ⟨b3, k3⟩ := twf_byte g3
    obtain ⟨b4, k4⟩ := twf_byte g4
    have e1 : a = .int .u8 x.1 := by simpa [Open.Ty.size] using h1
    have e2 : b = .int .u8 x.2.1 := by simpa [Open.Ty.size] using h2
    have e3 : c = .int .u8 x.2.2.1 := by simpa [Open.Ty.size] using h3
    have e4 : d = .int .u8 x.2.2.2.1 := by simpa [Open.Ty.size] using h4
    exact ⟨⟨b1, b2, b3, b4⟩, by rw [e1, e2, e3, e4, k1, k2, k3, k4]; rfl⟩
theorem reads_turns {w : World} {a : Option Addr} {cap by_ : Nat} {l : List TTn.den} (h : Open.Reads w (.sl by_ TTn) [.slice a l.length cap] l) : ∃ L : List Tn, L.length = l.length ∧ Lies w w.heap.size a (tcs L) := by
  obtain ⟨a', cap', hc, _, _, _, hr⟩ := h
  obtain ⟨rfl, rfl⟩ : a' = a ∧ cap' = cap := by simp at hc; exact ⟨hc.1.symm, hc.2.symm⟩
  rcases Nat.eq_zero_or_pos l.length with h0 | h0
  · exact ⟨[], by rw [h0]; rfl, Lies.nil _ _ _⟩
  · obtain ⟨b, off, ha, hb, hx⟩ := hr h0
    have hp : ∀ i, i < l.length → ∃ r : Tn, ∀ j u, r.cells[j]? = some u → w.cell? ⟨b, off + (i * 4 + j), none⟩ = some u := fun i hi => by
      obtain ⟨cs, h1, h2, h3⟩ := hx i hi
      obtain ⟨t, rfl⟩ := reads_turn h3
      refine ⟨t, fun j u hj => ?_⟩
      have hj4 : j < 4 := (List.getElem?_eq_some_iff.1 hj).1
      have := h2 j hj4
      rw [show TTn.size = 4 from rfl] at this
      rw [this]
      exact hj
    obtain ⟨L, hL, hL2⟩ := Open.choose_list (α := Tn) (fun i r => ∀ j u, r.cells[j]? = some u → w.cell? ⟨b, off + (i * 4 + j), none⟩ = some u) l.length hp ()
    refine ⟨L, hL, fun _ => ⟨b, off, ha, hb, fun j u hj => ?_⟩⟩
    obtain ⟨hi, hc2⟩ := tcs_back hj
    have := hL2 (j / 4) hi _ _ hc2
    rwa [show j / 4 * 4 + j % 4 = j by omega] at this
end Go.Proofs.YtbnjenbhpaknbaaGreat
