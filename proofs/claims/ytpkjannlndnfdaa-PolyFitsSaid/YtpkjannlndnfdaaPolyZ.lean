/- Contracts of poly's divisor and Gcd. -/
import Derived.Test.YtpkjannlndnfdaaPolyX
import Derived.Test.YtpkjannlndnfdaaPolyMath6
import Derived.Test.YtpkjannlndnfdaaPolyR
namespace Go.Proofs.Ytpkjannlndnfdaa
open Go.RowKit GfMath PolyMath
set_option linter.unusedVariables false

/-- A list of polynomials, whatever room they have. -/
structure Polz (w : World) (ts : List Hd) (ls : List (List Nat)) : Prop where
  len : ts.length = ls.length
  at_ : ∀ i (h : i < ts.length) (h2 : i < ls.length), ts[i].2.1 = ls[i].length ∧ ls[i].length ≤ ts[i].2.2 ∧ By ls[i] ∧ Lies w w.heap.size ts[i].1 (u8s ls[i])
theorem Polz.step {w w' : World} {ts : List Hd} {ls : List (List Nat)} (h : Polz w ts ls) (hb : Below w.heap.size w w') : Polz w' ts ls :=
  ⟨h.len, fun i h1 h2 => by obtain ⟨a, b, d, e⟩ := h.at_ i h1 h2; exact ⟨a, b, d, e.step hb⟩⟩
theorem Polz.nil (w : World) : Polz w [] [] := ⟨rfl, fun i h => by simp at h⟩
theorem Polz.get {w : World} {ts : List Hd} {ls : List (List Nat)} (h : Polz w ts ls) (k : Nat) (hk : k < ls.length) :
    ∃ a c, ts[k]'(by rw [h.len]; exact hk) = (a, ls[k].length, c) ∧ ls[k].length ≤ c ∧ By ls[k] ∧ Lies w w.heap.size a (u8s ls[k]) := by
  obtain ⟨h1, h2, h4, h5⟩ := h.at_ k (by rw [h.len]; exact hk) hk
  have hk' : k < ts.length := by rw [h.len]; exact hk
  refine ⟨(ts[k]'hk').1, (ts[k]'hk').2.2, ?_, h2, h4, h5⟩
  rw [← h1]
theorem Polz.snoc {w : World} {ts : List Hd} {ls : List (List Nat)} (h : Polz w ts ls) {a : Option Addr} {c : Nat} {l : List Nat} (hc : l.length ≤ c) (hl : By l) (hr : Lies w w.heap.size a (u8s l)) : Polz w (ts ++ [(a, l.length, c)]) (ls ++ [l]) := by
  refine ⟨by rw [List.length_append, List.length_append, h.len]; rfl, fun i h1 h2 => ?_⟩
  rw [List.length_append, List.length_singleton] at h1 h2
  by_cases e : i < ls.length
  · have e2 : i < ts.length := by rw [h.len]; exact e
    rw [List.getElem_append_left e2, List.getElem_append_left e]
    exact h.at_ i e2 e
  · have e1 : i = ls.length := by omega
    subst e1
    have e2 : ts.length = ls.length := h.len
    rw [List.getElem_append_right (by omega), List.getElem_append_right (by omega)]
    simp only [e2, Nat.sub_self, List.getElem_cons_zero]
    exact ⟨trivial, hc, hl, hr⟩

end Go.Proofs.Ytpkjannlndnfdaa
