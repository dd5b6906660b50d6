/- Lists of records in memory; records that came in. -/
import Derived.Test.YtbpdnaiackfdmaaRecA0
import Derived.Test.YtbpdnaiackfdmaaOpen
import Derived.Test.YtbpdnaiackfdmaaReads
import Derived.Test.YtbpdnaiackfdmaaSliceM
namespace Go.Proofs.Ytbpdnaiackfdmaa
open Go.RowKit
set_option linter.unusedVariables false
set_option linter.unusedSimpArgs false
set_option maxRecDepth 100000

def Rc.cells (r : Rc) : List Value := rcv r.k r.s r.n r.v
/-- The cells of a list of records. -/
def rcs (l : List Rc) : List Value := l.flatMap Rc.cells
theorem rcs_nil : rcs [] = [] := rfl
theorem rcs_cons (r : Rc) (l : List Rc) : rcs (r :: l) = r.cells ++ rcs l := rfl
theorem rcs_append (l m : List Rc) : rcs (l ++ m) = rcs l ++ rcs m := by simp [rcs]
theorem rcs_one (r : Rc) : rcs [r] = r.cells := by simp [rcs]
theorem rcs_length (l : List Rc) : (rcs l).length = l.length * 4 := by
  induction l with
  | nil => rfl
  | cons r l ih => rw [rcs_cons, List.length_append, ih, List.length_cons]; show 4 + _ = _; omega
theorem rcs_cell (l : List Rc) : (rcs l).all (·.oneCell') = true := by
  induction l with
  | nil => rfl
  | cons r l ih => rw [rcs_cons, List.all_append, ih]; rfl
theorem rcs_get (l : List Rc) (i : Nat) (h : i < l.length) (j : Nat) (u : Value) (hj : (l[i].cells)[j]? = some u) : (rcs l)[i * 4 + j]? = some u := by
  induction l generalizing i with
  | nil => exact absurd h (Nat.not_lt_zero _)
  | cons r l ih =>
    rw [rcs_cons]
    have h4 : r.cells.length = 4 := rfl
    cases i with
    | zero =>
      have hj4 : j < 4 := (List.getElem?_eq_some_iff.1 hj).1
      rw [Nat.zero_mul, Nat.zero_add, List.getElem?_append_left (by rw [h4]; exact hj4)]
      exact hj
    | succ i =>
      rw [List.getElem?_append_right (by rw [h4]; omega), h4, show (i + 1) * 4 + j - 4 = i * 4 + j by omega]
      exact ih i (by simpa using h) (by simpa using hj)
theorem many_rec : Many Try.prog 31 4 := Many.of (by kernel_rfl)
/-- Where one of them lies. -/
theorem rcs_at {w : World} {bl off : Nat} {l : List Rc} (hc : ∀ j u, (rcs l)[j]? = some u → w.cell? ⟨bl, off + j, none⟩ = some u) (i : Nat) (h : i < l.length) : w.rangeAt bl (off + i * 4) l[i].cells := by
  intro j u hj
  have := hc (i * 4 + j) u (rcs_get l i h j u hj)
  rwa [← Nat.add_assoc] at this

def TRc : Open.Ty := .pair (.int .i64) (.pair (.int .i64) (.pair (.int .i64) (.pair (.int .i64) .unit)))
theorem reads_rec {w : World} {cs : List Value} {x : TRc.den} (h : Open.Reads w TRc cs x) : ∃ k s n v : Int, cs = rcv k s n v := by
  have hl : cs.length = 4 := h.length
  match cs, hl with
  | [a, b, c, d], _ =>
    obtain ⟨⟨h1, g1⟩, ⟨h2, g2⟩, ⟨h3, g3⟩, ⟨h4, g4⟩, _⟩ := h
    have e1 : a = .int .i64 x.1 := by simpa [Open.Ty.size] using h1
    have e2 : b = .int .i64 x.2.1 := by simpa [Open.Ty.size] using h2
    have e3 : c = .int .i64 x.2.2.1 := by simpa [Open.Ty.size] using h3
    have e4 : d = .int .i64 x.2.2.2.1 := by simpa [Open.Ty.size] using h4
    exact ⟨_, _, _, _, by rw [e1, e2, e3, e4]; rfl⟩
theorem rcs_back {l : List Rc} {j : Nat} {u : Value} (h : (rcs l)[j]? = some u) : ∃ hi : j / 4 < l.length, (l[j / 4]).cells[j % 4]? = some u := by
  have hj : j < l.length * 4 := by
    rw [← rcs_length]
    exact (List.getElem?_eq_some_iff.1 h).1
  have hi : j / 4 < l.length := by omega
  refine ⟨hi, ?_⟩
  have hl : (l[j / 4]).cells.length = 4 := rfl
  have hm : j % 4 < (l[j / 4]).cells.length := by rw [hl]; omega
  have := rcs_get l (j / 4) hi (j % 4) _ (List.getElem?_eq_getElem hm)
  rw [show j / 4 * 4 + j % 4 = j by omega, h] at this
  rw [List.getElem?_eq_getElem hm, ← this]
theorem reads_recs {w : World} {a : Option Addr} {cap by_ : Nat} {l : List TRc.den} (h : Open.Reads w (.sl by_ TRc) [.slice a l.length cap] l) : ∃ L : List Rc, L.length = l.length ∧ Lies w w.heap.size a (rcs L) := by
  obtain ⟨a', cap', hc, _, _, _, hr⟩ := h
  obtain ⟨rfl, rfl⟩ : a' = a ∧ cap' = cap := by simp at hc; exact ⟨hc.1.symm, hc.2.symm⟩
  rcases Nat.eq_zero_or_pos l.length with h0 | h0
  · exact ⟨[], by rw [h0]; rfl, Lies.nil _ _ _⟩
  · obtain ⟨b, off, ha, hb, hx⟩ := hr h0
    have hp : ∀ i, i < l.length → ∃ r : Rc, ∀ j u, r.cells[j]? = some u → w.cell? ⟨b, off + (i * 4 + j), none⟩ = some u := fun i hi => by
      obtain ⟨cs, h1, h2, h3⟩ := hx i hi
      obtain ⟨k, s, n, v, rfl⟩ := reads_rec h3
      refine ⟨⟨k, s, n, v⟩, fun j u hj => ?_⟩
      have hj4 : j < 4 := (List.getElem?_eq_some_iff.1 hj).1
      have := h2 j hj4
      rw [show TRc.size = 4 from rfl] at this
      rw [this]
      exact hj
    obtain ⟨L, hL, hL2⟩ := Open.choose_list (α := Rc) (fun i r => ∀ j u, r.cells[j]? = some u → w.cell? ⟨b, off + (i * 4 + j), none⟩ = some u) l.length hp ()
    refine ⟨L, hL, fun _ => ⟨b, off, ha, hb, fun j u hj => ?_⟩⟩
    obtain ⟨hi, hc2⟩ := rcs_back hj
    have := hL2 (j / 4) hi _ _ hc2
    rwa [show j / 4 * 4 + j % 4 = j by omega] at this
end Go.Proofs.Ytbpdnaiackfdmaa
