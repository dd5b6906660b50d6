/- Geometries, lists of blocks that came in. -/
import Derived.Test.YtlcmnpbbfnfcmaaGreatStrI
import Derived.Test.YtlcmnpbbfnfcmaaGreatB5
namespace Go.Proofs.YtlcmnpbbfnfcmaaGreat
open Go.RowKit CrcMath GfMath PolyMath RsMath SolMath GeoMath
set_option linter.unusedVariables false
set_option maxRecDepth 100000
def TG : Open.Ty := .pair (.int .i64) (.pair (.int .i64) (.pair (.int .i64) .unit))
theorem geo_wf {n : Int} (h : (Lit.int .i64 n).wf = true) : -9223372036854775808 ≤ n ∧ n < 9223372036854775808 := by
  have h2 := h
  simp [Lit.wf, IntKind.min, IntKind.max, IntKind.bits, IntKind.signed] at h2
  omega
theorem reads_geo {w : World} {cs : List Value} {x : TG.den} (h : Open.Reads w TG cs x) : ∃ d p s : Int, cs = [.int .i64 d, .int .i64 p, .int .i64 s] := by
  have hl : cs.length = 3 := h.length
  match cs, hl with
  | [a, b, c], _ =>
    obtain ⟨⟨h1, g1⟩, ⟨h2, g2⟩, ⟨h3, g3⟩, _⟩ := h
    have e1 : a = .int .i64 x.1 := by simpa [Open.Ty.size] using h1
    have e2 : b = .int .i64 x.2.1 := by simpa [Open.Ty.size] using h2
    have e3 : c = .int .i64 x.2.2.1 := by simpa [Open.Ty.size] using h3
    exact ⟨_, _, _, by rw [e1, e2, e3]⟩
theorem reads_blocks {w : World} {a : Option Addr} {cap : Nat} {l : List (List Int)} {by_ : Nat} (h : Open.Reads w (.sl by_ (.arr 60 (.int .u8))) [.slice a l.length cap] l) :
    ∃ L : List (List UInt8), L.length = l.length ∧ (∀ b ∈ L, b.length = 60) ∧ Lies w w.heap.size a (bytes L.flatten) ∧ l.length ≤ cap := by
  obtain ⟨a', cap', e, h1, h2, h3, h4⟩ := h
  simp at e
  obtain ⟨rfl, rfl⟩ := e
  by_cases h0 : 0 < l.length
  · obtain ⟨b, off, e1, e2, e3⟩ := h4 h0
    have hc : ∀ i, i < l.length → ∃ H : List UInt8, H.length = 60 ∧ ∀ j, j < 60 → w.cell? ⟨b, off + (i * 60 + j), none⟩ = (bytes H)[j]? := fun i hi => by
      obtain ⟨cs', q1, q2, q3⟩ := e3 i hi
      obtain ⟨H, hH, rfl⟩ := reads_bytes q3
      exact ⟨H, hH, fun j hj => by simpa [Open.Ty.size] using q2 j (by simpa [Open.Ty.size] using hj)⟩
    have hL : ∀ n, n ≤ l.length → ∃ L : List (List UInt8), L.length = n ∧ ∀ i (hi : i < L.length), L[i].length = 60 ∧ ∀ j, j < 60 → w.cell? ⟨b, off + (i * 60 + j), none⟩ = (bytes L[i])[j]? := by
      intro n
      induction n with
      | zero => exact fun _ => ⟨[], rfl, fun i hi => by simp at hi⟩
      | succ n ih =>
        intro hn
        obtain ⟨L, hl, hp⟩ := ih (by omega)
        obtain ⟨H, hH, hq⟩ := hc n (by omega)
        refine ⟨L ++ [H], by simp [hl], fun i hi => ?_⟩
        by_cases hin : i < L.length
        · rw [List.getElem_append_left hin]; exact hp i hin
        · have e : i = n := by simp at hi; omega
          subst e
          rw [List.getElem_append_right (by omega)]
          simp only [hl, Nat.sub_self, List.getElem_cons_zero]
          exact ⟨hH, hq⟩
    obtain ⟨L, hl, hp⟩ := hL l.length (Nat.le_refl _)
    have h60 : ∀ c ∈ L, c.length = 60 := fun c hc => by
      obtain ⟨i, hi, rfl⟩ := List.mem_iff_getElem.1 hc
      exact (hp i hi).1
    refine ⟨L, hl, h60, fun _ => ⟨b, off, e1, e2, fun j u hj => ?_⟩, h1⟩
    have hjl : j < 60 * L.length := by
      have := (List.getElem?_eq_some_iff.1 hj).1
      rwa [bytes_length, flat_length L h60] at this
    have hk : j / 60 < L.length := by omega
    obtain ⟨z, e4, e5⟩ := flat_mid L h60 (j / 60) hk
    have hx := (hp (j / 60) hk).2 (j % 60) (Nat.mod_lt _ (by decide))
    rw [show j / 60 * 60 + j % 60 = j by omega] at hx
    rw [hx]
    have hlen := (hp (j / 60) hk).1
    generalize L[j / 60] = C at e4 hx hlen ⊢
    rw [e4, bytes_append, bytes_append, List.append_assoc, List.getElem?_append_right (by rw [bytes_length, e5]; omega), bytes_length, e5, List.getElem?_append_left (by rw [bytes_length, hlen]; omega), show j - 60 * (j / 60) = j % 60 by omega] at hj
    exact hj
  · exact ⟨[], by simp; omega, fun b hb => by simp at hb, fun h => by simp [bytes] at h, h1⟩
theorem reads_fb {w : World} {a : Option Addr} {cap : Nat} {l : List (List Int)} {by_ : Nat} (h : Open.Reads w (.sl by_ (.arr 60 (.int .u8))) [.slice a l.length cap] l) : ∃ f : Fb, Lies w w.heap.size a (bytes (grid l.length f)) := by
  obtain ⟨L, h1, h2, h3, _⟩ := reads_blocks h
  refine ⟨ofL L, ?_⟩
  rw [← h1, ← grid_of L h2]
  exact h3
end Go.Proofs.YtlcmnpbbfnfcmaaGreat
