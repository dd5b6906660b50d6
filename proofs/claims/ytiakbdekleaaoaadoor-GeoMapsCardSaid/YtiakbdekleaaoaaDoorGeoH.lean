/- The document's Find. -/
import Derived.Test.YtiakbdekleaaoaaDoorGeoG
namespace Go.Proofs.YtiakbdekleaaoaaDoor
open Go.RowKit GeoMath
set_option linter.unusedVariables false
set_option maxRecDepth 100000

theorem plc_get (W S n k : Nat) (h : k < n) (j : Nat) (v : Value) (hj : (plv (pl W S k))[j]? = some v) : (plc W S n)[k * 4 + j]? = some v := by
  have hj4 : j < 4 := (List.getElem?_eq_some_iff.1 hj).1
  induction n with
  | zero => omega
  | succ n ih =>
    have hl : ∀ n, (plc W S n).length = n * 4 := fun n => by
      induction n with
      | zero => rfl
      | succ n ih => rw [plc_step, List.length_append, ih, Nat.add_mul]; rfl
    rw [plc_step]
    by_cases e : k < n
    · rw [List.getElem?_append_left (by rw [hl]; omega), ih e]
    · have e : k = n := by omega
      subst e
      rw [List.getElem?_append_right (by rw [hl]; omega), hl, Nat.add_sub_cancel_left, hj]
theorem plc_at {w : World} {W S n k bl off : Nat} (hc : ∀ j v, (plc W S n)[j]? = some v → w.cell? ⟨bl, off + j, none⟩ = some v) (h : k < n) : w.rangeAt bl (off + k * 4) (plv (pl W S k)) := by
  intro j v hj
  rw [Nat.add_assoc]
  exact hc _ _ (plc_get W S n k h j v hj)
theorem fits_place : Fits Tryd.prog 34 4 := ⟨⟨_, Tryd.underlying34, rfl⟩, by kernel_rfl⟩

end Go.Proofs.YtiakbdekleaaoaaDoor
