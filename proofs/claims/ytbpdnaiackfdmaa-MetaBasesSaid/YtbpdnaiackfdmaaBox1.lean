/- Boxes of one cell. -/
import Derived.Test.YtbpdnaiackfdmaaRow
namespace Go.Proofs.Ytbpdnaiackfdmaa
open Go.RowKit
set_option linter.unusedVariables false
set_option maxRecDepth 100000

section
variable {P : Program}
theorem wpBox1K {ops : Array Oper} {rest : List Oper} {o : Oper} {a : Act} {w : World} {Q : Exit → Act → World → Prop} (v : Value) (ty : TypeId) (hv : v.cells = #[v]) (hb : boxOf o a = some (ty, v))
    (k : ∀ w', Row w' w.heap.size ty [v] → Below w.heap.size w w' → w'.heap.size = w.heap.size + 1 → wpList P ops Q rest (a.put o.dst (.pointer (some ⟨w.heap.size, 0, none⟩))) w') : wpList P ops Q (o :: rest) a w := by
  obtain ⟨hgd, x, ho, hx⟩ := boxOf_spec hb
  exact wpList_plain hgd fun _ hK => by
    unfold Oper.wp execOp
    simp only [ho, hx, Instr.box, newVar, hv]
    simp [go_sem]
    exact hK _ _ (k _ (Row.new w ty [v]) ((Below.refl _ _).alloc (Nat.le_refl _) _) (by simp))
theorem wpAlloc1K {ops : Array Oper} {rest : List Oper} {o : Oper} {a : Act} {w : World} {Q : Exit → Act → World → Prop} (z : Value) (ty : TypeId) (hv : z.cells = #[z]) (hz : ∀ u, (zeroValue ty).run P u = .ok z u) (ho : allocOf o = some ty)
    (k : ∀ w', Row w' w.heap.size ty [z] → Below w.heap.size w w' → w'.heap.size = w.heap.size + 1 → wpList P ops Q rest (a.put o.dst (.pointer (some ⟨w.heap.size, 0, none⟩))) w') : wpList P ops Q (o :: rest) a w := by
  obtain ⟨hgd, ho⟩ := allocOf_spec ho
  exact wpList_plain hgd fun _ hK => by
    have h := hz w
    unfold Oper.wp execOp
    simp only [ho, Instr.alloc, Sem.run_bind, h, Result.andThen_ok, newVar, hv]
    simp [go_sem]
    exact hK _ _ (k _ (Row.new w ty [z]) ((Below.refl _ _).alloc (Nat.le_refl _) _) (by simp))
end
end Go.Proofs.Ytbpdnaiackfdmaa
