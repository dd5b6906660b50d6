/- A struct built of parts, by value. -/
import Derived.Test.YtbpdnaiackfdmaaRow
namespace Go.Proofs.Ytbpdnaiackfdmaa
open Go.RowKit
set_option linter.unusedVariables false
section
variable {P : Program}
def buildP (o : Oper) (a : Act) : Option (TypeId × List (Nat × Value)) := match o.guard, o.op with | none, .build t ps => some (t, ps.toList.map fun x => (x.1, a.eval x.2)) | _, _ => none
theorem wpBuildPK {ops : Array Oper} {rest : List Oper} {o : Oper} {a : Act} {w : World} {Q : Exit → Act → World → Prop} (l : List Value) (ty : TypeId) (ps : List (Nat × Value)) (hb : P.built ty ps = some l.toArray) (ho : buildP o a = some (ty, ps))
    (k : wpList P ops Q rest (a.put o.dst (.agg l.toArray)) w) : wpList P ops Q (o :: rest) a w := by
  unfold buildP at ho
  split at ho
  · rename_i t qs hg hop
    simp only [Option.some.injEq, Prod.mk.injEq] at ho
    obtain ⟨rfl, rfl⟩ := ho
    have e : (qs.map fun (i, x) => (i, a.eval x)).toList = qs.toList.map fun x => (x.1, a.eval x.2) := by simp
    refine wpList_build hg t qs hop (by rw [e, hb]; rfl) ?_
    rw [e, hb]
    exact k
  · cases ho
end
end Go.Proofs.Ytbpdnaiackfdmaa
