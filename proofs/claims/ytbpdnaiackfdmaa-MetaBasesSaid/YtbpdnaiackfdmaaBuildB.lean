/- A slice literal whose parts are blocks by value. -/
import Derived.Test.YtbpdnaiackfdmaaSlice
import Derived.Great.BuildSlice
namespace Go.Proofs.Ytbpdnaiackfdmaa
open Go.RowKit
section
variable {P : Program}
def buildSOf (o : Oper) (a : Act) : Option (TypeId × Nat × List (Nat × Value)) := match o.guard, o.op with | none, .buildSlice t n parts => some (t, n, parts.toList.map fun (i, x) => (i, a.eval x)) | _, _ => none
theorem wpBuildBK {ops : Array Oper} {rest : List Oper} {o : Oper} {a : Act} {w : World} {Q : Exit → Act → World → Prop} (vs : List (List Value)) (s : Nat) (T e : TypeId) (hT : P.underlying T = some (.slice e)) (hsz : (P.info? e).map (fun i => (i.size, i.zero.isSome)) = some (s, true))
    (hs : 0 < s) (hv : ∀ l ∈ vs, l.length = s) (hpos : 0 < vs.length) (hsm : vs.length * s ≤ 2 ^ 24)
    (ho : buildSOf o a = some (T, vs.length, (vs.zipIdx 0).map fun x => (x.2, .agg x.1.toArray)))
    (k : ∀ w', Row w' w.heap.size e vs.flatten → Below w.heap.size w w' → w'.heap.size = w.heap.size + 1 → wpList P ops Q rest (a.put o.dst (.slice (some ⟨w.heap.size, 0, none⟩) vs.length vs.length)) w') : wpList P ops Q (o :: rest) a w := by
  unfold buildSOf at ho
  split at ho
  · rename_i t n parts hg hop
    simp only [Option.some.injEq, Prod.mk.injEq] at ho
    obtain ⟨rfl, rfl, hp⟩ := ho
    cases hie : P.info? e with
    | none => simp [hie] at hsz
    | some ie =>
      simp only [hie, Option.map_some, Option.some.injEq, Prod.mk.injEq] at hsz
      obtain ⟨z, hzz⟩ := Option.isSome_iff_exists.1 hsz.2
      have hpp := Nat.mul_pos hpos hs
      have e1 : ((vs.map fun l => Value.agg l.toArray).zipIdx 0).map (fun x => (x.2, x.1)) = (vs.zipIdx 0).map fun x => (x.2, Value.agg x.1.toArray) := by
        rw [List.zipIdx_map, List.map_map]; rfl
      have hf := Great.fill_whole hs (vs.map fun l => Value.agg l.toArray) ((Array.range (vs.length * s)).map (z.cells[· % z.cells.size]!)) (fun v hm => by
        obtain ⟨l, hl, rfl⟩ := List.mem_map.1 hm
        show l.toArray.size = s
        simpa using hv l hl) (by simp)
      rw [e1] at hf
      have e2 : (vs.map fun l => Value.agg l.toArray).flatMap (fun v => v.cells.toList) = vs.flatten := by
        rw [List.flatMap_map, List.flatten_eq_flatMap]
        rfl
      rw [e2] at hf
      refine wpList_buildSlice hg t e vs.length parts hop _ ie z hT hie hzz (by rw [hsz.1]; omega) (by rw [hsz.1]; omega) (by rw [hsz.1, Array.toList_map, hp]; exact hf) ?_
      exact k _ (Row.new w e vs.flatten) ((Below.refl _ _).alloc (Nat.le_refl _) _) (by simp)
  · cases ho
end
end Go.Proofs.Ytbpdnaiackfdmaa
