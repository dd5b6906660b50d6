/- A guarded load of a part of a block, by value. -/
import Derived.Test.YtbpdnaiackfdmaaOpK
namespace Go.Proofs.Ytbpdnaiackfdmaa
open Go.RowKit
section
variable {P : Program}
theorem wpLoadRG {ops : Array Oper} {rest : List Oper} {o : Oper} {a : Act} {w : World} {Q : Exit → Act → World → Prop} {g i : Nat} {l : List Value} (h : w.rangeAt g i l) (ty : TypeId) {n : Nat} (hf : Fits P ty n) (hl : l.length = n)
    (ho : loadG ops o a = some (ty, .pointer (some ⟨g, i, none⟩))) (k : wpList P ops Q rest (a.put o.dst (.agg l.toArray)) w) : wpList P ops Q (o :: rest) a w := by
  unfold loadG at ho
  split at ho
  · rename_i hw
    split at ho
    · rename_i ty' x hop
      simp only [Option.some.injEq, Prod.mk.injEq] at ho
      obtain ⟨rfl, hx⟩ := ho
      obtain ⟨d, hu, hd⟩ := hf.row
      refine wpList_step fun K hK => ?_
      rw [if_pos hw]
      exact wp_load_mid ty' x hop g i hx l d h hu hd (by rw [hl]; exact hf.size) (hK _ _ k)
    · cases ho
  · cases ho
end
end Go.Proofs.Ytbpdnaiackfdmaa
