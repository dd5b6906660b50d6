/- A store of a part of a block by value, in a region that draws its order (for region_store's stepS). -/
import Derived.Test.YtbpdnaiackfdmaaOpK
namespace Go.Proofs.Ytbpdnaiackfdmaa
open Go.RowKit
section
variable {P : Program}
theorem opStoreMidK {o : Oper} {A : Act} {wx : World} {K : Act → World → Prop} {Q : Exit → Act → World → Prop} {H : World → Prop} {g i : Nat} {t : TypeId} {x y z : List Value} (h : Row wx g t (x ++ y ++ z)) (hx0 : x.length = i) (ty : TypeId) (m : List Value) {n : Nat} (hf : Fits P ty n) (hy : y.length = n) (hm : m.length = n) (h1 : m.all (·.oneCell') = true)
    (hK : ∀ a' w', (a'.defers = A.defers ∧ H w') → K a' w') (p q : Operand) (hop : o.op = .store ty p q) (hp : A.eval p = .pointer (some ⟨g, i, none⟩)) (hq : A.eval q = .agg m.toArray)
    (hH : ∀ w', Row w' g t (x ++ m ++ z) → Only g wx w' → w'.heap.size = wx.heap.size → H w') : o.wp P A wx K Q :=
  wp_store_mid ty p q hop g i m.toArray hp hq (by simpa using h.there i m.length hx0 (by rw [hy, hm])) (by simpa [hm] using hf.size) (by simpa using h1)
    (hK _ _ ⟨put_defers _ _ _, by simpa using hH _ (Row.setCells m h (by rw [hy, hm]) i hx0) (Only.setCells m i (Only.refl g wx)) (World.size_setCells _ _ _ _)⟩)
end
end Go.Proofs.Ytbpdnaiackfdmaa
