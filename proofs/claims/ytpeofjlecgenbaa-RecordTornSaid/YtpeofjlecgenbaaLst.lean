/- A slice just laid, in a region that draws its order; a struct built of parts. -/
import Derived.Test.YtpeofjlecgenbaaOpK
namespace Go.Proofs.Ytpeofjlecgenbaa
open Go.RowKit
/-- A slice literal's value. -/
def Lst (xs : List Value) : Value → World → Prop := fun v w => ∃ g n, v = .slice (some ⟨g, 0, none⟩) n n ∧ xs.length = n ∧ Lies w w.heap.size (some ⟨g, 0, none⟩) xs
theorem Lst.monot (xs : List Value) : Monot (Lst xs) := fun _ _ _ ⟨g, n, h1, h2, h3⟩ hb => ⟨g, n, h1, h2, h3.step hb⟩
theorem lst_new (xs : List Value) (w : World) (t : TypeId) (n : Nat) (h : xs.length = n) : Lst xs (.slice (some ⟨w.heap.size, 0, none⟩) n n) (w.alloc (.cells xs.toArray t)) := ⟨_, n, rfl, h, Lies.new xs w t⟩
section
variable {P : Program} {o : Oper} {A : Act} {wx : World} {K : Act → World → Prop} {Q : Exit → Act → World → Prop} {φ : Value → World → Prop} {G : World → Prop}
theorem opBuildK (l : List Value) (ty : TypeId) (ps : List (Nat × Value)) (hb : P.built ty ps = some l.toArray) (d : Nat) (hd : o.dst = some d) (hs : d < A.tmps.size)
    (hK : ∀ a' w', (a'.defers = A.defers ∧ φ (a'.tmps.getD d undef) w' ∧ G w' ∧ Below wx.heap.size wx w') → K a' w')
    (parts : Array (Nat × Operand)) (hop : o.op = .build ty parts) (he : (parts.map fun (i, x) => (i, A.eval x)).toList = ps) (hφ : φ (.agg l.toArray) wx) (hG : G wx) : o.wp P A wx K Q := by
  refine wp_build ty parts hop (by rw [he, hb]; rfl) (hK _ _ ⟨put_defers _ _ _, ?_, hG, Below.refl _ _⟩)
  rw [hd, put_get A d _ hs, he, hb]
  exact hφ
end
end Go.Proofs.Ytpeofjlecgenbaa
