/- ShaNone's walk; digests held against one another. -/
import Derived.Test.YtmphjmbnfaimiaaDoorShaK
namespace Go.Proofs.YtmphjmbnfaimiaaDoor
open Go.RowKit ShaMath

theorem bytes_ints (l : List UInt8) : bytes l = (l.map fun b => (b.toNat : Int)).map (Value.int .u8) := by simp [bytes]
theorem ints_inj (D E : List UInt8) : (D.map fun b => (b.toNat : Int)) = (E.map fun b => (b.toNat : Int)) ↔ D = E := by
  constructor
  · intro h
    refine List.map_inj_right (f := fun b : UInt8 => (b.toNat : Int)) ?_ |>.1 h
    intro a b hab
    exact UInt8.toNat_inj.1 (by have h2 : (a.toNat : Int) = (b.toNat : Int) := hab; omega)
  · rintro rfl; rfl
theorem eq_hash (D E : List UInt8) (hD : D.length = 32) (hE : E.length = 32) (u : World) :
    (Op.equalIn 10000 31 (.agg (bytes D).toArray) (.agg (bytes E).toArray)).run Tryd.prog u = .ok (decide (D = E)) u := by
  rw [bytes_ints, bytes_ints, run_equal_ints 9998 31 5 32 .u8 _ _ u Tryd.underlying31 Tryd.underlying5 size_byte agg_byte (by simpa using hD) (by simpa using hE)]
  congr 1
  exact decide_eq_decide.2 (ints_inj D E)
theorem same_hash (D : List UInt8) (hD : D.length = 32) : ∀ u : World, (Op.equalIn 10000 31 (.agg (bytes D).toArray) (.agg (bytes D).toArray)).run Tryd.prog u = .ok true u := fun u => by rw [eq_hash D D hD hD u]; simp

end Go.Proofs.YtmphjmbnfaimiaaDoor
