/- Contract of sha's Hex. -/
import Derived.Test.YtbcilifdgpfmnaaDoorShaI
import Derived.Test.YtbcilifdgpfmnaaDoorEq
import Derived.Test.YtbcilifdgpfmnaaDoorInv
namespace Go.Proofs.YtbcilifdgpfmnaaDoor
open Go.RowKit ShaMath

theorem hexB_snoc (l : List UInt8) (c : UInt8) : hexB (l ++ [c]) = hexB l ++ [digs.getD (c.toNat / 16) 0, digs.getD (c.toNat % 16) 0] := by simp [hexB]
theorem agg_byte : ∀ w, (isAgg 5).run Tryd.prog w = .ok false w := fun w => by kernel_rfl
theorem size_byte : ∀ w, (sizeOf 5).run Tryd.prog w = .ok 1 w := fun w => by kernel_rfl

theorem digit (q : Nat) (h : q < 16) : ((({ data := #[48, 49, 50, 51, 52, 53, 54, 55, 56, 57, 97, 98, 99, 100, 101, 102] } : ByteArray)[q]'h).toNat : Int) = ((digs.getD q 0).toNat : Int) := by
  match q, h with
  | 0, _ | 1, _ | 2, _ | 3, _ | 4, _ | 5, _ | 6, _ | 7, _ | 8, _ | 9, _ | 10, _ | 11, _ | 12, _ | 13, _ | 14, _ | 15, _ => rfl
  | n + 16, h => exact absurd h (by omega)
theorem and15 (c : UInt8) : bits .and .u8 (c.toNat : Int) 15 = ((c.toNat % 16 : Nat) : Int) := by
  have h := c.toNat_lt
  rw [show (15 : Int) = ((15 : Nat) : Int) from rfl, u8_and_nat _ _ (by omega) (by omega), show (15 : Nat) = 2 ^ 4 - 1 from rfl, Nat.and_two_pow_sub_one_eq_mod]

end Go.Proofs.YtbcilifdgpfmnaaDoor
