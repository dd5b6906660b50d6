/- The lines of a map: no program in it. -/
import Derived.Test.YtiakbdekleaaoaaDoorGeoMath2
import Derived.Test.YtiakbdekleaaoaaDoorKit
namespace Go.Proofs.YtiakbdekleaaoaaDoor.GeoMath
open Go.Proofs.YtiakbdekleaaoaaDoor
set_option linter.unusedVariables false

def dg (n : Int) : ByteArray := str [UInt8.ofNat (48 + n.toNat)]
def nm (a : Int) : ByteArray := if a = 0 then ⟨#[103, 111, 108, 100, 101, 110]⟩ else if a = 1 then ⟨#[97]⟩ else ⟨#[98]⟩
def partT (d c : Int) : ByteArray := if c < d then ⟨#[100]⟩ ++ dg c else ⟨#[112]⟩ ++ dg (c - d)
def slotT (d a b c : Int) : ByteArray := nm a ++ ⟨#[32]⟩ ++ dg b ++ partT d c
def logT (a b c : Int) : ByteArray := ⟨#[108, 111, 103, 32]⟩ ++ dg a ++ ⟨#[46]⟩ ++ dg b ++ ⟨#[46]⟩ ++ dg c
def talT (a : Int) : ByteArray := ⟨#[116, 97, 108, 108, 121, 32]⟩ ++ dg a
def txt (d : Int) (p : Pl) : ByteArray := if p.w = 0 then slotT d p.a p.b p.c else if p.w = 1 then logT p.a p.b p.c else talT p.a
def txs (d : Int) (W S n : Nat) : List ByteArray := (pls W S n).map (txt d)
theorem txs_succ (d : Int) (W S n : Nat) : txs d W S (n + 1) = txs d W S n ++ [txt d (pl W S n)] := by rw [txs, pls, List.map_append]; rfl
theorem txs_length (d : Int) (W S n : Nat) : (txs d W S n).length = n := by rw [txs, List.length_map, pls_length]
theorem txs_get (d : Int) (W S n k : Nat) (h : k < n) : (txs d W S n)[k]? = some (txt d (pl W S k)) := by rw [txs, List.getElem?_map, pls_get W S n k h]; rfl
/-- The log's lines, n of them. -/
def lgs (n : Nat) : List ByteArray := (List.range n).map fun j => logT ((j / 8 : Nat) : Int) ((j / 4 % 2 : Nat) : Int) ((j % 4 : Nat) : Int)
theorem lgs_succ (n : Nat) : lgs (n + 1) = lgs n ++ [logT ((n / 8 : Nat) : Int) ((n / 4 % 2 : Nat) : Int) ((n % 4 : Nat) : Int)] := by rw [lgs, List.range_succ, List.map_append]; rfl
theorem lgs_length (n : Nat) : (lgs n).length = n := by simp [lgs]
theorem txs_log (d : Int) (W S n : Nat) (h : n ≤ 16) : txs d W S (3 * (W * S) + n) = txs d W S (3 * (W * S)) ++ lgs n := by
  induction n with
  | zero => simp [lgs]
  | succ n ih =>
    rw [← Nat.add_assoc, txs_succ, ih (by omega), lgs_succ, List.append_assoc]
    congr 2
    rw [pl, if_neg (by omega), if_pos (by omega), Nat.add_sub_cancel_left]
    rfl
theorem txs_tal (d : Int) (W S : Nat) : txs d W S (cnt W S) = txs d W S (3 * (W * S) + 16) ++ [talT 0, talT 1] := by
  rw [show cnt W S = 3 * (W * S) + 16 + 0 + 1 + 1 from by rw [cnt], txs_succ, txs_succ, List.append_assoc]
  congr 1
  have e0 := pl_tal (W := W) (S := S) (a := 0)
  have e1 := pl_tal (W := W) (S := S) (a := 1)
  simp only [Nat.add_zero, Nat.add_assoc] at e0 e1 ⊢
  rw [e0, e1]
  rfl
theorem txt_slot (d : Int) {W S k : Nat} (h : k < 3 * (W * S)) : txt d (pl W S k) = slotT d ((k / (W * S) : Nat) : Int) ((k % (W * S) % S : Nat) : Int) ((k % (W * S) / S : Nat) : Int) := by
  rw [pl, if_pos h]; rfl
theorem dg_size (n : Int) : (dg n).size = 1 := by rw [dg, str_size]; rfl
theorem nm_size (a : Int) : (nm a).size ≤ 6 := by
  rw [nm]
  split
  · decide
  · split <;> decide
theorem part_size (d c : Int) : (partT d c).size = 2 := by
  rw [partT]
  split <;> rw [ByteArray.size_append, dg_size] <;> rfl
end Go.Proofs.YtiakbdekleaaoaaDoor.GeoMath
