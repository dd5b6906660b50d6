/- What a head's bytes are: mathematics, no program. -/
import Derived.Test.YtbcilifdgpfmnaaDoorNumMath
namespace Go.Proofs.YtbcilifdgpfmnaaDoor.HeadMath
open NumMath

def vOk (x : Int) : Bool := decide (0 ≤ x ∧ x ≤ 65535)
def lOk (n : Int) : Bool := decide (0 ≤ n ∧ n ≤ 16777215)
/-- May a head be? -/
def hOk (a b c n : Int) : Bool := vOk a && vOk b && vOk c && lOk n
/-- A head's bytes. -/
def headB (a b c n : Int) (H : List UInt8) : List UInt8 := [84, 82, 73, 80] ++ (be 2 a.toNat ++ be 2 b.toNat ++ be 2 c.toNat) ++ be 4 n.toNat ++ H ++ [0, 0]
theorem headB_length (a b c n : Int) (H : List UInt8) (h : H.length = 32) : (headB a b c n H).length = 48 := by
  simp [headB, be_length, h]
theorem hOk_is {a b c n : Int} (h : hOk a b c n = true) : (0 ≤ a ∧ a ≤ 65535) ∧ (0 ≤ b ∧ b ≤ 65535) ∧ (0 ≤ c ∧ c ≤ 65535) ∧ (0 ≤ n ∧ n ≤ 16777215) := by
  simp only [hOk, vOk, lOk, Bool.and_eq_true, decide_eq_true_eq] at h
  exact ⟨h.1.1.1, h.1.1.2, h.1.2, h.2⟩
theorem hOk_of {a b c n : Int} (h : (0 ≤ a ∧ a ≤ 65535) ∧ (0 ≤ b ∧ b ≤ 65535) ∧ (0 ≤ c ∧ c ≤ 65535) ∧ (0 ≤ n ∧ n ≤ 16777215)) : hOk a b c n = true := by
  simp only [hOk, vOk, lOk, Bool.and_eq_true, decide_eq_true_eq]
  exact ⟨⟨⟨h.1, h.2.1⟩, h.2.2.1⟩, h.2.2.2⟩
theorem hOk_not {a b c n : Int} (h : ¬ ((0 ≤ a ∧ a ≤ 65535) ∧ (0 ≤ b ∧ b ≤ 65535) ∧ (0 ≤ c ∧ c ≤ 65535) ∧ (0 ≤ n ∧ n ≤ 16777215))) : hOk a b c n = false := by
  cases hh : hOk a b c n with
  | false => rfl
  | true => exact absurd (hOk_is hh) h
/-- What stands in the places of a head. -/
def rA (L : List UInt8) : Int := (val ((L.drop 4).take 2) : Int)
def rB (L : List UInt8) : Int := (val ((L.drop 6).take 2) : Int)
def rC (L : List UInt8) : Int := (val ((L.drop 8).take 2) : Int)
def rN (L : List UInt8) : Int := (val ((L.drop 10).take 4) : Int)
def rH (L : List UInt8) : List UInt8 := (L.drop 14).take 32
theorem rH_length (L : List UInt8) (h : 48 ≤ L.length) : (rH L).length = 32 := by rw [rH, List.length_take, List.length_drop]; omega
theorem val_bound (l : List UInt8) (s : Nat) (h : l.length ≤ s) : val l < 256 ^ s := Nat.lt_of_lt_of_le (val_lt l) (Nat.pow_le_pow_right (by omega) h)
theorem rA_bd (L : List UInt8) : 0 ≤ rA L ∧ rA L ≤ 65535 := by
  have := val_bound ((L.drop 4).take 2) 2 (List.length_take_le _ _); unfold rA; omega
theorem rB_bd (L : List UInt8) : 0 ≤ rB L ∧ rB L ≤ 65535 := by
  have := val_bound ((L.drop 6).take 2) 2 (List.length_take_le _ _); unfold rB; omega
theorem rC_bd (L : List UInt8) : 0 ≤ rC L ∧ rC L ≤ 65535 := by
  have := val_bound ((L.drop 8).take 2) 2 (List.length_take_le _ _); unfold rC; omega
theorem rN_bd (L : List UInt8) : 0 ≤ rN L ∧ rN L ≤ 4294967295 := by
  have := val_bound ((L.drop 10).take 4) 4 (List.length_take_le _ _); unfold rN; omega
/-- What comes back from a head's bytes, whatever stands behind. -/
theorem head_back (a b c n : Int) (H M : List UInt8) (h : hOk a b c n = true) (hH : H.length = 32) :
    rA (headB a b c n H ++ M) = a ∧ rB (headB a b c n H ++ M) = b ∧ rC (headB a b c n H ++ M) = c ∧ rN (headB a b c n H ++ M) = n ∧ rH (headB a b c n H ++ M) = H ∧ (headB a b c n H ++ M).take 48 = headB a b c n H := by
  obtain ⟨h1, h2, h3, h4⟩ := hOk_is h
  obtain ⟨A, hA⟩ : ∃ X, be 2 a.toNat = X := ⟨_, rfl⟩
  obtain ⟨B, hB⟩ : ∃ X, be 2 b.toNat = X := ⟨_, rfl⟩
  obtain ⟨C, hC⟩ : ∃ X, be 2 c.toNat = X := ⟨_, rfl⟩
  obtain ⟨D, hD⟩ : ∃ X, be 4 n.toNat = X := ⟨_, rfl⟩
  have lA : A.length = 2 := by rw [← hA, be_length]
  have lB : B.length = 2 := by rw [← hB, be_length]
  have lC : C.length = 2 := by rw [← hC, be_length]
  have lD : D.length = 4 := by rw [← hD, be_length]
  have e : headB a b c n H = 84 :: 82 :: 73 :: 80 :: (A ++ (B ++ (C ++ (D ++ (H ++ [0, 0]))))) := by
    simp [headB, hA, hB, hC, hD]
  have vA : (val A : Int) = a := by rw [← hA, val_be _ _ (by omega)]; omega
  have vB : (val B : Int) = b := by rw [← hB, val_be _ _ (by omega)]; omega
  have vC : (val C : Int) = c := by rw [← hC, val_be _ _ (by omega)]; omega
  have vD : (val D : Int) = n := by rw [← hD, val_be _ _ (by omega)]; omega
  have hl := headB_length a b c n H hH
  refine ⟨?_, ?_, ?_, ?_, ?_, ?_⟩
  · rw [rA, e, ← vA]
    congr 2
    simp only [List.cons_append, List.drop_succ_cons, List.drop_zero, List.append_assoc]
    exact List.take_left' lA
  · rw [rB, e, ← vB]
    congr 2
    simp only [List.cons_append, List.drop_succ_cons, List.append_assoc]
    rw [List.drop_left' lA]
    exact List.take_left' lB
  · rw [rC, e, ← vC]
    congr 2
    simp only [List.cons_append, List.drop_succ_cons, List.append_assoc]
    rw [← List.append_assoc A, List.drop_left' (by simp [lA, lB])]
    exact List.take_left' lC
  · rw [rN, e, ← vD]
    congr 2
    simp only [List.cons_append, List.drop_succ_cons, List.append_assoc]
    rw [← List.append_assoc A, ← List.append_assoc (A ++ B), List.drop_left' (by simp [lA, lB, lC])]
    exact List.take_left' lD
  · rw [rH, e]
    simp only [List.cons_append, List.drop_succ_cons, List.append_assoc]
    rw [← List.append_assoc A, ← List.append_assoc (A ++ B), ← List.append_assoc (A ++ B ++ C), List.drop_left' (by simp [lA, lB, lC, lD])]
    exact List.take_left' hH
  · exact List.take_left' hl
/-- Are these a head's bytes, whatever stands behind? -/
def isH (L : List UInt8) : Bool := hOk (rA L) (rB L) (rC L) (rN L) && decide (headB (rA L) (rB L) (rC L) (rN L) (rH L) = L.take 48)
theorem isH_back (a b c n : Int) (H M : List UInt8) (h : hOk a b c n = true) (hH : H.length = 32) : isH (headB a b c n H ++ M) = true := by
  obtain ⟨h1, h2, h3, h4, h5, h6⟩ := head_back a b c n H M h hH
  simp only [isH, h1, h2, h3, h4, h5, h6, h, decide_true, Bool.and_true]
end Go.Proofs.YtbcilifdgpfmnaaDoor.HeadMath
