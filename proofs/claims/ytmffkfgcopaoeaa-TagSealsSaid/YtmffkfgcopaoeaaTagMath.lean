/- Blocks of 60 bytes, as lists: what a text's first bytes are, how it is split and joined. No program. -/
import Derived.Test.YtmffkfgcopaoeaaCrcG
namespace Go.Proofs.Ytmffkfgcopaoeaa
open Go.RowKit CrcMath

/-- A text's first block. -/
def blk (l : List UInt8) : List UInt8 := l.take 60 ++ List.replicate (60 - l.length) 0
theorem blk_length (l : List UInt8) : (blk l).length = 60 := by simp [blk]; omega
theorem blk_self (l : List UInt8) (h : l.length = 60) : blk l = l := by simp [blk, h, List.take_of_length_le]
theorem blk_seal (l : List UInt8) (h : l.length = 60) : blk (sealB l) = l := by
  unfold blk
  rw [sealB_length, sealB, h, List.take_left' h]
  simp
theorem blk_get (l : List UInt8) (j : Nat) (h : j < 60) : (blk l)[j]? = some (l.getD j 0) := by
  by_cases hj : j < l.length
  · rw [blk, List.getElem?_append_left (by simp; omega), List.getElem?_take, if_pos h]
    simp [hj]
  · rw [blk, List.getElem?_append_right (by simp; omega), List.getElem?_replicate, if_pos (by simp; omega)]
    simp [hj]

/-- A text's first n blocks. -/
def splitF : Nat → List UInt8 → List (List UInt8)
  | 0, _ => []
  | n + 1, l => blk l :: splitF n (l.drop 60)
theorem splitF_length : ∀ (n : Nat) (l : List UInt8), (splitF n l).length = n
  | 0, _ => rfl
  | n + 1, l => by rw [splitF, List.length_cons, splitF_length n]
theorem splitF_succ : ∀ (n : Nat) (l : List UInt8), splitF (n + 1) l = splitF n l ++ [blk (l.drop (60 * n))]
  | 0, l => by simp [splitF]
  | n + 1, l => by
    have e : (l.drop 60).drop (60 * n) = l.drop (60 * (n + 1)) := by
      rw [List.drop_drop]
      congr 1
      omega
    rw [splitF, splitF_succ n (l.drop 60), splitF, List.cons_append, e]
theorem splitF_all : ∀ (n : Nat) (l : List UInt8), ∀ b ∈ splitF n l, b.length = 60
  | 0, _, b, h => by cases h
  | n + 1, l, b, h => by
    rcases List.mem_cons.1 h with rfl | h
    · exact blk_length l
    · exact splitF_all n _ b h
theorem splitF_flat : ∀ (n : Nat) (l : List UInt8), (splitF n l).flatten = l.take (60 * n) ++ List.replicate (60 * n - l.length) 0
  | 0, l => by simp [splitF]
  | n + 1, l => by
    rw [splitF, List.flatten_cons, splitF_flat n (l.drop 60), blk, List.length_drop]
    have e1 : l.take (60 * (n + 1)) = l.take 60 ++ (l.drop 60).take (60 * n) := by
      rw [show 60 * (n + 1) = 60 + 60 * n by omega, List.take_add]
    rw [e1]
    by_cases h : l.length ≤ 60
    · have e2 : l.drop 60 = [] := List.drop_of_length_le h
      rw [e2, List.take_nil, List.nil_append, List.append_nil, List.append_assoc, List.replicate_append_replicate]
      congr 2
      omega
    · rw [show 60 - l.length = 0 by omega, List.replicate_zero, List.append_nil, List.append_assoc]
      congr 3
      omega
theorem flat_length (L : List (List UInt8)) (h : ∀ b ∈ L, b.length = 60) : L.flatten.length = 60 * L.length := by
  induction L with
  | nil => rfl
  | cons b L ih =>
    rw [List.flatten_cons, List.length_append, h b (List.mem_cons_self ..), ih (fun c hc => h c (List.mem_cons_of_mem _ hc)), List.length_cons]
    omega
theorem flat_take (L : List (List UInt8)) (k : Nat) (hk : k < L.length) : (L.take (k + 1)).flatten = (L.take k).flatten ++ L[k] := by
  rw [List.take_succ_eq_append_getElem hk, List.flatten_append, List.flatten_cons, List.flatten_nil, List.append_nil]
theorem flat_mid (L : List (List UInt8)) (h : ∀ b ∈ L, b.length = 60) (k : Nat) (hk : k < L.length) : ∃ z, L.flatten = (L.take k).flatten ++ L[k] ++ z ∧ (L.take k).flatten.length = 60 * k := by
  refine ⟨(L.drop (k + 1)).flatten, ?_, ?_⟩
  · rw [← flat_take L k hk, ← List.flatten_append, List.take_append_drop]
  · rw [flat_length _ (fun b hb => h b (List.mem_of_mem_take hb)), List.length_take]
    congr 1
    omega

/-- Is a sector's tag right? -/
def rightT (l : List UInt8) : Bool := decide ((openR l).2 = 0) && decide (l.length = 64)
theorem right_seal (l : List UInt8) (h : l.length = 60) : rightT (sealB l) = true := by
  rw [rightT, openR_seal, sealB_length, h]; rfl
/-- One byte that is turned is told. -/
theorem right_turned (l : List UInt8) (h : l.length = 60) (j : Nat) (hj : j < 64) (x y : UInt8) (hy : (sealB l)[j]? = some y) (hx : x ≠ 0) : rightT ((sealB l).set j (y ^^^ x)) = false := by
  have hsl : (sealB l).length = 64 := by rw [sealB_length, h]
  obtain ⟨a, ha, ha2, ha3⟩ : ∃ a, a ≤ j ∧ j < a + 4 ∧ (a = l.length ∨ a + 4 ≤ l.length) := by
    by_cases h1 : j < 60
    · exact ⟨if j < 56 then j else 56, by split <;> omega, by split <;> omega, by split <;> omega⟩
    · exact ⟨60, by omega, by omega, by omega⟩
  obtain ⟨i, hi⟩ : ∃ i, j - a = i := ⟨_, rfl⟩
  have hi4 : i < 4 := by omega
  obtain ⟨b0, b1, b2, b3, hb, hp⟩ : ∃ b0 b1 b2 b3 : UInt8, ¬ (b0 = 0 ∧ b1 = 0 ∧ b2 = 0 ∧ b3 = 0) ∧ ∀ k, k < 4 → pick4 b0 b1 b2 b3 k = if k = i then x else 0 := by
    refine ⟨if 0 = i then x else 0, if 1 = i then x else 0, if 2 = i then x else 0, if 3 = i then x else 0, ?_, ?_⟩
    · match i, hi4 with
      | 0, _ | 1, _ | 2, _ | 3, _ => simp [hx]
    · intro k hk
      match k, hk with
      | 0, _ | 1, _ | 2, _ | 3, _ => rfl
  have e : (sealB l).set j (y ^^^ x) = mix (sealB l) a (pick4 b0 b1 b2 b3) 4 := by
    refine ext_getD (by rw [List.length_set, mix_length]) fun k => ?_
    rw [mix_get, List.getD_eq_getElem?_getD, List.getElem?_set]
    by_cases e1 : j = k
    · subst e1
      rw [if_pos rfl, if_pos (by omega), if_pos (by omega), hp (j - a) (by omega), if_pos hi, List.getD_eq_getElem?_getD, hy]
      rfl
    · rw [if_neg e1, ← List.getD_eq_getElem?_getD]
      split
      · rename_i h2
        rw [hp (k - a) (by omega), if_neg (by omega), UInt8.xor_zero]
      · rfl
  rw [rightT, e, tells l a b0 b1 b2 b3 hb ha3]
  rfl
/-- A blank sector's tag isn't right. -/
theorem right_blank : rightT (List.replicate 64 255) = false := by decide +kernel

theorem bytes_oneC (l : List UInt8) : (bytes l).all (·.oneCell') = true := by simp [bytes, Value.oneCell']
theorem bytes_rep (n : Nat) (c : UInt8) : bytes (List.replicate n c) = List.replicate n (.int .u8 (c.toNat : Int)) := by simp [bytes]
end Go.Proofs.Ytmffkfgcopaoeaa
