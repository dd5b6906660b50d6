/- Records and their pages as bytes: what a page tells, what is left of a torn one, what a turned byte does. -/
import Derived.Test.YtpeofjlecgenbaaB2
namespace Go.Proofs.Ytpeofjlecgenbaa
open Go.RowKit CrcMath NumMath
set_option linter.unusedVariables false
set_option maxRecDepth 100000

def rOk (k s n v : Int) : Bool := decide (0 ≤ k ∧ k < 128 ∧ 0 ≤ s ∧ s < 4 ∧ 0 ≤ n ∧ n < 65536 ∧ 0 ≤ v ∧ v < 281474976710656)
theorem rOk_is {k s n v : Int} (h : rOk k s n v = true) : 0 ≤ k ∧ k < 128 ∧ 0 ≤ s ∧ s < 4 ∧ 0 ≤ n ∧ n < 65536 ∧ 0 ≤ v ∧ v < 281474976710656 := by simpa [rOk] using h
/-- A record's 12 bytes ahead of the sum. -/
def txtB (k s n v : Int) : List UInt8 := be 1 k.toNat ++ be 1 s.toNat ++ be 2 n.toNat ++ be 6 v.toNat ++ be 2 0
/-- The sum as it stands in a page. -/
def sumM (l : List UInt8) : Int := if sumI l = 4294967295 then 4294967294 else sumI l
theorem sumM_bd (l : List UInt8) : 0 ≤ sumM l ∧ sumM l < 4294967295 := by
  have := sumI_bd l
  unfold sumM
  split <;> omega
def pageB (k s n v : Int) : List UInt8 := txtB k s n v ++ be 4 (sumM (txtB k s n v)).toNat
theorem txtB_length (k s n v : Int) : (txtB k s n v).length = 12 := by simp [txtB, be_length]
theorem pageB_length (k s n v : Int) : (pageB k s n v).length = 16 := by simp [pageB, txtB_length, be_length]
theorem pageB_txt (k s n v : Int) : (pageB k s n v).take 12 = txtB k s n v := by
  rw [pageB, List.take_append_of_le_length (by rw [txtB_length]; omega), List.take_of_length_le (by rw [txtB_length]; omega)]
theorem pageB_sum (k s n v : Int) : (pageB k s n v).drop 12 = be 4 (sumM (txtB k s n v)).toNat := by
  rw [pageB, List.drop_append_of_le_length (by rw [txtB_length]; omega), List.drop_of_length_le (by rw [txtB_length]; omega), List.nil_append]

/-! What stands in a page. -/
def pK (L : List UInt8) : Int := (val (L.take 1) : Int)
def pS (L : List UInt8) : Int := (val ((L.drop 1).take 1) : Int)
def pN (L : List UInt8) : Int := (val ((L.drop 2).take 2) : Int)
def pV (L : List UInt8) : Int := (val ((L.drop 4).take 6) : Int)
theorem nnums_page (L : List UInt8) : nnums L [1, 1, 2, 6] = [pK L, pS L, pN L, pV L] := by
  simp [nnums, pK, pS, pN, pV, List.drop_drop]
def isP (L : List UInt8) : Bool := decide (L.length = 16 ∧ rOk (pK L) (pS L) (pN L) (pV L) = true ∧ pageB (pK L) (pS L) (pN L) (pV L) = L)

theorem drop_app {α : Type} (a b : List α) (n : Nat) (h : a.length = n) : (a ++ b).drop n = b := by rw [← h]; simp
theorem take_app {α : Type} (a b : List α) (n : Nat) (h : a.length = n) : (a ++ b).take n = a := by rw [← h]; simp

theorem p_txt {k s n v : Int} (h : rOk k s n v = true) (r : List UInt8) : pK (txtB k s n v ++ r) = k ∧ pS (txtB k s n v ++ r) = s ∧ pN (txtB k s n v ++ r) = n ∧ pV (txtB k s n v ++ r) = v := by
  obtain ⟨h1, h2, h3, h4, h5, h6, h7, h8⟩ := rOk_is h
  have e : txtB k s n v ++ r = be 1 k.toNat ++ (be 1 s.toNat ++ (be 2 n.toNat ++ (be 6 v.toNat ++ (be 2 0 ++ r)))) := by simp [txtB]
  rw [e]
  have l1 := be_length 1 k.toNat
  have l2 := be_length 1 s.toNat
  have l3 := be_length 2 n.toNat
  have l4 := be_length 6 v.toNat
  have d1 : ∀ x : List UInt8, (be 1 k.toNat ++ x).drop 1 = x := fun x => drop_app _ _ _ l1
  have d2 : ∀ x : List UInt8, (be 1 k.toNat ++ (be 1 s.toNat ++ x)).drop 2 = x := fun x => by rw [← List.append_assoc]; exact drop_app _ _ _ (by simp [be_length])
  have d4 : ∀ x : List UInt8, (be 1 k.toNat ++ (be 1 s.toNat ++ (be 2 n.toNat ++ x))).drop 4 = x := fun x => by rw [← List.append_assoc, ← List.append_assoc]; exact drop_app _ _ _ (by simp [be_length])
  refine ⟨?_, ?_, ?_, ?_⟩
  · rw [pK, take_app _ _ _ l1, val_be _ _ (by omega)]; omega
  · rw [pS, d1, take_app _ _ _ l2, val_be _ _ (by omega)]; omega
  · rw [pN, d2, take_app _ _ _ l3, val_be _ _ (by omega)]; omega
  · rw [pV, d4, take_app _ _ _ l4, val_be _ _ (by omega)]; omega
theorem p_page {k s n v : Int} (h : rOk k s n v = true) : pK (pageB k s n v) = k ∧ pS (pageB k s n v) = s ∧ pN (pageB k s n v) = n ∧ pV (pageB k s n v) = v := p_txt h _
theorem page_is {k s n v : Int} (h : rOk k s n v = true) : isP (pageB k s n v) = true := by
  obtain ⟨h1, h2, h3, h4⟩ := p_page h
  unfold isP
  rw [h1, h2, h3, h4]
  simp [h, pageB_length]
theorem page_inj {k s n v k' s' n' v' : Int} (h : rOk k s n v = true) (h' : rOk k' s' n' v' = true) (e : pageB k s n v = pageB k' s' n' v') : k = k' ∧ s = s' ∧ n = n' ∧ v = v' := by
  obtain ⟨a1, a2, a3, a4⟩ := p_page h
  obtain ⟨b1, b2, b3, b4⟩ := p_page h'
  rw [e] at a1 a2 a3 a4
  exact ⟨a1.symm.trans b1, a2.symm.trans b2, a3.symm.trans b3, a4.symm.trans b4⟩
theorem isP_is {L : List UInt8} (h : isP L = true) : L.length = 16 ∧ rOk (pK L) (pS L) (pN L) (pV L) = true ∧ pageB (pK L) (pS L) (pN L) (pV L) = L := by simpa [isP] using h
/-- A page that has a record's 12 bytes is that record's. -/
theorem isP_txt {L : List UInt8} {k s n v : Int} (h : isP L = true) (ho : rOk k s n v = true) (e : L.take 12 = txtB k s n v) : L = pageB k s n v := by
  obtain ⟨h1, h2, h3⟩ := isP_is h
  have hL : L = txtB k s n v ++ L.drop 12 := by rw [← e, List.take_append_drop]
  obtain ⟨a1, a2, a3, a4⟩ := p_txt ho (L.drop 12)
  rw [← hL] at a1 a2 a3 a4
  rw [a1, a2, a3, a4] at h3
  exact h3.symm
theorem be2_zero : be 2 0 = [0, 0] := rfl
theorem page_noughts (k s n v : Int) : (pageB k s n v).getD 10 0 = 0 ∧ (pageB k s n v).getD 11 0 = 0 := by
  have e : pageB k s n v = (be 1 k.toNat ++ be 1 s.toNat ++ be 2 n.toNat ++ be 6 v.toNat) ++ (0 :: 0 :: be 4 (sumM (txtB k s n v)).toNat) := by
    rw [pageB]
    conv => lhs; lhs; rw [txtB, be2_zero]
    simp
  rw [e]
  constructor
  · rw [List.getD_eq_getElem?_getD, List.getElem?_append_right (by simp [be_length])]; simp [be_length]
  · rw [List.getD_eq_getElem?_getD, List.getElem?_append_right (by simp [be_length])]; simp [be_length]

/-- What is left of a torn page: up to m it is as it should be, behind m it is blank. -/
theorem torn_page {L : List UInt8} {k s n v : Int} (ho : rOk k s n v = true) (hl : L.length = 16) (m : Nat) (h1 : ∀ i, i < m → i < 16 → L.getD i 0 = (pageB k s n v).getD i 0) (h2 : ∀ i, m < i → i < 16 → L.getD i 0 = 255) (h : isP L = true) : L = pageB k s n v := by
  obtain ⟨g1, g2, g3⟩ := isP_is h
  obtain ⟨z1, z2⟩ := page_noughts (pK L) (pS L) (pN L) (pV L)
  obtain ⟨y1, y2⟩ := page_noughts k s n v
  rw [g3] at z1 z2
  have hm : 11 ≤ m := by
    by_cases hm : m < 11
    · have := h2 11 hm (by omega)
      rw [z2] at this
      exact absurd this (by decide)
    · omega
  refine isP_txt h ho ?_
  rw [← pageB_txt]
  refine ext_getD (by simp [hl, pageB_length]) fun i => ?_
  by_cases hi : i < 12
  · have e1 : (L.take 12).getD i 0 = L.getD i 0 := by rw [List.getD_eq_getElem?_getD, List.getElem?_take_of_lt hi, List.getD_eq_getElem?_getD]
    have e2 : ((pageB k s n v).take 12).getD i 0 = (pageB k s n v).getD i 0 := by rw [List.getD_eq_getElem?_getD, List.getElem?_take_of_lt hi, List.getD_eq_getElem?_getD]
    rw [e1, e2]
    by_cases hi2 : i < m
    · exact h1 i hi2 (by omega)
    · have : i = 11 := by omega
      subst this
      rw [z2, y2]
  · have e1 : (L.take 12).length = 12 := by simp [hl]
    have e2 : ((pageB k s n v).take 12).length = 12 := by simp [pageB_length]
    rw [List.getD_eq_getElem?_getD, List.getElem?_eq_none (by omega), List.getD_eq_getElem?_getD, List.getElem?_eq_none (by omega)]

/-! One byte that is turned. -/
theorem xor_z (x : R) : x ^^^ (0 : R) = x := by simp
theorem z_xor (x : R) : (0 : R) ^^^ x = x := by simp
theorem its_add (a b : Nat) (x : R) : its (a + b) x = its b (its a x) := by
  induction b with
  | zero => rfl
  | succ b ih => exact congrArg stp ih
def er1 (i r : Nat) (b : UInt8) : List UInt8 := zer i ++ [b] ++ zer r
theorem er1_length (i r : Nat) (b : UInt8) : (er1 i r b).length = i + 1 + r := by simp [er1, zer]; omega
theorem reg_zer (r : Nat) (x : R) : reg x (zer r) = its (8 * r) x := by
  induction r generalizing x with
  | zero => rfl
  | succ r ih =>
    have e : zer (r + 1) = 0 :: zer r := rfl
    rw [e, reg_cons, ih, fd, show (ex 0 : R) = 0 from by decide, xor_z, eight, ← its_add]
    congr 1
    omega
theorem reg_er1 (i r : Nat) (b : UInt8) : reg 0 (er1 i r b) = its (8 * (r + 1)) (ex b) := by
  rw [er1, reg_append, reg_append, zer, reg_zero_zeros, reg_cons, reg_nil, fd, z_xor]
  rw [reg_zer r (eight (ex b)), eight, ← its_add]
  congr 1
  omega
theorem its_sub (k : Nat) {x y : R} (h : its k x = its k y) : x = y := by
  have : its k (x ^^^ y) = 0 := by rw [its_xor, h]; simp
  have := its_inj k this
  have h2 := congrArg (fun z => z ^^^ y) this
  simpa [BitVec.xor_assoc] using h2
theorem not_byte (k : Nat) (y : R) (b : UInt8) (hy : its k y = 1#32) (hn : 256 ≤ y.toNat) : its k (ex b) ≠ 1#32 := fun h => by
  have hb := ex_lt b
  rw [its_sub k (h.trans hy.symm)] at hb
  omega
/-- No byte turns the sum's lowest bit alone. -/
theorem one_byte (r : Nat) (hr : r < 12) (b : UInt8) : its (8 * (r + 1)) (ex b) ≠ 1#32 :=
  match r, hr with
  | 0, _ => not_byte 8 256#32 b (by decide +kernel) (by decide +kernel)
  | 1, _ => not_byte 16 65536#32 b (by decide +kernel) (by decide +kernel)
  | 2, _ => not_byte 24 16777216#32 b (by decide +kernel) (by decide +kernel)
  | 3, _ => not_byte 32 3681617473#32 b (by decide +kernel) (by decide +kernel)
  | 4, _ => not_byte 40 3402602282#32 b (by decide +kernel) (by decide +kernel)
  | 5, _ => not_byte 48 1968546033#32 b (by decide +kernel) (by decide +kernel)
  | 6, _ => not_byte 56 1057189314#32 b (by decide +kernel) (by decide +kernel)
  | 7, _ => not_byte 64 3060473766#32 b (by decide +kernel) (by decide +kernel)
  | 8, _ => not_byte 72 221420351#32 b (by decide +kernel) (by decide +kernel)
  | 9, _ => not_byte 80 1609630090#32 b (by decide +kernel) (by decide +kernel)
  | 10, _ => not_byte 88 4102652473#32 b (by decide +kernel) (by decide +kernel)
  | 11, _ => not_byte 96 1563912214#32 b (by decide +kernel) (by decide +kernel)
theorem crc_turned (l e : List UInt8) (hl : l.length = e.length) : crc (xors l e) = crc l ^^^ reg 0 e := by
  have h1 := reg_xor l e hl ones 0
  have h0 : ones ^^^ (0 : R) = ones := by decide
  rw [h0] at h1
  rw [crc, crc, h1, ← BitVec.allOnes_xor, ← BitVec.allOnes_xor, BitVec.xor_assoc]
theorem ex_inj0 {b : UInt8} {k : Nat} (h : its k (ex b) = 0) : b = 0 := ex_zero (its_inj k h)
/-- Sums that stand alike, of texts that differ in one byte. -/
theorem sumM_turned (l : List UInt8) (i r : Nat) (b : UInt8) (hl : l.length = i + 1 + r) (hr : r < 12) (h : sumM (xors l (er1 i r b)) = sumM l) : b = 0 := by
  have hle : l.length = (er1 i r b).length := by rw [er1_length, hl]
  have hc := crc_turned l (er1 i r b) hle
  rw [reg_er1] at hc
  by_cases he : sumI (xors l (er1 i r b)) = sumI l
  · have h2 : crc (xors l (er1 i r b)) = crc l := by
      apply BitVec.eq_of_toNat_eq
      unfold sumI at he
      omega
    rw [h2] at hc
    have := congrArg (fun x : R => crc l ^^^ x) hc
    simp only [← BitVec.xor_assoc, BitVec.xor_self, BitVec.zero_xor] at this
    exact ex_inj0 this.symm
  · exfalso
    have h1 := sumI_bd l
    have h2 := sumI_bd (xors l (er1 i r b))
    have h3 : (sumI l = 4294967295 ∧ sumI (xors l (er1 i r b)) = 4294967294) ∨ (sumI l = 4294967294 ∧ sumI (xors l (er1 i r b)) = 4294967295) := by
      unfold sumM at h
      split at h <;> split at h <;> omega
    refine one_byte r hr b ?_
    have h4 := congrArg (fun x : R => crc l ^^^ x) hc
    simp only [← BitVec.xor_assoc, BitVec.xor_self, BitVec.zero_xor] at h4
    rw [← h4]
    rcases h3 with ⟨a, c⟩ | ⟨a, c⟩
    · have a' : crc l = 4294967295#32 := by apply BitVec.eq_of_toNat_eq; unfold sumI at a; simp; omega
      have c' : crc (xors l (er1 i r b)) = 4294967294#32 := by apply BitVec.eq_of_toNat_eq; unfold sumI at c; simp; omega
      rw [a', c']; decide
    · have a' : crc l = 4294967294#32 := by apply BitVec.eq_of_toNat_eq; unfold sumI at a; simp; omega
      have c' : crc (xors l (er1 i r b)) = 4294967295#32 := by apply BitVec.eq_of_toNat_eq; unfold sumI at c; simp; omega
      rw [a', c']; decide
theorem getD_set (l : List UInt8) (i j : Nat) (x : UInt8) (hi : i < l.length) : (l.set i x).getD j 0 = if j = i then x else l.getD j 0 := by
  rw [List.getD_eq_getElem?_getD, List.getElem?_set]
  by_cases h : i = j
  · subst h; simp [hi]
  · rw [if_neg h, if_neg (fun e => h e.symm), List.getD_eq_getElem?_getD]
theorem er1_getD (i r : Nat) (b : UInt8) (j : Nat) : (er1 i r b).getD j 0 = if j = i then b else 0 := by
  rw [List.getD_eq_getElem?_getD, er1, zer, zer, List.append_assoc, List.getElem?_append]
  by_cases h : j < i
  · rw [if_pos (by simpa using h), if_neg (by omega), List.getElem?_replicate, if_pos h]; rfl
  · rw [if_neg (by simpa using h)]
    by_cases h2 : j = i
    · subst h2; simp
    · rw [if_neg h2]
      obtain ⟨q, rfl⟩ : ∃ q, j = i + 1 + q := ⟨j - i - 1, by omega⟩
      have e : i + 1 + q - (List.replicate i (0 : UInt8)).length = q + 1 := by simp; omega
      rw [e, List.singleton_append, List.getElem?_cons_succ, List.getElem?_replicate]
      by_cases h3 : q < r
      · rw [if_pos h3]; rfl
      · rw [if_neg h3]; rfl
/-- A page in which one byte is turned is none's. -/
theorem turned_page {k s n v : Int} (ho : rOk k s n v = true) (i : Nat) (hi : i < 16) (b : UInt8) (hb : b ≠ 0) : isP ((pageB k s n v).set i ((pageB k s n v).getD i 0 ^^^ b)) = false := by
  cases hh : isP ((pageB k s n v).set i ((pageB k s n v).getD i 0 ^^^ b)) with
  | false => rfl
  | true =>
    exfalso
    obtain ⟨P, hP⟩ : ∃ P, pageB k s n v = P := ⟨_, rfl⟩
    have lP : P.length = 16 := by rw [← hP]; exact pageB_length _ _ _ _
    obtain ⟨x, hx⟩ : ∃ x, P.getD i 0 ^^^ b = x := ⟨_, rfl⟩
    have hne : x ≠ P.getD i 0 := fun e => by
      rw [e] at hx
      apply hb
      have := congrArg (fun z => P.getD i 0 ^^^ z) hx
      simpa [← UInt8.xor_assoc] using this
    rw [hP, hx] at hh
    by_cases h12 : 12 ≤ i
    · have he : (P.set i x).take 12 = txtB k s n v := by
        rw [List.take_set_of_le h12, ← hP, pageB_txt]
      have h1 := isP_txt hh ho he
      rw [hP] at h1
      have h2 := congrArg (fun l => l.getD i 0) h1
      simp only [getD_set P i i x (by omega), if_pos] at h2
      exact hne h2
    · obtain ⟨g1, g2, g3⟩ := isP_is hh
      have t1 : (P.set i x).take 12 = txtB (pK (P.set i x)) (pS (P.set i x)) (pN (P.set i x)) (pV (P.set i x)) := by
        conv => lhs; rw [← g3]
        exact pageB_txt _ _ _ _
      have s1 : (P.set i x).drop 12 = be 4 (sumM ((P.set i x).take 12)).toNat := by
        rw [t1]
        conv => lhs; rw [← g3]
        exact pageB_sum _ _ _ _
      have s2 : P.drop 12 = be 4 (sumM (P.take 12)).toNat := by rw [← hP, pageB_sum, pageB_txt]
      have s3 : (P.set i x).drop 12 = P.drop 12 := by rw [List.drop_set_of_lt (by omega)]
      have s4 : sumM ((P.set i x).take 12) = sumM (P.take 12) := by
        have b1 := sumM_bd ((P.set i x).take 12)
        have b2 := sumM_bd (P.take 12)
        have := be_inj 4 _ _ (by omega) (by omega) (s1.symm.trans (s3.trans s2))
        omega
      have lT : (P.take 12).length = 12 := by simp [lP]
      have e : (P.set i x).take 12 = xors (P.take 12) (er1 i (11 - i) b) := by
        have lE : (P.take 12).length = (er1 i (11 - i) b).length := by rw [er1_length, lT]; omega
        rw [List.take_set]
        refine ext_getD (by rw [xors_length _ _ lE]; simp) fun j => ?_
        rw [xors_getD _ _ lE, er1_getD, getD_set _ _ _ _ (by omega)]
        by_cases hj : j = i
        · subst hj
          rw [if_pos rfl, if_pos rfl, ← hx, List.getD_eq_getElem?_getD, List.getD_eq_getElem?_getD, List.getElem?_take_of_lt (by omega)]
        · rw [if_neg hj, if_neg hj, UInt8.xor_zero]
      rw [e] at s4
      exact hb (sumM_turned _ i (11 - i) b (by rw [lT]; omega) (by omega) s4)

/-! Versions as values. -/
theorem be_app (s t n : Nat) : be (s + t) n = be s (n / 256 ^ t) ++ be t n := by
  induction t generalizing n with
  | zero => simp [be]
  | succ t ih => rw [Nat.add_succ, be, ih, be, ← List.append_assoc, Nat.div_div_eq_div_mul, Nat.pow_succ, Nat.mul_comm 256]
theorem dm (a b m : Nat) (h : b < m) : (a * m + b) / m = a ∧ (a * m + b) % m = b := by
  constructor
  · rw [Nat.add_comm, Nat.add_mul_div_right _ _ (by omega), Nat.div_eq_of_lt h, Nat.zero_add]
  · rw [Nat.add_comm, Nat.add_mul_mod_self_right, Nat.mod_eq_of_lt h]
def numV (a b c : Int) : Int := (a * 65536 + b) * 65536 + c
def vOk (a b c : Int) : Bool := decide (0 ≤ a ∧ a < 65536 ∧ 0 ≤ b ∧ b < 65536 ∧ 0 ≤ c ∧ c < 65536)
theorem val_ver {a b c : Int} (h : vOk a b c = true) : be 2 a.toNat ++ be 2 b.toNat ++ be 2 c.toNat = be 6 (numV a b c).toNat := by
  obtain ⟨h1, h2, h3, h4, h5, h6⟩ : 0 ≤ a ∧ a < 65536 ∧ 0 ≤ b ∧ b < 65536 ∧ 0 ≤ c ∧ c < 65536 := by simpa [vOk] using h
  have e : (numV a b c).toNat = (a.toNat * 65536 + b.toNat) * 65536 + c.toNat := by unfold numV; omega
  rw [e, be_app 4 2, be_app 2 2]
  have p : (256 : Nat) ^ 2 = 65536 := rfl
  rw [p]
  have hb : b.toNat < 65536 := by omega
  have hc : c.toNat < 65536 := by omega
  clear e
  obtain ⟨e1, e4⟩ := dm (a.toNat * 65536 + b.toNat) c.toNat 65536 hc
  obtain ⟨e2, e3⟩ := dm a.toNat b.toNat 65536 hb
  rw [e1, e2, be_mod 2 (a.toNat * 65536 + b.toNat), be_mod 2 ((a.toNat * 65536 + b.toNat) * 65536 + c.toNat), p]
  rw [e3, e4]
def verA (n : Int) : Int := ((n.toNat / 4294967296 : Nat) : Int)
def verB (n : Int) : Int := ((n.toNat / 65536 % 65536 : Nat) : Int)
def verC (n : Int) : Int := ((n.toNat % 65536 : Nat) : Int)
theorem nnums_one {a b c : Int} (h : vOk a b c = true) : nnums (be 2 a.toNat ++ be 2 b.toNat ++ be 2 c.toNat) [6] = [numV a b c] := by
  have hb : 0 ≤ numV a b c ∧ numV a b c < 281474976710656 := by
    obtain ⟨h1, h2, h3, h4, h5, h6⟩ : 0 ≤ a ∧ a < 65536 ∧ 0 ≤ b ∧ b < 65536 ∧ 0 ≤ c ∧ c < 65536 := by simpa [vOk] using h
    unfold numV; omega
  rw [val_ver h]
  have e : (be 6 (numV a b c).toNat).take 6 = be 6 (numV a b c).toNat := List.take_of_length_le (by rw [be_length]; omega)
  have e2 : ((6 : Int).toNat) = 6 := rfl
  rw [nnums, nnums, e2, e, val_be _ _ (by omega)]
  congr 1
  omega
theorem ver_ok {n : Int} (h : 0 ≤ n ∧ n < 281474976710656) : vOk (verA n) (verB n) (verC n) = true ∧ numV (verA n) (verB n) (verC n) = n := by
  unfold vOk verA verB verC numV
  rw [decide_eq_true_eq]
  omega
theorem nnums_three {n : Int} (h : 0 ≤ n ∧ n < 281474976710656) : nnums (be 6 n.toNat) [2, 2, 2] = [verA n, verB n, verC n] := by
  obtain ⟨h1, h2⟩ := ver_ok h
  have e := val_ver h1
  rw [h2] at e
  rw [← e]
  have ea : (verA n).toNat = n.toNat / 4294967296 := by unfold verA; omega
  have eb : (verB n).toNat = n.toNat / 65536 % 65536 := by unfold verB; omega
  have ec : (verC n).toNat = n.toNat % 65536 := by unfold verC; omega
  have l1 := be_length 2 (verA n).toNat
  have l2 := be_length 2 (verB n).toNat
  have l3 := be_length 2 (verC n).toNat
  have e2 : ((2 : Int).toNat) = 2 := rfl
  rw [nnums, nnums, nnums, nnums, e2, List.append_assoc, drop_app _ _ _ l1, drop_app _ _ _ l2, take_app _ _ _ l1, take_app _ _ _ l2, List.take_of_length_le (by rw [l3]; omega)]
  rw [val_be _ _ (by rw [ea]; omega), val_be _ _ (by rw [eb]; omega), val_be _ _ (by rw [ec]; omega), ea, eb, ec]
  rfl
theorem num_less {a b c d e f : Int} (h : vOk a b c = true) (h' : vOk d e f = true) : (decide (numV a b c < numV d e f)) = decide (a < d ∨ a = d ∧ (b < e ∨ b = e ∧ c < f)) := by
  obtain ⟨h1, h2, h3, h4, h5, h6⟩ : 0 ≤ a ∧ a < 65536 ∧ 0 ≤ b ∧ b < 65536 ∧ 0 ≤ c ∧ c < 65536 := by simpa [vOk] using h
  obtain ⟨g1, g2, g3, g4, g5, g6⟩ : 0 ≤ d ∧ d < 65536 ∧ 0 ≤ e ∧ e < 65536 ∧ 0 ≤ f ∧ f < 65536 := by simpa [vOk] using h'
  unfold numV
  rw [decide_eq_decide]
  omega
end Go.Proofs.Ytpeofjlecgenbaa
