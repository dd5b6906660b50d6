/- What turned bytes do to a sealed text. -/
import Derived.Test.YtpeofjlecgenbaaCrcF
namespace Go.Proofs.Ytpeofjlecgenbaa
open Go.RowKit CrcMath

def zer (n : Nat) : List UInt8 := List.replicate n 0
def pick4 (b0 b1 b2 b3 : UInt8) : Nat → UInt8
  | 0 => b0 | 1 => b1 | 2 => b2 | _ => b3
/-- The bytes L, of which the first k of four from a on are turned. -/
def mix (L : List UInt8) (a : Nat) (p : Nat → UInt8) : Nat → List UInt8
  | 0 => L
  | k + 1 => (mix L a p k).set (a + k) ((mix L a p k).getD (a + k) 0 ^^^ p k)
theorem mix_length (L : List UInt8) (a : Nat) (p : Nat → UInt8) (k : Nat) : (mix L a p k).length = L.length := by
  induction k with
  | zero => rfl
  | succ k ih => rw [mix, List.length_set, ih]
theorem mix_get (L : List UInt8) (a : Nat) (p : Nat → UInt8) (k i : Nat) :
    (mix L a p k).getD i 0 = if a ≤ i ∧ i < a + k ∧ i < L.length then L.getD i 0 ^^^ p (i - a) else L.getD i 0 := by
  induction k with
  | zero => rw [if_neg (by omega)]; rfl
  | succ k ih =>
    rw [mix, List.getD_eq_getElem?_getD, List.getElem?_set, mix_length]
    by_cases e : a + k = i
    · subst e
      rw [if_pos rfl]
      by_cases hl : a + k < L.length
      · have h2 : (mix L a p k).getD (a + k) 0 = L.getD (a + k) 0 := by
          have h3 : ∀ j, (mix L a p j).getD (a + k) 0 = (mix L a p j).getD (a + k) 0 := fun _ => rfl
          rw [ih, if_neg (by omega)]
        rw [if_pos hl, if_pos (by omega), Option.getD_some, h2]
        congr 2
        omega
      · rw [if_neg hl, if_neg (by omega)]
        simp [List.getD_eq_getElem?_getD, hl]
    · rw [if_neg e, ← List.getD_eq_getElem?_getD, ih]
      by_cases h : a ≤ i ∧ i < a + k ∧ i < L.length
      · rw [if_pos h, if_pos (by omega)]
      · rw [if_neg h, if_neg (by omega)]

theorem xors_length (l m : List UInt8) (h : l.length = m.length) : (xors l m).length = l.length := by simp [xors, h]
theorem xors_getD (l m : List UInt8) (h : l.length = m.length) (i : Nat) : (xors l m).getD i 0 = l.getD i 0 ^^^ m.getD i 0 := by
  simp only [List.getD_eq_getElem?_getD, xors, List.getElem?_zipWith]
  by_cases hi : i < l.length
  · rw [List.getElem?_eq_getElem hi, List.getElem?_eq_getElem (by omega)]
    rfl
  · rw [List.getElem?_eq_none (by omega), List.getElem?_eq_none (by omega)]
    decide
theorem ext_getD {l m : List UInt8} (h : l.length = m.length) (hg : ∀ i, l.getD i 0 = m.getD i 0) : l = m := by
  refine List.ext_getElem h fun i h1 h2 => ?_
  have := hg i
  rwa [List.getD_eq_getElem?_getD, List.getD_eq_getElem?_getD, List.getElem?_eq_getElem h1, List.getElem?_eq_getElem h2, Option.getD_some, Option.getD_some] at this

/-- What is turned in all. -/
def err (a r : Nat) (b0 b1 b2 b3 : UInt8) : List UInt8 := zer a ++ [b0, b1, b2, b3] ++ zer r
theorem err_length (a r : Nat) (b0 b1 b2 b3 : UInt8) : (err a r b0 b1 b2 b3).length = a + 4 + r := by simp [err, zer]; omega
theorem err_get (a r : Nat) (b0 b1 b2 b3 : UInt8) (i : Nat) : (err a r b0 b1 b2 b3).getD i 0 = if a ≤ i ∧ i < a + 4 then pick4 b0 b1 b2 b3 (i - a) else 0 := by
  rw [err, zer, zer, List.append_assoc, List.getD_eq_getElem?_getD]
  by_cases h1 : i < a
  · rw [List.getElem?_append_left (by simpa using h1), List.getElem?_replicate, if_pos h1, if_neg (by omega)]; rfl
  · rw [List.getElem?_append_right (by simp; omega), List.length_replicate]
    by_cases h2 : i - a < 4
    · rw [List.getElem?_append_left (by simpa using h2), if_pos (by omega)]
      obtain ⟨j, hj⟩ : ∃ j, i - a = j := ⟨_, rfl⟩
      rw [hj] at h2 ⊢
      match j, h2 with
      | 0, _ | 1, _ | 2, _ | 3, _ => rfl
    · rw [List.getElem?_append_right (by simp; omega), if_neg (by omega), List.getElem?_replicate]
      split <;> rfl

theorem mix_err (L : List UInt8) (a r : Nat) (b0 b1 b2 b3 : UInt8) (h : L.length = a + 4 + r) : mix L a (pick4 b0 b1 b2 b3) 4 = xors L (err a r b0 b1 b2 b3) := by
  have hl : L.length = (err a r b0 b1 b2 b3).length := by rw [err_length, h]
  refine ext_getD (by rw [mix_length, xors_length _ _ hl]) fun i => ?_
  rw [xors_getD _ _ hl, mix_get, err_get]
  by_cases h1 : a ≤ i ∧ i < a + 4
  · rw [if_pos (by omega), if_pos h1]
  · rw [if_neg (by omega), if_neg h1, UInt8.xor_zero]

theorem reg_err (a r : Nat) (b0 b1 b2 b3 : UInt8) (h : reg 0 (err a r b0 b1 b2 b3) = 0) : b0 = 0 ∧ b1 = 0 ∧ b2 = 0 ∧ b3 = 0 := by
  rw [err, reg_append, reg_append, zer, reg_zero_zeros] at h
  exact four _ _ _ _ (reg_zeros r h)

theorem sumI_turned (l : List UInt8) (e : List UInt8) (hl : l.length = e.length) (h : sumI (xors l e) = sumI l) : reg 0 e = 0 := by
  have h1 := reg_xor l e hl ones 0
  have h0 : ones ^^^ (0 : R) = ones := by decide
  rw [h0] at h1
  have h2 : crc (xors l e) = crc l := by
    apply BitVec.eq_of_toNat_eq
    unfold sumI at h
    omega
  have h3 : reg ones (xors l e) = reg ones l := by
    have := congrArg (fun x : R => ~~~ x) h2
    simpa [crc] using this
  rw [h3] at h1
  have := congrArg (fun x : R => reg ones l ^^^ x) h1
  simp only [← BitVec.xor_assoc, BitVec.xor_self, BitVec.zero_xor] at this
  exact this.symm

theorem tailB_inj {n m : Int} (hn : 0 ≤ n ∧ n < 4294967296) (hm : 0 ≤ m ∧ m < 4294967296) (h : tailB n = tailB m) : n = m := by
  have := NumMath.be_inj 4 n.toNat m.toNat (by omega) (by omega) h
  omega

theorem xors_append (a b c d : List UInt8) (h : a.length = c.length) : xors (a ++ b) (c ++ d) = xors a c ++ xors b d := by
  simp [xors, List.zipWith_append h]
theorem xors_zer (l : List UInt8) (n : Nat) (h : l.length = n) : xors l (zer n) = l := by
  refine ext_getD (by simp [xors, zer, h]) fun i => ?_
  rw [xors_getD _ _ (by simp [zer, h]), zer, List.getD_eq_getElem?_getD, List.getD_eq_getElem?_getD, List.getElem?_replicate]
  split <;> simp

theorem tells (l : List UInt8) (a : Nat) (b0 b1 b2 b3 : UInt8) (hne : ¬ (b0 = 0 ∧ b1 = 0 ∧ b2 = 0 ∧ b3 = 0)) (ha : a = l.length ∨ a + 4 ≤ l.length) :
    openR (mix (sealB l) a (pick4 b0 b1 b2 b3) 4) = ([], 7) := by
  have hlen : (sealB l).length = a + 4 + (l.length - a) := by rw [sealB_length]; omega
  have e1 : (mix (sealB l) a (pick4 b0 b1 b2 b3) 4).length = l.length + 4 := by rw [mix_length, sealB_length]
  have e2 : (mix (sealB l) a (pick4 b0 b1 b2 b3) 4).length - 4 = l.length := by omega
  refine openR_sum (by omega) ?_
  rw [e2, mix_err _ _ _ _ _ _ _ hlen]
  rcases ha with rfl | ha
  · have h0 : err l.length (l.length - l.length) b0 b1 b2 b3 = zer l.length ++ [b0, b1, b2, b3] := by simp [err, zer]
    have h1 : xors (sealB l) (err l.length (l.length - l.length) b0 b1 b2 b3) = l ++ xors (tailB (sumI l)) [b0, b1, b2, b3] := by
      rw [h0, sealB, xors_append _ _ _ _ (by simp [zer]), xors_zer l _ rfl]
    rw [h1, List.drop_left, List.take_left]
    intro h
    apply hne
    have hx : ∀ i, (tailB (sumI l)).getD i 0 ^^^ [b0, b1, b2, b3].getD i 0 = (tailB (sumI l)).getD i 0 := fun i => by
      rw [← xors_getD _ _ (by rw [tailB_length]; rfl), h]
    have hz : ∀ i, [b0, b1, b2, b3].getD i 0 = 0 := fun i => by
      have := congrArg (fun x => (tailB (sumI l)).getD i 0 ^^^ x) (hx i)
      simpa [← UInt8.xor_assoc] using this
    exact ⟨hz 0, hz 1, hz 2, hz 3⟩
  · obtain ⟨r, hr⟩ : ∃ r, l.length = a + 4 + r := ⟨l.length - a - 4, by omega⟩
    have h0 : err a (l.length - a) b0 b1 b2 b3 = err a r b0 b1 b2 b3 ++ zer 4 := by
      rw [err, err, List.append_assoc (zer a ++ [b0, b1, b2, b3])]
      congr 1
      rw [zer, zer, zer, List.replicate_append_replicate]
      congr 1
      omega
    have hl : l.length = (err a r b0 b1 b2 b3).length := by rw [err_length, hr]
    have h1 : xors (sealB l) (err a (l.length - a) b0 b1 b2 b3) = xors l (err a r b0 b1 b2 b3) ++ tailB (sumI l) := by
      rw [h0, sealB, xors_append _ _ _ _ hl, xors_zer _ 4 (tailB_length _)]
    have h2 : (xors l (err a r b0 b1 b2 b3)).length = l.length := xors_length _ _ hl
    rw [h1, ← h2, List.drop_left, List.take_left]
    intro h
    have h3 := tailB_inj (sumI_bd _) (sumI_bd _) h
    exact hne (reg_err a r _ _ _ _ (sumI_turned l _ hl h3.symm))

/-- The sums of three texts, and of what they turn into one another. -/
theorem turns (a b c : List UInt8) (hb : b.length = a.length) (hc : c.length = a.length) :
    crc a ^^^ crc b ^^^ crc c ^^^ crc (xors a (xors b c)) = 0 := by
  have h1 := reg_xor b c (by omega) ones ones
  have h2 := reg_xor a (xors b c) (by rw [xors_length _ _ (by omega)]; omega) ones (ones ^^^ ones)
  have e : ones ^^^ (ones ^^^ ones) = ones := by decide
  rw [e, h1] at h2
  unfold crc
  rw [h2]
  generalize reg ones a = x
  generalize reg ones b = y
  generalize reg ones c = z
  have hn : ∀ u : R, ~~~ u = u ^^^ ones := fun u => by
    rw [ones, BitVec.xor_allOnes]
  rw [hn, hn, hn, hn]
  have : x ^^^ ones ^^^ (y ^^^ ones) ^^^ (z ^^^ ones) ^^^ (x ^^^ (y ^^^ z) ^^^ ones) = (x ^^^ x) ^^^ (y ^^^ y) ^^^ (z ^^^ z) ^^^ (ones ^^^ ones) ^^^ (ones ^^^ ones) := by ac_rfl
  rw [this]
  simp only [BitVec.xor_self]
  rfl

end Go.Proofs.Ytpeofjlecgenbaa
