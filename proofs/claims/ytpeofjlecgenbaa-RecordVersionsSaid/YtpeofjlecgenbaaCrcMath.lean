/- The register of CRC-32, as plain mathematics: steps, bytes, what turned bytes do to it. -/
namespace Go.Proofs.Ytpeofjlecgenbaa.CrcMath

abbrev R := BitVec 32
def P : R := 0xEDB88320#32
def stp (r : R) : R := if r.getLsbD 0 then (r >>> 1) ^^^ P else r >>> 1
def its : Nat → R → R
  | 0, r => r
  | k + 1, r => stp (its k r)
def eight (r : R) : R := its 8 r
/-- A byte as a register. -/
def ex (b : UInt8) : R := BitVec.ofNat 32 b.toNat
def fd (r : R) (b : UInt8) : R := eight (r ^^^ ex b)
def reg (r : R) (l : List UInt8) : R := l.foldl fd r
def ones : R := BitVec.allOnes 32
def crc (l : List UInt8) : R := ~~~ reg ones l

theorem reg_nil (r : R) : reg r [] = r := rfl
theorem reg_cons (r : R) (b : UInt8) (l : List UInt8) : reg r (b :: l) = reg (fd r b) l := rfl
theorem reg_append (r : R) (l m : List UInt8) : reg r (l ++ m) = reg (reg r l) m := by simp [reg]
theorem reg_snoc (r : R) (l : List UInt8) (b : UInt8) : reg r (l ++ [b]) = fd (reg r l) b := by simp [reg]

theorem stp_xor (a b : R) : stp (a ^^^ b) = stp a ^^^ stp b := by
  unfold stp
  rw [BitVec.getLsbD_xor]
  cases ha : a.getLsbD 0 <;> cases hb : b.getLsbD 0 <;> simp [BitVec.ushiftRight_xor_distrib]
  · ac_rfl
  · ac_rfl
  · rw [show a >>> 1 ^^^ P ^^^ (b >>> 1 ^^^ P) = (a >>> 1 ^^^ b >>> 1) ^^^ (P ^^^ P) by ac_rfl, BitVec.xor_self, BitVec.xor_zero]
theorem its_xor (k : Nat) (a b : R) : its k (a ^^^ b) = its k a ^^^ its k b := by
  induction k with
  | zero => rfl
  | succ k ih => rw [its, ih, stp_xor, its, its]
theorem eight_xor (a b : R) : eight (a ^^^ b) = eight a ^^^ eight b := its_xor 8 a b
theorem stp_zero : stp 0 = 0 := by decide
theorem its_zero (k : Nat) : its k 0 = 0 := by
  induction k with
  | zero => rfl
  | succ k ih => rw [its, ih, stp_zero]
theorem eight_zero : eight 0 = 0 := its_zero 8

theorem stp_even (x : R) (k : Nat) : stp (x <<< (k + 1)) = (x <<< (k + 1)) >>> 1 := by
  unfold stp
  rw [if_neg (by simp)]

theorem shl_shr (y : R) (k : Nat) (h : y.toNat * 2 ^ (k + 1) < 2 ^ 32) : (y <<< (k + 1)) >>> 1 = y <<< k := by
  apply BitVec.eq_of_toNat_eq
  rw [BitVec.toNat_ushiftRight, BitVec.toNat_shiftLeft, BitVec.toNat_shiftLeft, Nat.shiftLeft_eq, Nat.shiftLeft_eq, Nat.shiftRight_eq_div_pow]
  rw [Nat.mod_eq_of_lt h]
  have e : y.toNat * 2 ^ (k + 1) = (y.toNat * 2 ^ k) * 2 := by rw [Nat.pow_succ]; ac_rfl
  rw [e] at h ⊢
  rw [Nat.mod_eq_of_lt (by omega)]
  omega
theorem its_shl (y : R) (n k : Nat) (hk : k ≤ n) (h : y.toNat * 2 ^ n < 2 ^ 32) : its k (y <<< n) = y <<< (n - k) := by
  induction k with
  | zero => rfl
  | succ k ih =>
    rw [its, ih (by omega)]
    obtain ⟨m, hm⟩ : ∃ m, n - k = m + 1 := ⟨n - k - 1, by omega⟩
    have hp : 2 ^ (m + 1) ≤ 2 ^ n := Nat.pow_le_pow_right (by omega) (by omega)
    rw [hm, stp_even, shl_shr y m (Nat.lt_of_le_of_lt (Nat.mul_le_mul_left _ hp) h)]
    congr 1
    omega
/-- Of a register whose lowest eight bits are 0 eight steps make what lies above them. -/
theorem eight_high (y : R) (h : y.toNat * 256 < 2 ^ 32) : eight (y <<< 8) = y := by
  have := its_shl y 8 8 (Nat.le_refl _) h
  simpa [eight] using this

theorem split (r : R) : r = ((r >>> 8) <<< 8) ^^^ (BitVec.ofNat 32 (r.toNat % 256)) := by
  apply BitVec.eq_of_toNat_eq
  rw [BitVec.toNat_xor, BitVec.toNat_shiftLeft, BitVec.toNat_ushiftRight, BitVec.toNat_ofNat, Nat.shiftLeft_eq, Nat.shiftRight_eq_div_pow]
  have hr := r.isLt
  rw [Nat.mod_eq_of_lt (a := r.toNat % 256) (by omega), Nat.mod_eq_of_lt (by omega)]
  have h := Nat.two_pow_add_eq_or_of_lt (i := 8) (b := r.toNat % 256) (by omega) (r.toNat / 2 ^ 8)
  have h2 : 2 ^ 8 * (r.toNat / 2 ^ 8) ^^^ r.toNat % 256 = 2 ^ 8 * (r.toNat / 2 ^ 8) ||| r.toNat % 256 := by
    apply Nat.eq_of_testBit_eq
    intro i
    rw [Nat.testBit_xor, Nat.testBit_or, Nat.testBit_two_pow_mul]
    by_cases hi : i < 8
    · simp [show ¬ 8 ≤ i by omega]
    · have : (r.toNat % 256).testBit i = false := Nat.testBit_lt_two_pow (Nat.lt_of_lt_of_le (show r.toNat % 256 < 2 ^ 8 by omega) (Nat.pow_le_pow_right (by omega) (by omega)))
      simp [this]
  rw [Nat.mul_comm, h2, ← h]
  omega

/-- A byte, by the table. -/
theorem fd_table (r : R) (b : UInt8) : fd r b = (r >>> 8) ^^^ eight (BitVec.ofNat 32 ((r.toNat % 256) ^^^ b.toNat)) := by
  unfold fd
  have hx : BitVec.ofNat 32 ((r.toNat % 256) ^^^ b.toNat) = BitVec.ofNat 32 (r.toNat % 256) ^^^ ex b := by
    apply BitVec.eq_of_toNat_eq
    have hb : b.toNat < 256 := b.toNat_lt
    have h1 : r.toNat % 256 ^^^ b.toNat < 2 ^ 8 := Nat.xor_lt_two_pow (by omega) (by omega)
    rw [BitVec.toNat_xor, ex, BitVec.toNat_ofNat, BitVec.toNat_ofNat, BitVec.toNat_ofNat]
    rw [Nat.mod_eq_of_lt (a := r.toNat % 256 ^^^ b.toNat) (by omega), Nat.mod_eq_of_lt (a := b.toNat) (by omega), Nat.mod_eq_of_lt (a := r.toNat % 256) (by omega)]
  have hh : ((r >>> 8).toNat) * 256 < 2 ^ 32 := by
    rw [BitVec.toNat_ushiftRight, Nat.shiftRight_eq_div_pow]
    have hr := r.isLt
    omega
  conv => lhs; rw [split r]
  rw [BitVec.xor_assoc, ← hx, eight_xor, eight_high _ hh]

theorem fd_xor (r s : R) (a b : UInt8) : fd (r ^^^ s) (a ^^^ b) = fd r a ^^^ fd s b := by
  unfold fd
  have : ex (a ^^^ b) = ex a ^^^ ex b := by
    apply BitVec.eq_of_toNat_eq
    have ha : a.toNat < 256 := a.toNat_lt
    have hb : b.toNat < 256 := b.toNat_lt
    have h1 : a.toNat ^^^ b.toNat < 2 ^ 8 := Nat.xor_lt_two_pow (by omega) (by omega)
    rw [ex, ex, ex, BitVec.toNat_xor, BitVec.toNat_ofNat, BitVec.toNat_ofNat, BitVec.toNat_ofNat, UInt8.toNat_xor]
    rw [Nat.mod_eq_of_lt (by omega), Nat.mod_eq_of_lt (by omega), Nat.mod_eq_of_lt (by omega)]
  rw [this, ← eight_xor]
  congr 1
  ac_rfl

def xors (l m : List UInt8) : List UInt8 := List.zipWith (· ^^^ ·) l m
theorem reg_xor (l m : List UInt8) (h : l.length = m.length) (r s : R) : reg (r ^^^ s) (xors l m) = reg r l ^^^ reg s m := by
  induction l generalizing m r s with
  | nil => cases m with | nil => rfl | cons => simp at h
  | cons a l ih =>
    cases m with
    | nil => simp at h
    | cons b m =>
      simp only [xors, List.zipWith_cons_cons, reg_cons]
      rw [fd_xor]
      exact ih m (by simpa using h) _ _

theorem stp_inj {x : R} (h : stp x = 0) : x = 0 := by
  unfold stp at h
  cases hx : x.getLsbD 0 with
  | true =>
    rw [hx] at h
    simp only [if_true] at h
    have h31 : ((x >>> 1) ^^^ P).getLsbD 31 = true := by
      rw [BitVec.getLsbD_xor, BitVec.getLsbD_ushiftRight]
      have : x.getLsbD (1 + 31) = false := BitVec.getLsbD_of_ge _ _ (by omega)
      rw [this]
      decide
    rw [h] at h31
    simp at h31
  | false =>
    rw [hx] at h
    simp only [Bool.false_eq_true, if_false] at h
    apply BitVec.eq_of_getLsbD_eq
    intro i hi
    cases i with
    | zero => simpa using hx
    | succ i =>
      have := congrArg (fun y => BitVec.getLsbD y i) h
      simp only [BitVec.getLsbD_ushiftRight] at this
      rw [Nat.add_comm]
      simpa using this
theorem its_inj (k : Nat) {x : R} (h : its k x = 0) : x = 0 := by
  induction k with
  | zero => exact h
  | succ k ih => exact ih (stp_inj h)
theorem eight_inj {x : R} (h : eight x = 0) : x = 0 := its_inj 8 h

theorem fd_zero_inj {r : R} (h : fd r 0 = 0) : r = 0 := by
  unfold fd at h
  have := eight_inj h
  simpa [ex] using this
theorem reg_zeros (n : Nat) {r : R} (h : reg r (List.replicate n 0) = 0) : r = 0 := by
  induction n generalizing r with
  | zero => exact h
  | succ n ih =>
    rw [List.replicate_succ, reg_cons] at h
    exact fd_zero_inj (ih h)
theorem reg_zero_zeros (n : Nat) : reg 0 (List.replicate n 0) = 0 := by
  induction n with
  | zero => rfl
  | succ n ih =>
    rw [List.replicate_succ, reg_cons]
    have : fd 0 0 = 0 := by
      unfold fd
      rw [show (0 : R) ^^^ ex 0 = 0 from by decide, eight_zero]
    rw [this, ih]

theorem ex_lt (b : UInt8) : (ex b).toNat < 256 := by
  have := b.toNat_lt
  unfold ex
  rw [BitVec.toNat_ofNat, Nat.mod_eq_of_lt (by omega)]
  exact this
theorem ex_zero {b : UInt8} (h : ex b = 0) : b = 0 := by
  have h1 := congrArg BitVec.toNat h
  have := b.toNat_lt
  unfold ex at h1
  rw [BitVec.toNat_ofNat, Nat.mod_eq_of_lt (by omega)] at h1
  apply UInt8.toNat_inj.1
  simpa using h1

/-- Four bytes, from nothing, make nothing only of nothing. -/
theorem four (a b c d : UInt8) (h : reg 0 [a, b, c, d] = 0) : a = 0 ∧ b = 0 ∧ c = 0 ∧ d = 0 := by
  have e0 : (0 : R) ^^^ ex a = ex a := by simp
  simp only [reg_cons, reg_nil, fd] at h
  rw [e0] at h
  have h3 := eight_inj h
  obtain ⟨u, hu⟩ : ∃ u, u = eight (eight (eight (ex a) ^^^ ex b) ^^^ ex c) := ⟨_, rfl⟩
  rw [← hu] at h3
  have e3 : u = ex d := by
    have := congrArg (· ^^^ ex d) h3
    simpa [BitVec.xor_assoc] using this
  -- eight (v) = ex d, so v = ex d <<< 8
  have back : ∀ (v w : R), w.toNat * 256 < 2 ^ 32 → eight v = w → v = w <<< 8 := by
    intro v w hw e
    have hz : eight (v ^^^ (w <<< 8)) = 0 := by rw [eight_xor, eight_high w hw, e, BitVec.xor_self]; rfl
    have := eight_inj hz
    have := congrArg (· ^^^ (w <<< 8)) this
    simpa [BitVec.xor_assoc] using this
  have hd := ex_lt d
  have hc := ex_lt c
  have hb := ex_lt b
  have ha := ex_lt a
  have e2 := back _ _ (by omega) (hu.symm.trans e3)
  have sh8 : ∀ (x : R), x.toNat * 256 < 2 ^ 32 → (x <<< 8).toNat = x.toNat * 256 := by
    intro x hx
    rw [BitVec.toNat_shiftLeft, Nat.shiftLeft_eq, Nat.mod_eq_of_lt (by simpa using hx)]
  have low : ∀ (x : R) (e : UInt8), x.toNat * 256 < 2 ^ 32 → ((x <<< 8) ^^^ ex e).toNat = x.toNat * 256 + e.toNat := by
    intro x e hx
    have he := e.toNat_lt
    rw [BitVec.toNat_xor, sh8 x hx]
    have h1 : (ex e).toNat = e.toNat := by unfold ex; rw [BitVec.toNat_ofNat, Nat.mod_eq_of_lt (by omega)]
    rw [h1]
    have h := Nat.two_pow_add_eq_or_of_lt (i := 8) (b := e.toNat) (by omega) x.toNat
    have h2 : 2 ^ 8 * x.toNat ^^^ e.toNat = 2 ^ 8 * x.toNat ||| e.toNat := by
      apply Nat.eq_of_testBit_eq
      intro i
      rw [Nat.testBit_xor, Nat.testBit_or, Nat.testBit_two_pow_mul]
      by_cases hi : i < 8
      · simp [show ¬ 8 ≤ i by omega]
      · have : e.toNat.testBit i = false := Nat.testBit_lt_two_pow (Nat.lt_of_lt_of_le (show e.toNat < 2 ^ 8 by omega) (Nat.pow_le_pow_right (by omega) (by omega)))
        simp [this]
    rw [Nat.mul_comm, h2, ← h]
  have xr : ∀ (v w : R) (e : UInt8), v ^^^ ex e = w → v = w ^^^ ex e := by
    intro v w e h
    rw [← h, BitVec.xor_assoc, BitVec.xor_self, BitVec.xor_zero]
  have f2 := xr _ _ _ e2
  have b2 : ((ex d <<< 8) ^^^ ex c).toNat < 65536 := by
    have := c.toNat_lt
    rw [low _ _ (by omega)]; omega
  have e1 := back _ _ (by omega) f2
  have f1 := xr _ _ _ e1
  have b1 : ((((ex d <<< 8) ^^^ ex c) <<< 8) ^^^ ex b).toNat < 16777216 := by
    have := b.toNat_lt
    rw [low _ _ (by omega)]; omega
  have e0 := back _ _ (by omega) f1
  have n0 := congrArg BitVec.toNat e0
  rw [sh8 _ (by omega), low _ _ (by omega), low _ _ (by omega)] at n0
  have hd1 : (ex d).toNat = d.toNat := by have := d.toNat_lt; unfold ex; rw [BitVec.toNat_ofNat, Nat.mod_eq_of_lt (by omega)]
  have ha1 : (ex a).toNat = a.toNat := by have := a.toNat_lt; unfold ex; rw [BitVec.toNat_ofNat, Nat.mod_eq_of_lt (by omega)]
  rw [hd1, ha1] at n0
  have z : ∀ x : UInt8, x.toNat = 0 → x = 0 := fun x h => UInt8.toNat_inj.1 (by simpa using h)
  have := a.toNat_lt
  exact ⟨z a (by omega), z b (by omega), z c (by omega), z d (by omega)⟩

end Go.Proofs.Ytpeofjlecgenbaa.CrcMath
