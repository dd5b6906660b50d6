/- Contracts of the document's answers: Sum, Seal, Open, Joined; Long, awake. -/
import Derived.Test.YtpeofjlecgenbaaCrcC
namespace Go.Proofs.Ytpeofjlecgenbaa
open Go.RowKit CrcMath

/-- The register behind k bits of a byte, as the document has it. -/
def refR (k : Nat) (x : R) (c : UInt8) : R := its k (x ^^^ ex c) ^^^ (ex c >>> k)
theorem refR_zero (x : R) (c : UInt8) : refR 0 x c = x := by
  show (x ^^^ ex c) ^^^ (ex c >>> 0) = x
  rw [BitVec.ushiftRight_zero, BitVec.xor_assoc, BitVec.xor_self, BitVec.xor_zero]
theorem ex_shift (c : UInt8) (k : Nat) : (ex c >>> k).toNat = c.toNat / 2 ^ k := by
  have := c.toNat_lt
  rw [BitVec.toNat_ushiftRight, Nat.shiftRight_eq_div_pow, ex, BitVec.toNat_ofNat, Nat.mod_eq_of_lt (by omega)]
theorem refR_eight (x : R) (c : UInt8) : refR 8 x c = fd x c := by
  have h : ex c >>> 8 = 0 := by
    apply BitVec.eq_of_toNat_eq
    rw [ex_shift]
    have := c.toNat_lt
    show c.toNat / 256 = 0
    omega
  rw [refR, h]
  show its 8 (x ^^^ ex c) ^^^ 0#32 = _
  rw [BitVec.xor_zero]; rfl
theorem lsb_mod (x : R) : x.getLsbD 0 = decide (x.toNat % 2 = 1) := by
  rw [BitVec.getLsbD, Nat.testBit_zero]
theorem refR_succ (k : Nat) (x : R) (c : UInt8) :
    refR (k + 1) x c = if ((refR k x c).toNat % 2 = c.toNat / 2 ^ k % 2) then refR k x c >>> 1 else (refR k x c >>> 1) ^^^ P := by
  obtain ⟨z, hz⟩ : ∃ z, z = its k (x ^^^ ex c) := ⟨_, rfl⟩
  obtain ⟨d, hd⟩ : ∃ d, d = ex c >>> k := ⟨_, rfl⟩
  have e1 : refR k x c = z ^^^ d := by rw [hz, hd, refR]
  have e2 : refR (k + 1) x c = stp z ^^^ (d >>> 1) := by
    rw [hz, hd, refR, its, ← BitVec.shiftRight_add]
  have e3 : c.toNat / 2 ^ k = d.toNat := by rw [hd, ex_shift]
  have hl : (z ^^^ d).getLsbD 0 = (z.getLsbD 0 ^^ d.getLsbD 0) := BitVec.getLsbD_xor ..
  rw [lsb_mod, lsb_mod d] at hl
  rw [e1, e2, e3, stp]
  have hx : ((z ^^^ d) >>> 1) = (z >>> 1) ^^^ (d >>> 1) := BitVec.ushiftRight_xor_distrib ..
  rw [hx]
  have hb : ∀ a : Nat, a % 2 = 0 ∨ a % 2 = 1 := fun a => by omega
  cases hq : z.getLsbD 0 with
  | true =>
    rw [hq] at hl
    rw [if_pos rfl, if_neg]
    · ac_rfl
    · intro h
      rw [h] at hl
      rcases hb d.toNat with h1 | h1 <;> simp [h1] at hl
  | false =>
    rw [hq] at hl
    rw [if_neg (by decide), if_pos]
    rw [Bool.false_xor, decide_eq_decide] at hl
    generalize (z ^^^ d).toNat = q at hl ⊢
    have := hb d.toNat
    have := hb q
    omega

theorem ref_xor (y : R) : bits .xor .i64 ((y.toNat : Int) / 2) 3988292384 = (((y >>> 1) ^^^ P).toNat : Int) := by
  have hx := y.isLt
  have e1 : (y.toNat : Int) / 2 = ((y.toNat / 2 : Nat) : Int) := by omega
  rw [e1, show (3988292384 : Int) = ((3988292384 : Nat) : Int) from rfl, xor_i64 _ _ (by omega) (by omega), BitVec.toNat_xor, BitVec.toNat_ushiftRight, Nat.shiftRight_eq_div_pow]
  rfl
theorem ref_end (l : List UInt8) : 4294967295 - ((reg ones l).toNat : Int) = sumI l := by
  have := (reg ones l).isLt
  rw [sumI, crc, BitVec.toNat_not]
  omega

set_option maxRecDepth 100000 in
theorem refSum_any (s : ByteArray) (w : World) (hs : s.size ≤ 140737488355328) :
    Calls Try.prog 30 #[.string s] w fun e w' => e = .returned (.int .i64 (sumI s.data.toList)) ∧ w = w' := by
  go_enter Try.func30, Try.ntmps30
  go_wp2
  go_loop [3, 4] (fun t i => ∃ k : Nat, k ≤ s.size ∧ i = .int .i64 k ∧ t = .int .i64 ((reg ones (s.data.toList.take k)).toNat : Int)) (fun _ i => s.size - (intOf i).toNat)
  case atStart => exact ⟨0, by omega, rfl, rfl⟩
  case round =>
    obtain ⟨k, hk, rfl, rfl⟩ := hrel
    generalize hx : reg ones (s.data.toList.take k) = x
    have HX := Lib.hid hx
    clear hx
    have hx32 : x.toNat < 4294967296 := x.isLt
    by_cases hlt : k < s.size
    · have HT : Hid (reg ones (s.data.toList.take (k + 1)) = fd x s[k]) := Lib.hid (by rw [bytes_take s k hlt, reg_snoc, HX.out])
      have hc256 : (s[k].toNat : Int) < 256 := by have := s[k].toNat_lt; omega
      go_wp2
      go_loop [3, 5, 6] (fun t d i => ∃ b : Nat, b ≤ 8 ∧ i = .int .i64 b ∧ d = .int .i64 ((s[k].toNat / 2 ^ b : Nat) : Int) ∧ t = .int .i64 ((refR b x s[k]).toNat : Int)) (fun _ _ i => 8 - (intOf i).toNat)
      case atStart => exact ⟨0, by omega, rfl, by simp, by rw [refR_zero]⟩
      case round =>
        obtain ⟨b, hb, rfl, rfl, rfl⟩ := hrel
        by_cases hb8 : b < 8
        · have HS : Hid (_ = _) := Lib.hid (refR_succ b x s[k])
          have HD : Hid (s[k].toNat / 2 ^ (b + 1) = s[k].toNat / 2 ^ b / 2) := Lib.hid (by rw [Nat.pow_succ, Nat.div_div_eq_div_mul])
          generalize hy : refR b x s[k] = y
          rw [hy] at HS
          generalize hd : s[k].toNat / 2 ^ b = d
          rw [hd] at HS HD
          have hd256 : d < 256 := by rw [← hd]; exact Nat.lt_of_le_of_lt (Nat.div_le_self _ _) (by omega)
          have hy32 : y.toNat < 4294967296 := y.isLt
          have HXO : Hid (_ = _) := Lib.hid (ref_xor y)
          clear hy hd
          by_cases hq : y.toNat % 2 = d % 2
          · have hne : ((y.toNat : Int) % 2 != (d : Int) % 2) = false := by rw [bne_eq_false_iff_eq]; omega
            have HQ := Lib.hid hq
            clear hq
            go_wp2
            go_round
            case rel => exact ⟨b + 1, by omega, by go_num, by rw [HD.out]; go_num, by rw [HS.out, if_pos HQ.out, BitVec.toNat_ushiftRight, Nat.shiftRight_eq_div_pow]; go_num⟩
            case measure => simp [intOf]; omega
          · have hne : ((y.toNat : Int) % 2 != (d : Int) % 2) = true := by rw [bne_iff_ne]; omega
            have HQ := Lib.hid hq
            clear hq
            go_wp2
            go_round
            case rel => exact ⟨b + 1, by omega, by go_num, by rw [HD.out]; go_num, by rw [HS.out, if_neg HQ.out, HXO.out]⟩
            case measure => simp [intOf]; omega
        · have eb : b = 8 := by omega
          subst eb
          go_wp2
          go_round
          case rel => exact ⟨k + 1, by omega, by go_num, by rw [HT.out, refR_eight]⟩
          case measure => simp [intOf]; omega
    · have HE : Hid (s.data.toList.take k = s.data.toList) := Lib.hid (List.take_of_length_le (by rw [size_list]; omega))
      go_wp2
      go_ret
      exact ⟨ret_int (by rw [← HX.out, HE.out]; exact ref_end _), rfl⟩

end Go.Proofs.Ytpeofjlecgenbaa
