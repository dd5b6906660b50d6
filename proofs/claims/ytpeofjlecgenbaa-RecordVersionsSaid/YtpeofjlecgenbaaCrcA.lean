/- Contracts of crc's small functions: eight, feed, bare. -/
import Derived.Test.YtpeofjlecgenbaaKit
import Derived.Test.YtpeofjlecgenbaaCrcMath
import Derived.Deep.QuietTactic
import Derived.Laws.BitsAllLaws
namespace Go.Proofs.Ytpeofjlecgenbaa
open Go.RowKit CrcMath

theorem crc_bit (x : R) : (bits .and .u32 (x.toNat : Int) 1 == 1) = x.getLsbD 0 := by
  have hx := x.isLt
  have e : bits .and .u32 (x.toNat : Int) 1 = ((x.toNat &&& 1 : Nat) : Int) := u32_and_nat x.toNat 1 (by omega) (by omega)
  rw [e, Nat.and_one_is_mod, BitVec.getLsbD, Nat.testBit_zero, Bool.eq_iff_iff]
  simp
  omega
theorem crc_turn (x : R) (h : x.getLsbD 0 = true) : bits .xor .u32 ((x.toNat : Int) / 2) 3988292384 = ((stp x).toNat : Int) := by
  have hx := x.isLt
  have e1 : (x.toNat : Int) / 2 = ((x.toNat / 2 : Nat) : Int) := by omega
  have e : bits .xor .u32 ((x.toNat / 2 : Nat) : Int) ((3988292384 : Nat) : Int) = ((x.toNat / 2 ^^^ 3988292384 : Nat) : Int) := u32_xor_nat _ _ (by omega) (by omega)
  rw [e1]
  refine e.trans ?_
  rw [stp, if_pos h, BitVec.toNat_xor, BitVec.toNat_ushiftRight, Nat.shiftRight_eq_div_pow]
  rfl
theorem crc_shift (x : R) (h : x.getLsbD 0 = false) : (x.toNat : Int) / 2 = ((stp x).toNat : Int) := by
  rw [stp, if_neg (by rw [h]; decide), BitVec.toNat_ushiftRight, Nat.shiftRight_eq_div_pow]
  omega

theorem eight_any (r : R) (w : World) :
    Calls Try.prog 46 #[.int .u32 (r.toNat : Int)] w fun e w' => e = .returned (.int .u32 ((eight r).toNat : Int)) ∧ w = w' := by
  go_enter Try.func46, Try.ntmps46
  go_wp2
  go_loop [0, 3] (fun t i => ∃ k : Nat, k ≤ 8 ∧ i = .int .i64 k ∧ t = .int .u32 ((its k r).toNat : Int)) (fun _ i => 8 - (intOf i).toNat)
  case atStart => exact ⟨0, by omega, rfl, rfl⟩
  case round =>
    obtain ⟨k, hk, rfl, rfl⟩ := hrel
    generalize hx : its k r = x
    have HX := Lib.hid hx
    clear hx
    by_cases hlt : k < 8
    · have HT : Hid (its (k + 1) r = stp x) := Lib.hid (by rw [← HX.out]; rfl)
      have HB := Lib.hid (crc_bit x)
      go_wp2
      · have h : (bits BinOp.and IntKind.u32 (x.toNat : Int) 1 == 1) = true := by assumption
        go_round
        case rel => exact ⟨k + 1, by omega, by go_num, by rw [HT.out, crc_turn x (by rw [← HB.out]; exact h)]⟩
        case measure => simp [intOf]; omega
      · have h : (bits BinOp.and IntKind.u32 (x.toNat : Int) 1 == 1) = false := by assumption
        go_round
        case rel => exact ⟨k + 1, by omega, by go_num, by rw [HT.out, crc_shift x (by rw [← HB.out]; exact h)]⟩
        case measure => simp [intOf]; omega
    · have ek : k = 8 := by omega
      subst ek
      go_wp2
      go_ret
      exact ⟨ret_int (by rw [← HX.out]; rfl), rfl⟩

/-- The table of a summer lies in block b from the cell at o on. -/
def Tab (w : World) (b o : Nat) : Prop := ∀ j : Nat, j < 256 → w.cell? ⟨b, o + j, none⟩ = some (.int .u32 ((eight (BitVec.ofNat 32 j)).toNat : Int))

theorem Tab.below {w w' : World} {B b o : Nat} (h : Tab w b o) (hb : Below B w w') (hlt : b < B) : Tab w' b o :=
  fun j hj => (hb.cell (p := ⟨b, o + j, none⟩) hlt).trans (h j hj)

theorem bare_any (b o : Nat) (w : World) (h : Tab w b o) :
    Calls Try.prog 47 #[.pointer (some ⟨b, o, none⟩)] w fun e w' => e = .returned (.bool false) ∧ w = w' := by
  have h1 : w.cell? ⟨b, o + 1, none⟩ = some (.int .u32 1996959894) := h 1 (by omega)
  clear h
  go_enter Try.func47, Try.ntmps47
  go_wp2
  go_ret
  exact ⟨rfl, rfl⟩

theorem feed_index (x : R) (c : UInt8) : bits .xor .u8 (IntKind.u8.wrap (x.toNat : Int)) (c.toNat : Int) = (((x.toNat % 256) ^^^ c.toNat : Nat) : Int) := by
  have hc : c.toNat < 256 := c.toNat_lt
  have e : IntKind.u8.wrap (x.toNat : Int) = ((x.toNat % 256 : Nat) : Int) := by rw [IntKind.wrap_u8']; omega
  rw [e, u8_xor_nat _ _ (by omega) (by omega)]
theorem feed_step (x : R) (c : UInt8) (j : Nat) (hj : (x.toNat % 256) ^^^ c.toNat = j) : bits .xor .u32 ((x.toNat : Int) / 256) ((eight (BitVec.ofNat 32 j)).toNat : Int) = ((fd x c).toNat : Int) := by
  have hx := x.isLt
  have e : (x.toNat : Int) / 256 = ((x.toNat / 256 : Nat) : Int) := by omega
  rw [e, u32_xor_nat _ _ (by omega) (BitVec.isLt _), fd_table, hj, BitVec.toNat_xor, BitVec.toNat_ushiftRight, Nat.shiftRight_eq_div_pow]

theorem feed_any (b o : Nat) (r : R) (s : ByteArray) (w : World) (h : Tab w b o) (hlt0 : b < w.heap.size) (hs : s.size ≤ maxLen) :
    Calls Try.prog 48 #[.pointer (some ⟨b, o, none⟩), .int .u32 (r.toNat : Int), .string s] w fun e w' => e = .returned (.int .u32 ((reg r s.data.toList).toNat : Int)) ∧ Below w.heap.size w w' := by
  unfold maxLen at hs
  go_enter Try.func48, Try.ntmps48
  go_wp2
  go_loopw [1, 10] (fun t i wr => ∃ k : Nat, k ≤ s.size ∧ i = .int .i64 k ∧ t = .int .u32 ((reg r (s.data.toList.take k)).toNat : Int) ∧ Below w.heap.size w wr) (fun _ i _ => s.size - (intOf i).toNat)
  case atStart => exact ⟨0, by omega, rfl, rfl, Below.refl _ _⟩
  case round =>
    obtain ⟨k, hk, rfl, rfl, hbw⟩ := hrel
    by_cases hlt : k < s.size
    · generalize hx : reg r (s.data.toList.take k) = x
      have HX := Lib.hid hx
      clear hx
      have HT : Hid (reg r (s.data.toList.take (k + 1)) = fd x s[k]) := Lib.hid (by rw [bytes_take s k hlt, reg_snoc, HX.out])
      obtain ⟨j, hj⟩ : ∃ j, (x.toNat % 256) ^^^ s[k].toNat = j := ⟨_, rfl⟩
      have hc : s[k].toNat < 256 := s[k].toNat_lt
      have hj2 : j < 256 := by rw [← hj]; exact Nat.xor_lt_two_pow (n := 8) (by omega) (by omega)
      have hcell : wr.cell? ⟨b, o + j, none⟩ = some (.int .u32 ((eight (BitVec.ofNat 32 j)).toNat : Int)) := (hbw.cell (p := ⟨b, o + j, none⟩) hlt0).trans (h j hj2)
      have hidx := feed_index x s[k]
      rw [hj] at hidx
      have HS : Hid (_ = _) := Lib.hid (feed_step x s[k] j hj)
      clear hj hc
      have hj3 : (j : Int) < 256 := by omega
      have hj4 : 0 ≤ (j : Int) := by omega
      go_wp2
      go_quiet (fail)
      have hb2 : Below w.heap.size w (wr.drewN nq) := hbw.drewN _
      go_wp2
      go_roundw
      case rel => exact ⟨k + 1, by omega, by go_num, by rw [HT.out, ← HS.out], hb2⟩
      case measure => simp [intOf]; omega
    · go_wp2
      go_ret
      exact ⟨ret_int (by rw [List.take_of_length_le (by rw [size_list]; omega)]), hbw⟩

end Go.Proofs.Ytpeofjlecgenbaa
