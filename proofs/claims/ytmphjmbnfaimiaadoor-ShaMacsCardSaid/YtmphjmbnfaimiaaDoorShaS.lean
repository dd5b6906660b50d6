/- Contract of the document's turn. -/
import Derived.Test.YtmphjmbnfaimiaaDoorShaL
namespace Go.Proofs.YtmphjmbnfaimiaaDoor
open Go.RowKit ShaMath

theorem refTurn_val (x : W) (n : Nat) : bits .or .i64 (tI x / 2 ^ n) (tI x * 2 ^ (32 - n) % 4294967296) = tI (rr x n) := by
  have hx := x.isLt
  have e1 : tI x * 2 ^ (32 - n) % 4294967296 = ((x.toNat * 2 ^ (32 - n) % 4294967296 : Nat) : Int) := by unfold tI; simp
  have e2 : tI x / 2 ^ n = ((x.toNat / 2 ^ n : Nat) : Int) := by unfold tI; simp
  have hd : x.toNat / 2 ^ n < 4294967296 := Nat.lt_of_le_of_lt (Nat.div_le_self _ _) hx
  have hm : x.toNat * 2 ^ (32 - n) % 4294967296 < 4294967296 := Nat.mod_lt _ (by omega)
  rw [e1, e2, or_i64 _ _ (by omega) (by omega)]
  unfold tI
  rw [rr, BitVec.toNat_or, BitVec.toNat_ushiftRight, BitVec.toNat_shiftLeft, Nat.shiftRight_eq_div_pow, Nat.shiftLeft_eq]

theorem refTurn_any (x : W) (N : Int) (w : World) (h1 : 1 ≤ N) (h2 : N ≤ 31) :
    Calls Tryd.prog 22 #[.int .i64 (tI x), .int .i64 N] w fun e w' => e = .returned (.int .i64 (tI (rr x N.toNat))) ∧ w' = w := by
  obtain ⟨n, rfl⟩ : ∃ n : Nat, N = n := ⟨N.toNat, by omega⟩
  obtain ⟨m, hm⟩ : ∃ m, 32 - n = m := ⟨_, rfl⟩
  have hb := tI_bd x
  have hv := refTurn_val x n
  rw [hm] at hv
  have HV := Lib.hid hv
  have hp : (2 : Int) ^ m ≤ 2147483648 := by
    have h3 : m ≤ 31 := by omega
    have h4 : 2 ^ m ≤ 2 ^ 31 := Nat.pow_le_pow_right (by omega) h3
    have h5 : ((2 ^ m : Nat) : Int) ≤ ((2 ^ 31 : Nat) : Int) := by exact_mod_cast h4
    simpa using h5
  have hp0 : (0 : Int) < 2 ^ m := Int.pow_pos (by omega)
  have hmul : tI x * 2 ^ m < 9223372036854775808 := by
    have h6 : tI x * 2 ^ m ≤ 4294967295 * 2147483648 := Int.mul_le_mul (by omega) hp (by omega) (by omega)
    omega
  have hmul0 : 0 ≤ tI x * 2 ^ m := Int.mul_nonneg (by omega) (by omega)
  have hw1 : IntKind.i64.wrap (tI x * 2 ^ m) = tI x * 2 ^ m := IntWalk.i64_in _ (by omega)
  have e1 : 32 - (n : Int) = (m : Int) := by omega
  have hn1 : (n : Int) ≤ 31 := by omega
  have hm1 : (m : Int) ≤ 31 := by omega
  have hm2 : 1 ≤ (m : Int) := by omega
  have HM0 := Lib.hid hmul0
  clear hv hm hp hp0 hmul hmul0
  go_enter Tryd.func22, Tryd.ntmps22
  go_wp2
  go_ret
  exact ⟨ret_int (by rw [Int.toNat_natCast, Int.tmod_eq_emod_of_nonneg HM0.out]; exact HV.out), rfl⟩

end Go.Proofs.YtmphjmbnfaimiaaDoor
