/- Contracts of sha's right and turn. -/
import Derived.Test.YtmphjmbnfaimiaaDoorKit
import Derived.Test.YtmphjmbnfaimiaaDoorShaMath
import Derived.Deep.QuietTactic
import Derived.Laws.BitsAllLaws
namespace Go.Proofs.YtmphjmbnfaimiaaDoor
open Go.RowKit ShaMath

theorem rot_count (n m : Nat) (h : m + n = 32) (h1 : 1 ≤ n) : bits .and .u64 (IntKind.u64.wrap (-(n : Int))) 31 = (m : Int) := by
  have e : IntKind.u64.wrap (-(n : Int)) = ((18446744073709551616 - n : Nat) : Int) := by rw [IntKind.wrap_u64]; omega
  rw [e, show (31 : Int) = ((31 : Nat) : Int) from rfl, u64_and_nat _ _ (by omega) (by omega), show (31 : Nat) = 2 ^ 5 - 1 from rfl, Nat.and_two_pow_sub_one_eq_mod]
  omega

theorem rr_val (x : W) (n m : Nat) (h : m + n = 32) : bits .or .u32 ((x.toNat : Int) * 2 ^ m % 4294967296) ((x.toNat : Int) / 2 ^ (32 - m)) = ((rr x n).toNat : Int) := by
  have hx := x.isLt
  have e1 : (x.toNat : Int) * 2 ^ m % 4294967296 = ((x.toNat * 2 ^ m % 4294967296 : Nat) : Int) := by simp
  have e2 : (x.toNat : Int) / 2 ^ (32 - m) = ((x.toNat / 2 ^ n : Nat) : Int) := by rw [show 32 - m = n by omega]; simp
  have hd : x.toNat / 2 ^ n < 4294967296 := Nat.lt_of_le_of_lt (Nat.div_le_self _ _) hx
  rw [e1, e2, u32_or_nat _ _ (Nat.mod_lt _ (by omega)) hd, rr, BitVec.toNat_or, BitVec.toNat_ushiftRight, BitVec.toNat_shiftLeft, Nat.shiftRight_eq_div_pow, Nat.shiftLeft_eq, show 32 - n = m by omega, Nat.or_comm]

theorem rot_any (x : W) (n : Nat) (w : World) (h1 : 1 ≤ n) (h2 : n ≤ 31) :
    Calls Tryd.prog 35 #[.int .u32 (x.toNat : Int), .int .i64 (-(n : Int))] w fun e w' => e = .returned (.int .u32 ((rr x n).toNat : Int)) ∧ w = w' := by
  obtain ⟨m, hm⟩ : ∃ m, m + n = 32 := ⟨32 - n, by omega⟩
  have hc := rot_count n m hm h1
  have hm1 : m ≤ 31 := by omega
  have hm2 : (m : Int) ≤ 31 := by omega
  have hm3 : 1 ≤ m := by omega
  have HM := Lib.hid hm
  have hx := x.isLt
  generalize hX : x.toNat = X at hx
  have HX := Lib.hid hX
  clear hm hX
  go_enter Tryd.func35, Tryd.ntmps35
  go_wp2
  go_ret
  exact ⟨ret_int (by rw [← HX.out]; exact rr_val x n m HM.out), rfl⟩

theorem sha_right_any (x : W) (N : Int) (w : World) (h1 : 1 ≤ N) (h2 : N ≤ 31) :
    Calls Tryd.prog 34 #[.int .u32 (x.toNat : Int), .int .i64 N] w fun e w' => e = .returned (.int .u32 ((rr x N.toNat).toNat : Int)) ∧ w' = w := by
  obtain ⟨n, rfl⟩ : ∃ n : Nat, N = n := ⟨N.toNat, by omega⟩
  have h3 : 1 ≤ n := by omega
  have h4 : n ≤ 31 := by omega
  go_enter Tryd.func34, Tryd.ntmps34
  go_wp2_with (go_at_call 35; refine (rot_any _ _ _ h3 h4).mono ?_; rintro e w1 ⟨rfl, rfl⟩)
  go_ret
  exact ⟨rfl, rfl⟩

/-- A callee that leaves the world alone, in a quiet region behind another one. -/
theorem quiet_twice {P : Program} {f : FuncId} {xs : Array Value} {u : World} {i j : Nat} {x : Value}
    (c : Calls P f xs (u.drewN (i + j)) fun e u' => e = .returned x ∧ u' = u.drewN (i + j)) : Calls P f xs (u.drewN (i + j)) fun e u' => e = .returned x ∧ ∃ k, u' = u.drewN (i + k) :=
  c.mono fun _ _ h => ⟨h.1, j, h.2⟩

/-! A word as the walk has it: a number that its simp doesn't look into. -/
def tI (x : W) : Int := (x.toNat : Int)
theorem tI_bd (x : W) : 0 ≤ tI x ∧ tI x < 4294967296 := by
  have := x.isLt
  unfold tI
  omega
theorem w_xor (x y : W) : bits .xor .u32 (tI x) (tI y) = tI (x ^^^ y) := by
  unfold tI
  rw [u32_xor_nat _ _ x.isLt y.isLt, BitVec.toNat_xor]
theorem w_and (x y : W) : bits .and .u32 (tI x) (tI y) = tI (x &&& y) := by
  unfold tI
  rw [u32_and_nat _ _ x.isLt y.isLt, BitVec.toNat_and]
theorem w_or (x y : W) : bits .or .u32 (tI x) (tI y) = tI (x ||| y) := by
  unfold tI
  rw [u32_or_nat _ _ x.isLt y.isLt, BitVec.toNat_or]
theorem w_add (x y : W) : IntKind.u32.wrap (tI x + tI y) = tI (x + y) := by
  unfold tI
  rw [IntKind.wrap_u32', BitVec.toNat_add]
  omega
theorem w_mod (x y : W) : (tI x + tI y) % 4294967296 = tI (x + y) := by
  unfold tI
  rw [BitVec.toNat_add]
  omega
theorem w_not (x : W) : bits .xor .u32 (if IntKind.u32.signed = true then -1 else IntKind.u32.max) (tI x) = tI (~~~x) := by
  have h1 : (if IntKind.u32.signed = true then -1 else IntKind.u32.max) = ((4294967295 : Nat) : Int) := rfl
  unfold tI
  rw [h1, u32_xor_nat _ _ (by omega) x.isLt, ← BitVec.allOnes_xor, BitVec.toNat_xor, BitVec.toNat_allOnes]

theorem right_t (x : W) (N : Int) (w : World) (h1 : 1 ≤ N) (h2 : N ≤ 31) :
    Calls Tryd.prog 34 #[.int .u32 (tI x), .int .i64 N] w fun e w' => e = .returned (.int .u32 (tI (rr x N.toNat))) ∧ w' = w := sha_right_any x N w h1 h2

/-- Words as cells. -/
def u32s (l : List W) : List Value := l.map fun x => .int .u32 (tI x)
theorem u32s_length (l : List W) : (u32s l).length = l.length := by simp [u32s]
theorem u32s_get (l : List W) (j : Nat) (h : j < l.length) : (u32s l)[j]? = some (.int .u32 (tI l[j])) := by simp [u32s, h]

theorem turn_any (a b c d e f g h k : W) (w : World) :
    Calls Tryd.prog 33 #[.agg #[.int .u32 (tI a), .int .u32 (tI b), .int .u32 (tI c), .int .u32 (tI d), .int .u32 (tI e), .int .u32 (tI f), .int .u32 (tI g), .int .u32 (tI h)], .int .u32 (tI k)] w fun e' w' => e' = .returned (.agg (u32s (trn [a, b, c, d, e, f, g, h] k)).toArray) ∧ Below w.heap.size w w' := by
  have hx := w_xor
  have ha := w_and
  have hp := w_add
  have hm := w_mod
  have hn := w_not
  go_enter Tryd.func33, Tryd.ntmps33
  go_wp2
  go_quiet (fail)
  go_wp2
  go_quiet ((go_at_call 34; first | exact Calls.quiet_of_same (right_t _ _ _ (by omega) (by omega)) | exact quiet_twice (right_t _ _ _ (by omega) (by omega))))
  go_wp2_with (go_at_call 34; refine (right_t _ _ _ (by omega) (by omega)).mono ?_; rintro e w1 ⟨rfl, rfl⟩)
  refine bodyPost_ret (v := .agg (u32s (trn [a, b, c, d, e, f, g, h] k)).toArray) (by simp [results, Tryd.results33, go_sem, u32s, trn, bs1, bs0, ch, maj]) rfl ⟨rfl, ?_⟩
  repeat' refine Below.setCell ?_ (by simp) _
  exact (((Below.refl _ _).alloc (Nat.le_refl _) _).alloc (by simp) _).drewN _

end Go.Proofs.YtmphjmbnfaimiaaDoor
