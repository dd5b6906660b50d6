/- Contracts of Pow, of a field that isn't there, of the document's answers. -/
import Derived.Test.YtpkjannlndnfdaaGfB
namespace Go.Proofs.Ytpkjannlndnfdaa
open Go.RowKit GfMath

theorem pow_bd (y : Nat) (n : Int) (hy : y < 255) : -64770 ≤ (y : Int) * n.tmod 255 ∧ (y : Int) * n.tmod 255 ≤ 64770 := by
  obtain ⟨h1, h2, _⟩ := tmod_bd n
  generalize n.tmod 255 = r at *
  have hy2 : (y : Int) ≤ 254 := by omega
  constructor
  · have := Int.mul_le_mul_of_nonneg_left (show -255 ≤ r by omega) (show (0 : Int) ≤ y by omega)
    omega
  · have := Int.mul_le_mul_of_nonneg_left (show r ≤ 255 by omega) (show (0 : Int) ≤ y by omega)
    omega

/-! A field that isn't there. -/
theorem nil_mul (v : Value) (w : World) : Calls Try.prog 24 #[.pointer none, v] w fun e w' => e = .returned (.int .u8 0) ∧ w = w' := by
  go_enter Try.func24, Try.ntmps24
  go_wp2
  go_ret
  exact ⟨rfl, rfl⟩
theorem nil_add (v : Value) (w : World) : Calls Try.prog 18 #[.pointer none, v] w fun e w' => e = .returned (.int .u8 0) ∧ w = w' := by
  go_enter Try.func18, Try.ntmps18
  go_wp2
  go_ret
  exact ⟨rfl, rfl⟩
theorem nil_exp (n : Int) (w : World) : Calls Try.prog 33 #[.pointer none, .int .i64 n] w fun e w' => e = .returned (.int .u8 0) ∧ w = w' := by
  go_enter Try.func33, Try.ntmps33
  go_wp2
  go_ret
  exact ⟨rfl, rfl⟩
theorem nil_log (x : Int) (w : World) : Calls Try.prog 32 #[.pointer none, .int .u8 x] w fun e w' => e = .returned (.tuple #[.int .i64 0, .bool false]) ∧ w = w' := by
  go_enter Try.func32, Try.ntmps32
  go_wp2
  go_ret2
  exact ⟨rfl, rfl⟩
theorem nil_inv (x : Int) (w : World) : Calls Try.prog 27 #[.pointer none, .int .u8 x] w fun e w' => e = .returned (.tuple #[.int .u8 0, .bool false]) ∧ w = w' := by
  go_enter Try.func27, Try.ntmps27
  go_wp2_with (go_at_call 32; refine (nil_log _ _).mono ?_; rintro e w1 ⟨rfl, rfl⟩)
  go_ret2
  exact ⟨rfl, rfl⟩
theorem nil_div (x y : Int) (w : World) : Calls Try.prog 17 #[.pointer none, .int .u8 x, .int .u8 y] w fun e w' => e = .returned (.tuple #[.int .u8 0, .bool false]) ∧ w = w' := by
  go_enter Try.func17, Try.ntmps17
  go_wp2_with (go_at_call 27; refine (nil_inv _ _).mono ?_; rintro e w1 ⟨rfl, rfl⟩)
  go_ret2
  exact ⟨rfl, rfl⟩

/-! The document's answers. -/
theorem bit_test (b k : Nat) : (((b : Int) / 2 ^ k).tmod 2 == 1) = decide (b >>> k % 2 = 1) := by
  have e : (b : Int) / 2 ^ k = ((b >>> k : Nat) : Int) := by rw [Nat.shiftRight_eq_div_pow]; simp
  rw [e]
  have e2 : ((b >>> k : Nat) : Int).tmod 2 = ((b >>> k % 2 : Nat) : Int) := rfl
  rw [e2]
  by_cases h : b >>> k % 2 = 1
  · rw [h]; rfl
  · rw [decide_eq_false h]
    generalize b >>> k % 2 = r at *
    rw [beq_eq_false_iff_ne]
    omega
theorem shl_val (a k : Nat) (h : a <<< k < 9223372036854775808) : wrap64 ((a : Int) * 2 ^ k) = ((a <<< k : Nat) : Int) := by
  have e : (a : Int) * 2 ^ k = ((a <<< k : Nat) : Int) := by rw [Nat.shiftLeft_eq]; simp
  rw [e]
  generalize a <<< k = x at *
  exact IntWalk.wrap64_in _ (by omega)
theorem shl_16 {a : Nat} (ha : a < 256) {k : Nat} (hk : k < 8) : a <<< k < 65536 := by
  rw [Nat.shiftLeft_eq]
  exact Nat.lt_of_lt_of_le ((Nat.mul_lt_mul_right (Nat.two_pow_pos k)).2 ha) (show 256 * 2 ^ k ≤ 256 * 2 ^ 8 from Nat.mul_le_mul_left _ (Nat.pow_le_pow_right (by omega) (by omega)))

theorem rmul_any (a b : Nat) (w : World) (ha : a < 256) :
    Calls Try.prog 15 #[.int .i64 (a : Int), .int .i64 (b : Int)] w fun e w' => e = .returned (.int .i64 (gm a b : Int)) ∧ w = w' := by
  go_enter Try.func15, Try.ntmps15
  go_wp2
  go_loop [5, 6] (fun p i => ∃ k : Nat, k ≤ 8 ∧ i = .int .i64 k ∧ p = .int .i64 (cl a b k : Int)) (fun _ i => 8 - (intOf i).toNat)
  case atStart => exact ⟨0, Nat.zero_le _, rfl, rfl⟩
  case round =>
    obtain ⟨k, hk, rfl, rfl⟩ := hrel
    by_cases hlt : k < 8
    · have hk1 : (k : Int) < 8 := by omega
      have hk0 : 0 ≤ (k : Int) := by omega
      have hs := cl_16 ha b k hk
      have ht := bit_test b k
      have hv := shl_val a k (by have := shl_16 ha hlt; omega)
      have hx := xor_i64 (cl a b k) (a <<< k) (by omega) (by have := shl_16 ha hlt; omega)
      have hst : cl a b (k + 1) = if b >>> k % 2 = 1 then cl a b k ^^^ (a <<< k) else cl a b k := rfl
      obtain ⟨p, hp⟩ : ∃ p, cl a b k = p := ⟨_, rfl⟩
      rw [hp] at hx hst ⊢
      rw [← hv] at hx
      obtain ⟨s, hs2⟩ : ∃ s, wrap64 ((a : Int) * 2 ^ k) = s := ⟨_, rfl⟩
      by_cases hb : b >>> k % 2 = 1
      · rw [if_pos hb] at hst
        rw [decide_eq_true hb] at ht
        rw [← hst] at hx
        have HS := Lib.hid hx
        clear hx hst hv hb hp hs2
        go_wp2
        go_round
        case rel => exact ⟨k + 1, by omega, by go_num, by rw [HS.out]⟩
        case measure => simp [intOf]; omega
      · rw [if_neg hb] at hst
        rw [decide_eq_false hb] at ht
        have HS := Lib.hid hst
        clear hx hst hv hb hp hs2
        go_wp2
        go_round
        case rel => exact ⟨k + 1, by omega, by go_num, by rw [HS.out]⟩
        case measure => simp [intOf]; omega
    · have ek : k = 8 := by omega
      have hs := cl_16 ha b 8 (by omega)
      have hg : gm a b = rd (cl a b 8) 7 := rfl
      obtain ⟨p0, hp0⟩ : ∃ p0, cl a b 8 = p0 := ⟨_, rfl⟩
      rw [hp0] at hs hg
      rw [ek, hp0]
      have HG := Lib.hid hg
      clear ek hlt hk hg hp0
      go_wp2
      go_loop [5, 7] (fun p i => ∃ k j : Nat, k ≤ 7 ∧ j + k = 14 ∧ i = .int .i64 j ∧ p = .int .i64 (rd p0 k : Int)) (fun _ i => (intOf i).toNat)
      case atStart => exact ⟨0, 14, by omega, rfl, rfl, rfl⟩
      case round =>
        obtain ⟨k, j, hk, hj, rfl, rfl⟩ := hrel
        have hr := rd_16 hs k hk
        by_cases hlt : k < 7
        · have hj1 : (8 : Int) ≤ j := by omega
          have hj8 : 0 ≤ (j : Int) - 8 := by omega
          have hj2 : (j : Int) ≤ 14 := by omega
          have ht := bit_test (rd p0 k) j
          have hv := shl_val 285 (j - 8) (by have := m_16 k hlt; rw [show 6 - k = j - 8 by omega] at this; omega)
          have hx := xor_i64 (rd p0 k) (285 <<< (j - 8)) (by omega) (by have := m_16 k hlt; rw [show 6 - k = j - 8 by omega] at this; omega)
          have hst : rd p0 (k + 1) = if rd p0 k >>> (14 - k) % 2 = 1 then rd p0 k ^^^ (285 <<< (6 - k)) else rd p0 k := rfl
          rw [show 14 - k = j by omega, show 6 - k = j - 8 by omega] at hst
          have hjn : ((j : Int) - 8).toNat = j - 8 := by omega
          have hjn2 : IntKind.u64.wrap ((j : Int) - 8) = (j : Int) - 8 := by rw [IntKind.wrap_u64]; omega
          obtain ⟨p, hp⟩ : ∃ p, rd p0 k = p := ⟨_, rfl⟩
          rw [hp] at hx hst hr ht ⊢
          rw [← hv] at hx
          by_cases hb : p >>> j % 2 = 1
          · rw [if_pos hb] at hst
            rw [decide_eq_true hb] at ht
            rw [← hst] at hx
            have HS := Lib.hid hx
            clear hx hst hv hb hp
            go_wp2
            go_round
            case rel => exact ⟨k + 1, j - 1, by omega, by omega, by go_num, congrArg (Value.int .i64) HS.out⟩
            case measure => simp [intOf]; omega
          · rw [if_neg hb] at hst
            rw [decide_eq_false hb] at ht
            have HS := Lib.hid hst
            clear hx hst hv hb hp
            go_wp2
            go_round
            case rel => exact ⟨k + 1, j - 1, by omega, by omega, by go_num, by rw [HS.out]⟩
            case measure => simp [intOf]; omega
        · have ek : k = 7 := by omega
          have ej : j = 7 := by omega
          subst ek ej
          go_wp2
          go_ret
          exact ⟨by rw [HG.out]; rfl, rfl⟩

end Go.Proofs.Ytpkjannlndnfdaa
