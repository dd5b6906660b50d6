/- Contracts of the document's Exp and Inv. -/
import Derived.Test.YtpoojlealcheaaaB3
namespace Go.Proofs.Ytpoojlealcheaaa
open Go.RowKit GfMath

theorem rexp_any (n : Nat) (w : World) (hn : n < 255) :
    Calls Try.prog 61 #[.int .i64 (n : Int)] w fun e w' => e = .returned (.int .i64 (ex n : Int)) ∧ w = w' := by
  have ht : (n : Int).tmod 255 = n := by rw [show (n : Int).tmod 255 = ((n % 255 : Nat) : Int) from rfl, Nat.mod_eq_of_lt hn]
  go_enter Try.func61, Try.ntmps61
  go_wp2
  go_loop [3, 4] (fun p i => ∃ k : Nat, k ≤ n ∧ i = .int .i64 k ∧ p = .int .i64 (ex k : Int)) (fun _ i => n - (intOf i).toNat)
  case atStart => exact ⟨0, Nat.zero_le _, rfl, rfl⟩
  case round =>
    obtain ⟨k, hk, rfl, rfl⟩ := hrel
    by_cases hlt : k < n
    · have hk1 : (k : Int) < n := by omega
      have hx := ex_lt k
      have hst : gm (ex k) 2 = ex (k + 1) := by rw [(gm_two_all _ hx).1]; rfl
      have HM : Hid (∀ u, Calls Try.prog 63 #[.int .i64 (ex k : Int), .int .i64 2] u fun e w' => e = .returned (.int .i64 (ex (k + 1) : Int)) ∧ u = w') := Lib.hid fun u => by rw [← hst]; exact rmul_any (ex k) 2 u hx
      clear hst hx
      go_wp2_with (go_at_call 63; refine (HM.out _).mono ?_; rintro e w1 ⟨rfl, rfl⟩)
      go_round
      case rel => exact ⟨k + 1, by omega, by go_num, rfl⟩
      case measure => simp [intOf]; omega
    · have ek : k = n := by omega
      subst ek
      go_wp2
      go_ret
      exact ⟨rfl, rfl⟩

set_option maxRecDepth 100000 in
theorem rinv_any (a : Nat) (w : World) (ha : a < 256) :
    Calls Try.prog 62 #[.int .i64 (a : Int)] w fun e w' => e = .returned (.int .i64 (iv a : Int)) ∧ w = w' := by
  go_enter Try.func62, Try.ntmps62
  go_wp2
  go_loop [3] (fun i => ∃ k : Nat, k ≤ 256 ∧ i = .int .i64 k ∧ ∀ j, j < k → gm a j ≠ 1) (fun i => 256 - (intOf i).toNat)
  case atStart => exact ⟨0, Nat.zero_le _, rfl, fun j hj => absurd hj (by omega)⟩
  case round =>
    obtain ⟨k, hk, rfl, hno⟩ := hrel
    have HN := Lib.hid hno
    clear hno
    by_cases hlt : k < 256
    · have hk1 : (k : Int) < 256 := by omega
      have hk0 : 0 ≤ (k : Int) := by omega
      by_cases h1 : gm a k = 1
      · have hv := iv_unique ha hlt h1
        have HM : Hid (∀ u, Calls Try.prog 63 #[.int .i64 (a : Int), .int .i64 (k : Int)] u fun e w' => e = .returned (.int .i64 1) ∧ u = w') := Lib.hid fun u => by have := rmul_any a k u ha; rw [h1] at this; exact this
        have HV := Lib.hid hv
        clear h1 hv
        go_wp2_with (go_at_call 63; refine (HM.out _).mono ?_; rintro e w1 ⟨rfl, rfl⟩)
        go_ret
        exact ⟨by rw [← HV.out]; rfl, rfl⟩
      · have HM := Lib.hid (rmul_any a k · ha)
        have HH : Hid (∀ j, j = k → gm a j ≠ 1) := Lib.hid fun j e => by rw [e]; exact h1
        have hne : ¬ (gm a k : Int) = 1 := by omega
        generalize gm a k = y at hne HM
        clear h1
        go_wp2_with (go_at_call 63; refine (HM.out _).mono ?_; rintro e w1 ⟨rfl, rfl⟩)
        go_round
        case rel => exact ⟨k + 1, by omega, by go_num, fun j hj => by
          by_cases e : j = k
          · exact HH.out j e
          · exact HN.out j (by omega)⟩
        case measure => simp [intOf]; omega
    · have ek : k = 256 := by omega
      have h0 : a = 0 := Classical.byContradiction fun h => HN.out (iv a) (by rw [ek]; exact iv_lt a) (gm_iv ha h)
      have hv : iv a = 0 := by rw [iv, if_pos h0]
      have HV := Lib.hid hv
      subst ek
      clear h0 hv
      go_wp2
      go_ret
      exact ⟨by rw [HV.out]; rfl, rfl⟩

end Go.Proofs.Ytpoojlealcheaaa
