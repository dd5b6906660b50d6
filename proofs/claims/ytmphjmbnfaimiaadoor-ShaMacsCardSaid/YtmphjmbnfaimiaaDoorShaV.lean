/- Contract of the document's root, of fits' contract. -/
import Derived.Test.YtmphjmbnfaimiaaDoorShaU
namespace Go.Proofs.YtmphjmbnfaimiaaDoor
open Go.RowKit ShaMath

set_option maxHeartbeats 1000000 in
theorem root_any (p : Nat) (two : Bool) (w : World) (HF : Hid (∀ (u : World) (y : Nat), y ≤ 2 ^ 36 → Calls Tryd.prog 28 #[.int .i64 (y : Int), .int .i64 (p : Int), .bool two] u fun e u' => e = .returned (.bool (fitN two p y)) ∧ Below u.heap.size u u')) :
    Calls Tryd.prog 21 #[.int .i64 (p : Int), .bool two] w fun e w' => e = .returned (.int .i64 (rootN two p : Int)) ∧ Below w.heap.size w w' := by
  go_enter Tryd.func21, Tryd.ntmps21
  go_wp2
  go_loopw [6, 5] (fun b x wr => ∃ k X : Nat, k ≤ 36 ∧ b = .int .i64 ((k : Int) - 1) ∧ x = .int .i64 (X : Int) ∧ Big (X + 2 ^ k ≤ 2 ^ 36) ∧ bitsN two p k X = bitsN two p 36 0 ∧ Below w.heap.size w wr) (fun b _ _ => (intOf b + 1).toNat)
  case atStart => exact ⟨36, 0, by omega, rfl, rfl, ⟨by omega⟩, rfl, Below.refl _ _⟩
  case round =>
    obtain ⟨k, X, hk, rfl, rfl, hX, hbits, hbw⟩ := hrel
    have HBI := Lib.hid hbits
    have HBW := Lib.hid hbw
    clear hbits hbw
    by_cases h0 : 0 < k
    · obtain ⟨j, rfl⟩ : ∃ j, k = j + 1 := ⟨k - 1, by omega⟩
      obtain ⟨P, hP⟩ : ∃ P, 2 ^ j = P := ⟨_, rfl⟩
      obtain ⟨Y, hY⟩ : ∃ Y, X + P = Y := ⟨_, rfl⟩
      have hx := hX.out
      rw [Nat.pow_succ, hP] at hx
      have HXN : Big (X + 2 ^ j ≤ 2 ^ 36) := ⟨by rw [hP]; omega⟩
      have HYN : Big (Y + 2 ^ j ≤ 2 ^ 36) := ⟨by rw [hP]; omega⟩
      have HY36 : Big (Y ≤ 2 ^ 36) := ⟨by omega⟩
      have HB2 : Hid (bitsN two p j (if fitN two p Y = true then Y else X) = bitsN two p 36 0) := Lib.hid (by
        have := HBI.out
        rw [bitsN, hP, hY] at this
        exact this)
      have e0 : ((j + 1 : Nat) : Int) - 1 = (j : Int) := by omega
      have e1 : (2 : Int) ^ j = (P : Int) := by rw [← hP]; simp
      have e2 : (X : Int) + (P : Int) = (Y : Int) := by omega
      have w1 : IntKind.i64.wrap (P : Int) = (P : Int) := IntWalk.i64_in _ (by omega)
      have w2 : IntKind.i64.wrap (Y : Int) = (Y : Int) := IntWalk.i64_in _ (by omega)
      have hj : (j : Int) ≤ 35 := by omega
      have HFY : Hid (∀ u : World, Calls Tryd.prog 28 #[.int .i64 (Y : Int), .int .i64 (p : Int), .bool two] u fun e u' => e = .returned (.bool (fitN two p Y)) ∧ Below u.heap.size u u') := Lib.hid fun u => HF.out u Y HY36.out
      rw [e0]
      clear hP hY hx hX h0 e0
      by_cases hf : fitN two p Y = true
      · rw [hf] at HFY HB2
        clear hf
        go_wp2_with (go_at_call 28; (with_reducible refine (HFY.out _).mono ?_); rintro e u1 ⟨rfl, b1⟩; have B1 := Lib.hid b1; clear b1)
        go_roundw
        case rel => exact ⟨j, Y, by omega, rfl, rfl, HYN, HB2.out, HBW.out.next B1.out⟩
        case measure => simp [intOf]
      · have hf2 : fitN two p Y = false := by simpa using hf
        rw [hf2] at HFY HB2
        clear hf hf2
        go_wp2_with (go_at_call 28; (with_reducible refine (HFY.out _).mono ?_); rintro e u1 ⟨rfl, b1⟩; have B1 := Lib.hid b1; clear b1)
        go_roundw
        case rel => exact ⟨j, X, by omega, rfl, rfl, HXN, HB2.out, HBW.out.next B1.out⟩
        case measure => simp [intOf]
    · have ek : k = 0 := by omega
      have hres : ((X % 4294967296 : Nat) : Int) = (rootN two p : Int) := by
        have := HBI.out
        rw [ek, bitsN] at this
        rw [rootN, this]
      have HRES := Lib.hid hres
      have hkk : (k : Int) - 1 < 0 := by omega
      clear hX hres h0 ek
      go_wp2
      go_ret
      exact ⟨ret_int (by rw [← HRES.out]; simp), HBW.out⟩

end Go.Proofs.YtmphjmbnfaimiaaDoor
