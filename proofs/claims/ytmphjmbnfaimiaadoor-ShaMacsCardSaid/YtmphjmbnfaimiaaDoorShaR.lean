/- Contracts of sha's Equal and Mac. -/
import Derived.Test.YtmphjmbnfaimiaaDoorShaL
namespace Go.Proofs.YtmphjmbnfaimiaaDoor
open Go.RowKit ShaMath

/-- What the first k bytes of two digests leave unlike. -/
def accU (A B : List UInt8) : Nat → UInt8
  | 0 => 0
  | k + 1 => accU A B k ||| (A.getD k 0 ^^^ B.getD k 0)
theorem accU_zero (A B : List UInt8) (k : Nat) : accU A B k = 0 ↔ ∀ j, j < k → A.getD j 0 = B.getD j 0 := by
  induction k with
  | zero => exact ⟨fun _ j hj => absurd hj (by omega), fun _ => rfl⟩
  | succ k ih =>
    rw [accU, UInt8.or_eq_zero_iff, ih, UInt8.xor_eq_zero_iff]
    constructor
    · rintro ⟨h1, h2⟩ j hj
      by_cases e : j = k
      · rw [e]; exact h2
      · exact h1 j (by omega)
    · intro h
      exact ⟨fun j hj => h j (by omega), h k (by omega)⟩
theorem accU_eq (A B : List UInt8) (hA : A.length = 32) (hB : B.length = 32) : accU A B 32 = 0 ↔ A = B := by
  rw [accU_zero]
  constructor
  · intro h
    apply List.ext_getElem (by omega)
    intro i h1 h2
    have := h i (by omega)
    rwa [List.getD_eq_getElem?_getD, List.getD_eq_getElem?_getD, List.getElem?_eq_getElem h1, List.getElem?_eq_getElem h2] at this
  · rintro rfl j _; rfl

set_option maxHeartbeats 1000000 in
theorem equal_any (A B : List UInt8) (w : World) (hA : A.length = 32) (hB : B.length = 32) :
    Calls Tryd.prog 18 #[.agg (bytes A).toArray, .agg (bytes B).toArray] w fun e w' => e = .returned (.bool (decide (A = B))) ∧ Below w.heap.size w w' := by
  have HE : Hid ((((accU A B 32).toNat : Int) == 0) = decide (A = B)) := Lib.hid (by
    rw [Bool.eq_iff_iff, decide_eq_true_eq, ← accU_eq A B hA hB, beq_iff_eq]
    constructor
    · intro h
      apply UInt8.toNat_inj.1
      show _ = 0
      omega
    · intro h; rw [h]; rfl)
  have LA := Lib.hid hA
  have LB := Lib.hid hB
  clear hA hB
  go_enter Tryd.func18, Tryd.ntmps18
  go_wp2_with (first
    | ((with_reducible refine wpBoxK (w := w) (bytes A) 31 ?_ ?_); rfl; intro u0 r0 b0 s0; have R0 := Lib.hid r0; have B0 := Lib.hid b0; clear r0 b0 s0)
    | ((with_reducible refine wpBoxK (w := u0) (bytes B) 31 ?_ ?_); rfl; intro u1 r1 b1 s1; have R1 := Lib.hid r1; have B1 : Hid (Below w.heap.size w u1) := Lib.hid (B0.out.next b1); have Q1 := Lib.hid (R0.out.step b1); clear r1 b1 s1))
  obtain ⟨M, hM⟩ : ∃ M, M = u0.heap.size := ⟨_, rfl⟩
  rw [← hM] at R1 ⊢
  clear hM R0 B0
  go_loopw [7, 5] (fun i t wr => ∃ k : Nat, k ≤ 32 ∧ i = .int .i64 k ∧ t = .int .u8 ((accU A B k).toNat : Int) ∧ Row wr w.heap.size 31 (bytes A) ∧ Row wr M 31 (bytes B) ∧ Below w.heap.size w wr) (fun i _ _ => 32 - (intOf i).toNat)
  case atStart => exact ⟨0, by omega, by kernel_rfl, rfl, Q1.out, R1.out, B1.out⟩
  case round =>
    clear Q1 R1 B1
    obtain ⟨k, hk, rfl, rfl, hp, hq, hbw⟩ := hrel
    by_cases hlt : k < 32
    · have hkA : k < A.length := by rw [LA.out]; exact hlt
      have hkB : k < B.length := by rw [LB.out]; exact hlt
      obtain ⟨x, hx⟩ : ∃ x, A[k] = x := ⟨_, rfl⟩
      obtain ⟨y, hy⟩ : ∃ y, B[k] = y := ⟨_, rfl⟩
      have hst : accU A B (k + 1) = accU A B k ||| (x ^^^ y) := by
        rw [accU, List.getD_eq_getElem?_getD, List.getD_eq_getElem?_getD, List.getElem?_eq_getElem hkA, List.getElem?_eq_getElem hkB, hx, hy]
        rfl
      obtain ⟨t, ht⟩ : ∃ t, accU A B k = t := ⟨_, rfl⟩
      rw [ht] at hst ⊢
      have HST := Lib.hid hst
      have c1 : wr.cell? ⟨w.heap.size, k, none⟩ = some (.int .u8 (x.toNat : Int)) := by rw [hp.cell, bytes_get _ _ hkA, hx]
      have c2 : wr.cell? ⟨M, k, none⟩ = some (.int .u8 (y.toNat : Int)) := by rw [hq.cell, bytes_get _ _ hkB, hy]
      have hxo := xor_u8 x y
      have hor : bits .or .u8 (t.toNat : Int) ((x ^^^ y).toNat : Int) = ((t ||| (x ^^^ y)).toNat : Int) := by
        have h1 := t.toNat_lt
        have h2 := (x ^^^ y).toNat_lt
        rw [u8_or_nat _ _ (by omega) (by omega), UInt8.toNat_or]
      obtain ⟨z, hz⟩ : ∃ z, x ^^^ y = z := ⟨_, rfl⟩
      rw [hz] at hxo hor
      have HZ := Lib.hid hz
      have HP := Lib.hid hp
      have HQ := Lib.hid hq
      have HB := Lib.hid hbw
      have hk1 : (k : Int) < 32 := by omega
      clear hp hq hbw hst ht hx hy hkA hkB hz
      go_wp2
      go_quiet (fail)
      go_wp2
      go_roundw
      case rel => exact ⟨k + 1, by omega, by go_num, by rw [HST.out, HZ.out, UInt8.toNat_or], HP.out.drewN _, HQ.out.drewN _, HB.out.drewN _⟩
      case measure => simp [intOf]; omega
    · have ek : k = 32 := by omega
      have HE2 : Hid ((((accU A B k).toNat : Int) == 0) = decide (A = B)) := Lib.hid (by rw [ek]; exact HE.out)
      obtain ⟨t, ht⟩ : ∃ t, accU A B k = t := ⟨_, rfl⟩
      rw [ht] at HE2 ⊢
      have HB := Lib.hid hbw
      clear hp hq hbw ek ht HE
      go_wp2
      go_ret
      exact ⟨ret_bool HE2.out, HB.out⟩

end Go.Proofs.YtmphjmbnfaimiaaDoor
