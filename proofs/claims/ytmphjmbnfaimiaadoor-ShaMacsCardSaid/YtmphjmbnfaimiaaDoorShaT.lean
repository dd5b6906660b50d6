/- Contract of the document's bytes. -/
import Derived.Test.YtmphjmbnfaimiaaDoorShaL
namespace Go.Proofs.YtmphjmbnfaimiaaDoor
open Go.RowKit ShaMath

set_option maxHeartbeats 1000000 in
theorem refBytes_any (A : List UInt8) (w : World) (hA : A.length = 32) :
    Calls Tryd.prog 27 #[.agg (bytes A).toArray] w fun e w' => e = .returned (.string (str A)) ∧ Below w.heap.size w w' := by
  have LA := Lib.hid hA
  clear hA
  go_enter Tryd.func27, Tryd.ntmps27
  go_wp2_with (first
    | ((with_reducible refine wpBoxK (w := w) (bytes A) 31 ?_ ?_); rfl; intro u0 r0 b0 s0; have R0 := Lib.hid r0; have B0 := Lib.hid b0; have S0 := Lib.hid s0; clear r0 b0 s0))
  have hown0 : (u0.alloc (.cells #[] 5)).ownsRow u0.heap.size 5 1 (.slice (some ⟨u0.heap.size, 0, none⟩) 0 0) 0 (bytes (A.take 0)) := by
    have h1 : Row (u0.alloc (.cells #[] 5)) u0.heap.size 5 ([] ++ []) := Row.new u0 _ []
    have := h1.owns (base := u0.heap.size) (n := 0) (cap := 0) (Nat.le_refl _) rfl rfl (by omega) (by unfold maxLen; omega)
    simpa [bytes] using this
  have hr1 := R0.out.step (alloc_below u0 (.cells #[] 5))
  have hb1 := B0.out.next (alloc_below u0 (.cells #[] 5))
  have hz1 : u0.heap.size ≤ (u0.alloc (.cells #[] 5)).heap.size := (alloc_below u0 (.cells #[] 5)).size
  have HOWN := Lib.hid hown0
  have HR := Lib.hid hr1
  have HB := Lib.hid hb1
  have HZ := Lib.hid hz1
  obtain ⟨M, hM⟩ : ∃ M, M = u0.heap.size := ⟨_, rfl⟩
  have hMw : w.heap.size < M := by have := S0.out; omega
  clear hown0 hr1 hb1 hz1 R0 B0 S0
  go_loopw [4, 3] (fun i v wr => ∃ k : Nat, k ≤ 32 ∧ i = .int .i64 k ∧ wr.ownsRow M 5 1 v k (bytes (A.take k)) ∧ Row wr w.heap.size 31 (bytes A) ∧ M ≤ wr.heap.size ∧ Below w.heap.size w wr) (fun i _ _ => 32 - (intOf i).toNat)
  case atStart => exact ⟨0, by omega, rfl, by rw [hM]; exact HOWN.out, HR.out, by rw [hM]; exact HZ.out, HB.out⟩
  case round =>
    clear HOWN HR HB HZ hM
    obtain ⟨k, hk, rfl, hown, hr, hmw, hbw⟩ := hrel
    by_cases hlt : k < 32
    · have hkA : k < A.length := by rw [LA.out]; exact hlt
      obtain ⟨b, hb⟩ : ∃ b, A[k] = b := ⟨_, rfl⟩
      have hcell : wr.cell? ⟨w.heap.size, k, none⟩ = some (.int .u8 (b.toNat : Int)) := by rw [hr.cell, bytes_get _ _ hkA, hb]
      have HT : Hid (bytes (A.take (k + 1)) = bytes (A.take k) ++ [.int .u8 (b.toNat : Int)]) := Lib.hid (by rw [List.take_succ_eq_append_getElem hkA, hb, bytes_append]; rfl)
      have HOWN := Lib.hid (hown.alloc (.cells #[.int .u8 (b.toNat : Int)] 5))
      have HL : Hid (Lies (wr.alloc (.cells #[.int .u8 (b.toNat : Int)] 5)) (wr.alloc (.cells #[.int .u8 (b.toNat : Int)] 5)).heap.size (some ⟨wr.heap.size, 0, none⟩) [.int .u8 (b.toNat : Int)]) := Lib.hid (Lies.new [_] _ _)
      have HBW := Lib.hid (hbw.alloc hbw.size (.cells #[.int .u8 (b.toNat : Int)] 5))
      have HR := Lib.hid (hr.alloc (.cells #[.int .u8 (b.toNat : Int)] 5))
      have HZZ : Hid (M ≤ (wr.alloc (.cells #[.int .u8 (b.toNat : Int)] 5)).heap.size) := Lib.hid (by simp; omega)
      have HO1 : Hid ((Value.int .u8 (b.toNat : Int)).oneCell' = true) := Lib.hid rfl
      have HPK : Big (k + 1 ≤ 1099511627776) := ⟨by omega⟩
      have HOL : Hid (∀ j, u3.ownBlock = some j → M ≤ j) := Lib.hid fun j hj => (hown.lt j hj).1
      have hk1 : (k : Int) < 32 := by omega
      clear hown hr hmw hbw hb hkA
      go_wp2_with (first
        | ((with_reducible refine wpAppend1K HOWN.out Tryd.underlying47 sha_one_byte HL.out HO1.out HPK HZZ.out ?_ ?_); rfl; intro v1 w1 g1 g2 g3; have HV1 := Lib.hid g1; have HG1 := Lib.hid g2; clear g1 g2 g3))
      go_roundw
      case rel =>
        have hb1 := HBW.out.grown HG1.out HBW.out.size (fun j hj => by have := HOL.out j hj; omega)
        refine ⟨k + 1, by omega, by go_num, by rw [HT.out]; exact HV1.out, (HG1.out.block w.heap.size HR.out.lt (fun e => by have := HOL.out _ e.symm; omega)).trans HR.out, Nat.le_trans HZZ.out HG1.out.size, hb1⟩
      case measure => simp [intOf]; omega
    · have ek : k = 32 := by omega
      rw [ek, List.take_of_length_le (by rw [LA.out]; omega)] at hown
      have hconv := own_string hown
      have HB := Lib.hid hbw
      clear hown hr hmw hbw ek
      go_wp2
      go_ret
      exact ⟨rfl, HB.out⟩

end Go.Proofs.YtmphjmbnfaimiaaDoor
