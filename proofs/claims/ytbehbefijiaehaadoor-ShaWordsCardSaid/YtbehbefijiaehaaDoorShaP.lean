/- Contract of the document's Hex. -/
import Derived.Test.YtbehbefijiaehaaDoorShaO
namespace Go.Proofs.YtbehbefijiaehaaDoor
open Go.RowKit ShaMath

theorem digit_cut (q : Nat) (h : q < 16) : ({ data := #[48, 49, 50, 51, 52, 53, 54, 55, 56, 57, 97, 98, 99, 100, 101, 102] } : ByteArray).extract q (q + 1) = str [digs.getD q 0] := by
  apply ByteArray.ext
  match q, h with
  | 0, _ | 1, _ | 2, _ | 3, _ | 4, _ | 5, _ | 6, _ | 7, _ | 8, _ | 9, _ | 10, _ | 11, _ | 12, _ | 13, _ | 14, _ | 15, _ => rfl
  | n + 16, h => exact absurd h (by omega)

set_option maxHeartbeats 1000000 in
theorem refHex_any (A : List UInt8) (w : World) (hA : A.length = 32) :
    Calls Tryd.prog 21 #[.agg (bytes A).toArray] w fun e w' => e = .returned (.string (str (hexB A))) ∧ Below w.heap.size w w' := by
  have LA := Lib.hid hA
  clear hA
  go_enter Tryd.func21, Tryd.ntmps21
  go_wp2_with (first
    | ((with_reducible refine wpBoxK (bytes A) 31 ?_ ?_); rfl; intro u0 r0 b0 s0; have R0 := Lib.hid r0; have B0 := Lib.hid b0; clear r0 b0 s0))
  go_loopw [5, 4] (fun i t wr => ∃ k : Nat, k ≤ 32 ∧ i = .int .i64 k ∧ t = .string (str (hexB (A.take k))) ∧ Row wr w.heap.size 31 (bytes A) ∧ Below w.heap.size w wr) (fun i _ _ => 32 - (intOf i).toNat)
  case atStart => exact ⟨0, by omega, rfl, rfl, R0.out, B0.out⟩
  case round =>
    clear R0 B0
    obtain ⟨k, hk, rfl, rfl, hr, hbw⟩ := hrel
    by_cases hlt : k < 32
    · have hkA : k < A.length := by rw [LA.out]; exact hlt
      obtain ⟨c, hc⟩ : ∃ c, A[k] = c := ⟨_, rfl⟩
      have hc8 := c.toNat_lt
      obtain ⟨q1, hq1⟩ : ∃ q, c.toNat / 16 = q := ⟨_, rfl⟩
      obtain ⟨q2, hq2⟩ : ∃ q, c.toNat % 16 = q := ⟨_, rfl⟩
      have hl1 : q1 < 16 := by omega
      have hl2 : q2 < 16 := by omega
      have hcell : wr.cell? ⟨w.heap.size, k, none⟩ = some (.int .u8 (c.toNat : Int)) := by rw [hr.cell, bytes_get _ _ hkA, hc]
      have hz : (str (hexB (A.take k))).size ≤ 64 := by rw [str_size, hexB_length, List.length_take]; omega
      have HT : Hid (str (hexB (A.take (k + 1))) = str (hexB (A.take k)) ++ str [digs.getD q1 0] ++ str [digs.getD q2 0]) := Lib.hid (by
        rw [List.take_succ_eq_append_getElem hkA, hc, hexB_snoc, hq1, hq2, str_append, str_append, List.append_assoc]
        rfl)
      obtain ⟨T, hT⟩ : ∃ T, T = str (hexB (A.take k)) := ⟨_, rfl⟩
      obtain ⟨d1, hd1⟩ : ∃ d, d = str [digs.getD q1 0] := ⟨_, rfl⟩
      obtain ⟨d2, hd2⟩ : ∃ d, d = str [digs.getD q2 0] := ⟨_, rfl⟩
      have c1 := digit_cut q1 hl1
      have c2 := digit_cut q2 hl2
      rw [← hd1] at c1 HT
      rw [← hd2] at c2 HT
      rw [← hT] at hz HT ⊢
      have s1 : d1.size ≤ 1 := by rw [hd1, str_size]; simp
      have s2 : d2.size ≤ 1 := by rw [hd2, str_size]; simp
      have s3 : (T ++ d1).size ≤ 65 := by rw [ByteArray.size_append]; omega
      have e1 : (c.toNat : Int) / (16 : Int) = (q1 : Int) := by omega
      have e2 : (c.toNat : Int) % (16 : Int) = (q2 : Int) := by omega
      have e1t : (c.toNat : Int).tdiv (16 : Int) = (q1 : Int) := by rw [Int.tdiv_eq_ediv_of_nonneg (by omega)]; exact e1
      have e2t : (c.toNat : Int).tmod (16 : Int) = (q2 : Int) := by rw [Int.tmod_eq_emod_of_nonneg (by omega)]; exact e2
      have w1 : IntKind.u8.wrap (q1 : Int) = (q1 : Int) := by rw [IntKind.wrap_u8']; omega
      have w2 : IntKind.u8.wrap (q2 : Int) = (q2 : Int) := by rw [IntKind.wrap_u8']; omega
      have w3 : IntKind.u8.wrap ((q1 : Int) + 1) = (q1 : Int) + 1 := by rw [IntKind.wrap_u8']; omega
      have w4 : IntKind.u8.wrap ((q2 : Int) + 1) = (q2 : Int) + 1 := by rw [IntKind.wrap_u8']; omega
      have b1 : (q1 : Int) < 16 := by omega
      have b2 : (q2 : Int) < 16 := by omega
      have b3 : (q1 : Int) + 1 ≤ 16 := by omega
      have b4 : (q2 : Int) + 1 ≤ 16 := by omega
      have p1 : 0 ≤ (q1 : Int) + 1 := by omega
      have p2 : 0 ≤ (q2 : Int) + 1 := by omega
      have p3 : (q1 : Int) ≤ (q1 : Int) + 1 := by omega
      have p4 : (q2 : Int) ≤ (q2 : Int) + 1 := by omega
      have t1 : ((q1 : Int) + 1).toNat = q1 + 1 := by omega
      have t2 : ((q2 : Int) + 1).toNat = q2 + 1 := by omega
      have hk1 : (k : Int) < 32 := by omega
      have HR := Lib.hid hr
      have HB := Lib.hid hbw
      clear hr hbw hc hkA hq1 hq2 hc8 hT hd1 hd2
      go_wp2
      go_quiet (fail)
      go_wp2
      go_roundw
      case rel => exact ⟨k + 1, by omega, by go_num, by rw [HT.out], HR.out.drewN _, HB.out.drewN _⟩
      case measure => simp [intOf]; omega
    · have HE : Hid (A.take k = A) := Lib.hid (List.take_of_length_le (by rw [LA.out]; omega))
      have HB := Lib.hid hbw
      clear hr hbw
      go_wp2
      go_ret
      exact ⟨ret_str (by rw [HE.out]), HB.out⟩

end Go.Proofs.YtbehbefijiaehaaDoor
