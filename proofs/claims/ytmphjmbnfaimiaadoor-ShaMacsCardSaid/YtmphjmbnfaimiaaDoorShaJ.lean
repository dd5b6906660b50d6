/- Contract of sha's Hex. -/
import Derived.Test.YtmphjmbnfaimiaaDoorShaI
import Derived.Test.YtmphjmbnfaimiaaDoorEq
import Derived.Test.YtmphjmbnfaimiaaDoorInv
namespace Go.Proofs.YtmphjmbnfaimiaaDoor
open Go.RowKit ShaMath

theorem hexB_snoc (l : List UInt8) (c : UInt8) : hexB (l ++ [c]) = hexB l ++ [digs.getD (c.toNat / 16) 0, digs.getD (c.toNat % 16) 0] := by simp [hexB]
theorem agg_byte : ∀ w, (isAgg 5).run Tryd.prog w = .ok false w := fun w => by kernel_rfl
theorem size_byte : ∀ w, (sizeOf 5).run Tryd.prog w = .ok 1 w := fun w => by kernel_rfl

theorem digit (q : Nat) (h : q < 16) : ((({ data := #[48, 49, 50, 51, 52, 53, 54, 55, 56, 57, 97, 98, 99, 100, 101, 102] } : ByteArray)[q]'h).toNat : Int) = ((digs.getD q 0).toNat : Int) := by
  match q, h with
  | 0, _ | 1, _ | 2, _ | 3, _ | 4, _ | 5, _ | 6, _ | 7, _ | 8, _ | 9, _ | 10, _ | 11, _ | 12, _ | 13, _ | 14, _ | 15, _ => rfl
  | n + 16, h => exact absurd h (by omega)
theorem and15 (c : UInt8) : bits .and .u8 (c.toNat : Int) 15 = ((c.toNat % 16 : Nat) : Int) := by
  have h := c.toNat_lt
  rw [show (15 : Int) = ((15 : Nat) : Int) from rfl, u8_and_nat _ _ (by omega) (by omega), show (15 : Nat) = 2 ^ 4 - 1 from rfl, Nat.and_two_pow_sub_one_eq_mod]

set_option maxHeartbeats 1000000 in
theorem hex_any (A : List UInt8) (w : World) (hA : A.length = 32) :
    Calls Tryd.prog 19 #[.agg (bytes A).toArray] w fun e w' => e = .returned (.string (str (hexB A))) ∧ Below w.heap.size w w' := by
  have LA := Lib.hid hA
  have LB : Hid ((bytes A).length = 32) := Lib.hid (by rw [bytes_length, hA])
  clear hA
  go_enter Tryd.func19, Tryd.ntmps19
  go_wp2_with (first
    | ((with_reducible refine wpBoxK (bytes A) 31 ?_ ?_); rfl; intro u0 r0 b0 s0; have R0 := Lib.hid r0; have B0 := Lib.hid b0; clear r0 b0 s0)
    | ((with_reducible refine wpMakeK 47 5 (.int .u8 0) 0 64 Tryd.underlying47 byte_zero rfl (by omega) (by omega) ?_ ?_); rfl; intro u1 r1 b1 s1; have R1 := Lib.hid r1; have B1 : Hid (Below w.heap.size w u1) := Lib.hid (B0.out.next b1); have R2 := Lib.hid (R0.out.step b1); have Z1 : Hid (w.heap.size ≤ u0.heap.size) := Lib.hid B0.out.size; clear r1 b1 s1)
    | ((with_reducible refine R2.out.wpLoadK 31 fits_hash LB.out ?_ ?_); rfl))
  have hown0 : u1.ownsRow u0.heap.size 5 1 (.slice (some ⟨u0.heap.size, 0, none⟩) 0 64) (2 * 0) (bytes (hexB (A.take 0))) := by
    have h1 : Row u1 u0.heap.size 5 ([] ++ List.replicate 64 (.int .u8 0)) := R1.out
    have := h1.owns (base := u0.heap.size) (n := 0) (cap := 64) (Nat.le_refl _) rfl (by simp) (by omega) (by unfold maxLen; omega)
    simpa [bytes, hexB] using this
  have HOWN := Lib.hid hown0
  have HB := B1
  have ZB := Z1
  clear hown0 R0 B0 R1 R2
  obtain ⟨M, hM⟩ : ∃ M, M = u0.heap.size := ⟨_, rfl⟩
  have HM : Hid (M ≤ u1.heap.size) := Lib.hid (by
    rw [hM]
    obtain ⟨_, h⟩ := HOWN.out
    rcases h with ⟨h, _⟩ | ⟨g, cap, cur, h1, h2, h3, _⟩
    · cases h
    · have := (Array.getElem?_eq_some_iff.1 h3).1
      omega)
  rw [← hM] at HOWN ZB Z1 ⊢
  clear hM B1
  go_loopw [8, 3] (fun i v wr => ∃ k : Nat, k ≤ 32 ∧ i = .int .i64 k ∧ wr.ownsRow M 5 1 v (2 * k) (bytes (hexB (A.take k))) ∧ M ≤ wr.heap.size ∧ Below w.heap.size w wr) (fun i _ _ => 32 - (intOf i).toNat)
  case atStart => exact ⟨0, by omega, by kernel_rfl, HOWN.out, HM.out, HB.out⟩
  case round =>
    clear HOWN HB HM
    obtain ⟨k, hk, rfl, hown, hmw, hbw⟩ := hrel
    by_cases hlt : k < 32
    · have hkA : k < A.length := by rw [LA.out]; exact hlt
      obtain ⟨c, hc⟩ : ∃ c, A[k] = c := ⟨_, rfl⟩
      have hc8 := c.toNat_lt
      obtain ⟨q1, hq1⟩ : ∃ q, c.toNat / 16 = q := ⟨_, rfl⟩
      obtain ⟨q2, hq2⟩ : ∃ q, c.toNat % 16 = q := ⟨_, rfl⟩
      have hl1 : q1 < 16 := by omega
      have hl2 : q2 < 16 := by omega
      have hidx := run_index_array (P := Tryd.prog) 31 5 32 .i64 (bytes A).toArray k (.int .u8 (c.toNat : Int)) wr Tryd.underlying31 size_byte agg_byte hlt (by simp [bytes, hkA, hc])
      have d1 := digit q1 hl1
      have d2 := digit q2 hl2
      obtain ⟨g1, hg1⟩ : ∃ g, digs.getD q1 0 = g := ⟨_, rfl⟩
      obtain ⟨g2, hg2⟩ : ∃ g, digs.getD q2 0 = g := ⟨_, rfl⟩
      rw [hg1] at d1
      rw [hg2] at d2
      have ha := and15 c
      rw [hq2] at ha
      have HT : Hid (bytes (hexB (A.take (k + 1))) = bytes (hexB (A.take k)) ++ [.int .u8 (g1.toNat : Int), .int .u8 (g2.toNat : Int)]) := Lib.hid (by
        rw [List.take_succ_eq_append_getElem hkA, hc, hexB_snoc, hq1, hq2, hg1, hg2, bytes_append]
        rfl)
      have HOWN := Lib.hid hown
      have HBW := Lib.hid hbw
      have HMW := Lib.hid hmw
      have HO2 : Hid (([.int .u8 (g1.toNat : Int), .int .u8 (g2.toNat : Int)] : List Value).all (·.oneCell') = true) := Lib.hid rfl
      have HPK : Big (2 * k + 2 ≤ 1099511627776) := ⟨by omega⟩
      have HL2 : Hid (([.int .u8 (g1.toNat : Int), .int .u8 (g2.toNat : Int)] : List Value).length = 2) := Lib.hid rfl
      have HT0 : Hid (0 < 2) := Lib.hid (by omega)
      have e1 : (c.toNat : Int) / (16 : Int) = (q1 : Int) := by omega
      have b1 : (q1 : Int) < 16 := by omega
      have b2 : (q2 : Int) < 16 := by omega
      have hk1 : (k : Int) < 32 := by omega
      clear hown hmw hbw hc hkA hq1 hq2 hg1 hg2 hc8
      go_wp2
      refine region_tail 8 [(0, 11), (1, 12), (2, 13), (3, 14), (4, 15), (5, 16), (6, 17), (7, 18)]
        (fun i => [Is u3, Is (.int .u8 (c.toNat : Int)), Is (.int .u8 (q1 : Int)), Is (.int .u8 (g1.toNat : Int)), Is (.int .u8 (c.toNat : Int)), Is (.int .u8 (q2 : Int)), Is (.int .u8 (g2.toNat : Int)), New [.int .u8 (g1.toNat : Int), .int .u8 (g2.toNat : Int)]].getD i (Is undef))
        (fun w' => Below wr.heap.size wr w') (by kernel_rfl) (by decide) (by kernel_rfl) (by kernel_rfl) (by kernel_rfl) (by decide) (by decide) (by kernel_rfl) rfl ?mono ((Below.refl _ _).drew) ?step ?fin
      case mono =>
        intro i
        match i with
        | 0 | 1 | 2 | 3 | 4 | 5 | 6 => exact Is.monot _
        | 7 => exact New.monot _
        | _ + 8 => exact Is.monot _
      case step =>
        refine List.forall_mem_cons.2 ⟨?s0, List.forall_mem_cons.2 ⟨?s1, List.forall_mem_cons.2 ⟨?s2, List.forall_mem_cons.2 ⟨?s3, List.forall_mem_cons.2 ⟨?s4, List.forall_mem_cons.2 ⟨?s5, List.forall_mem_cons.2 ⟨?s6, List.forall_mem_cons.2 ⟨?s7, List.forall_mem_nil _⟩⟩⟩⟩⟩⟩⟩⟩
        all_goals
          intro u wx hg hC
          have hc := hC _ rfl
          clear hC
          simp [Region.binds, Is] at hc
          refine wpOp_step rfl (fun K hK => ?_)
          simp only [puts, List.foldl]
          go_simp
          refine hK _ _ ?_
          clear hK K
          first
            | (refine ⟨rfl, ?_, hg, Below.refl _ _⟩; rfl)
            | (refine ⟨rfl, ?_, hg.alloc hg.size _, alloc_below _ _⟩; exact ⟨wx.heap.size, rfl, Lies.new [_, _] _ _⟩)
      case fin =>
        intro u w9 hbw9 hφ
        have h0 : u 0 = u3 := hφ (0, 11) (by decide)
        obtain ⟨b, h7, hl⟩ : New [.int .u8 (g1.toNat : Int), .int .u8 (g2.toNat : Int)] (u 7) w9 := hφ (7, 18) (by decide)
        clear hφ
        simp only [puts, List.foldl]
        go_simp
        have HOW9 := Lib.hid (own_below HOWN.out hbw9)
        have HLI := Lib.hid hl
        have HB9 := Lib.hid hbw9
        have HZ9 : Hid (M ≤ w9.heap.size) := Lib.hid (Nat.le_trans HMW.out hbw9.size)
        clear hl hbw9 h0 h7
        go_wp2_with (first
          | ((with_reducible refine wpAppendK 2 HOW9.out Tryd.underlying47 sha_one_byte HLI.out HL2.out HT0.out HO2.out HPK HZ9.out ?_ ?_); rfl; intro v1 w1 g1 g2 g3; have HV1 := Lib.hid g1; have HG1 := Lib.hid g2; clear g1 g2 g3))
        go_roundw
        case rel =>
          refine ⟨k + 1, by omega, by go_num, ?_, Nat.le_trans HZ9.out HG1.out.size, (HBW.out.next HB9.out).grown HG1.out (Nat.le_trans HBW.out.size HB9.out.size) (fun j hj => Nat.le_trans ZB.out (HOW9.out.lt j hj).1)⟩
          rw [HT.out, show 2 * (k + 1) = 2 * k + 2 by omega]
          exact HV1.out
        case measure => simp [intOf]; omega
    · have ek : k = 32 := by omega
      rw [ek, List.take_of_length_le (by rw [LA.out]; omega)] at hown
      have hconv := own_string hown
      have HB := Lib.hid hbw
      clear hown hbw hmw ek
      go_wp2
      go_ret
      exact ⟨rfl, HB.out⟩

end Go.Proofs.YtmphjmbnfaimiaaDoor
