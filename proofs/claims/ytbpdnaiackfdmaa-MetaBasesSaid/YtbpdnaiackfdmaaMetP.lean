/- The law's Plain; the document's Right. -/
import Derived.Test.YtbpdnaiackfdmaaMetL
import Derived.Test.YtbpdnaiackfdmaaLoadMG
namespace Go.Proofs.Ytbpdnaiackfdmaa
open Go.RowKit MetMath
set_option linter.unusedVariables false
set_option maxRecDepth 100000

theorem fits_rslot : Fits Try.prog 42 3 := ⟨⟨_, Try.underlying42, rfl⟩, by kernel_rfl⟩
theorem fits_rmeta : Fits Try.prog 45 13 := ⟨⟨_, Try.underlying45, rfl⟩, by kernel_rfl⟩
theorem zero_rmeta : ∀ u, (zeroValue 45).run Try.prog u = .ok (.agg (mcs zeroM).toArray) u := fun u => by kernel_rfl
theorem zero_rslot : ∀ u, (zeroValue 42).run Try.prog u = .ok (.agg (slc ⟨0, 0, 0⟩).toArray) u := fun u => by kernel_rfl
theorem built_plain (m : Mt) : Try.prog.built 45 [(1, .int .i64 m.act), (2, .int .i64 m.flo), (3, .int .i64 m.cur), (4, .int .i64 m.int)] = some (mcs { m with a := ⟨0, 0, 0⟩, b := ⟨0, 0, 0⟩, c := ⟨0, 0, 0⟩ }).toArray := by kernel_rfl
set_option maxHeartbeats 2000000 in
theorem met_plain_any (m : Mt) (w : World) : Calls Try.prog 13 #[.agg (mcs m).toArray] w fun e w' => e = .returned (.agg (mcs m).toArray) ∧ Below w.heap.size w w' := by
  obtain ⟨ZM, hZM⟩ : ∃ Z, mcs zeroM = Z := ⟨_, rfl⟩
  have HZM : Hid (∀ u, (zeroValue 45).run Try.prog u = .ok (.agg ZM.toArray) u) := Lib.hid (by rw [← hZM]; exact zero_rmeta)
  have HZML : Hid (ZM.length = 13) := Lib.hid (by rw [← hZM]; rfl)
  obtain ⟨Z, hZ⟩ : ∃ Z, slc ⟨0, 0, 0⟩ = Z := ⟨_, rfl⟩
  have HZ : Hid (∀ u, (zeroValue 25).run Try.prog u = .ok (.agg Z.toArray) u) := Lib.hid (by rw [← hZ]; exact zero_slot)
  have HZL : Hid (Z.length = 3) := Lib.hid (by rw [← hZ]; rfl)
  obtain ⟨S, hS⟩ : ∃ S, slots m = S := ⟨_, rfl⟩
  have HSL : Hid (S.length = 9) := Lib.hid (by rw [← hS]; rfl)
  have HI : Hid (∀ u, (Instr.index 26 (.agg S.toArray) (.int .i64 0)).run Try.prog u = .ok (.agg (slc m.a).toArray) u ∧ (Instr.index 26 (.agg S.toArray) (.int .i64 1)).run Try.prog u = .ok (.agg (slc m.b).toArray) u
      ∧ (Instr.index 26 (.agg S.toArray) (.int .i64 2)).run Try.prog u = .ok (.agg (slc m.c).toArray) u) := Lib.hid fun u => by rw [← hS]; exact slots_index m.a m.b m.c u
  obtain ⟨R4, hR4⟩ : ∃ R4, rest4 m = R4 := ⟨_, rfl⟩
  obtain ⟨M, hM⟩ : ∃ M, mcs m = M := ⟨_, rfl⟩
  have HML : Hid (M.length = 13) := Lib.hid (by rw [← hM]; rfl)
  have HMO : Hid (M.all (·.oneCell') = true) := Lib.hid (by rw [← hM]; rfl)
  have HP : Hid (M = [] ++ S ++ R4) := Lib.hid (by rw [← hS, ← hR4, ← hM]; exact mcs_parts m)
  obtain ⟨P0, hP0⟩ : ∃ X, mcs { m with a := ⟨0, 0, 0⟩, b := ⟨0, 0, 0⟩, c := ⟨0, 0, 0⟩ } = X := ⟨_, rfl⟩
  have HBU : Hid (Try.prog.built 45 [(1, .int .i64 m.act), (2, .int .i64 m.flo), (3, .int .i64 m.cur), (4, .int .i64 m.int)] = some P0.toArray) := Lib.hid (by rw [← hP0]; exact built_plain m)
  have HPL : Hid (P0.length = 13) := Lib.hid (by rw [← hP0]; rfl)
  have HPO : Hid (P0.all (·.oneCell') = true) := Lib.hid (by rw [← hP0]; rfl)
  obtain ⟨Y0, hY0⟩ : ∃ Y, slc m.a = Y := ⟨_, rfl⟩
  have L0 : Hid (Y0.length = 3) := Lib.hid (by rw [← hY0]; rfl)
  have K0 : Hid (Y0.all (·.oneCell') = true) := Lib.hid (by rw [← hY0]; rfl)
  have hi0 : ∀ u, (Instr.index 26 (.agg S.toArray) (.int .i64 0)).run Try.prog u = .ok (.agg Y0.toArray) u := fun u => by rw [← hY0]; exact (HI.out u).1
  obtain ⟨Y1, hY1⟩ : ∃ Y, slc m.b = Y := ⟨_, rfl⟩
  have L1 : Hid (Y1.length = 3) := Lib.hid (by rw [← hY1]; rfl)
  have K1 : Hid (Y1.all (·.oneCell') = true) := Lib.hid (by rw [← hY1]; rfl)
  have hi1 : ∀ u, (Instr.index 26 (.agg S.toArray) (.int .i64 1)).run Try.prog u = .ok (.agg Y1.toArray) u := fun u => by rw [← hY1]; exact (HI.out u).2.1
  obtain ⟨Y2, hY2⟩ : ∃ Y, slc m.c = Y := ⟨_, rfl⟩
  have L2 : Hid (Y2.length = 3) := Lib.hid (by rw [← hY2]; rfl)
  have K2 : Hid (Y2.all (·.oneCell') = true) := Lib.hid (by rw [← hY2]; rfl)
  have hi2 : ∀ u, (Instr.index 26 (.agg S.toArray) (.int .i64 2)).run Try.prog u = .ok (.agg Y2.toArray) u := fun u => by rw [← hY2]; exact (HI.out u).2.2
  have D9 : Hid (M[9]? = some (.int .i64 m.act)) := Lib.hid (by rw [← hM]; rfl)
  have D10 : Hid (M[10]? = some (.int .i64 m.flo)) := Lib.hid (by rw [← hM]; rfl)
  have D11 : Hid (M[11]? = some (.int .i64 m.cur)) := Lib.hid (by rw [← hM]; rfl)
  have D12 : Hid (M[12]? = some (.int .i64 m.int)) := Lib.hid (by rw [← hM]; rfl)
  have X0 : Hid (P0 = [] ++ Z ++ (Z ++ Z ++ R4)) := Lib.hid (by rw [← hP0, ← hZ, ← hR4]; rfl)
  have X1 : Hid ([] ++ Y0 ++ (Z ++ Z ++ R4) = Y0 ++ Z ++ (Z ++ R4)) := Lib.hid (by simp)
  have X2 : Hid (Y0 ++ Y1 ++ (Z ++ R4) = (Y0 ++ Y1) ++ Z ++ R4) := Lib.hid (by simp)
  have X3 : Hid ((Y0 ++ Y1) ++ Y2 ++ R4 = M) := Lib.hid (by rw [← hY0, ← hY1, ← hY2, ← hR4, ← hM]; rfl)
  have L01 : Hid ((Y0 ++ Y1).length = 6) := Lib.hid (by rw [List.length_append, L0.out, L1.out])
  rw [hM]
  clear hZM hZ hS hR4 hM hP0 hY0 hY1 hY2 HI
  obtain ⟨W1, hW1⟩ : ∃ X, [] ++ Y0 ++ (Z ++ Z ++ R4) = X := ⟨_, rfl⟩
  obtain ⟨W2, hW2⟩ : ∃ X, Y0 ++ Y1 ++ (Z ++ R4) = X := ⟨_, rfl⟩
  have G1 : Hid ([] ++ Y0 ++ (Z ++ Z ++ R4) = W1) := Lib.hid hW1
  have G2 : Hid (Y0 ++ Y1 ++ (Z ++ R4) = W2) := Lib.hid hW2
  rw [hW1] at X1
  rw [hW2] at X2
  clear hW1 hW2
  go_enter Try.func13, Try.ntmps13
  go_wp2_with (first
    | ((with_reducible refine wpBoxK (w := w) (M) 28 ?_ ?_); rfl; intro ww1 r_ b_ s_; have G_m : Hid (w.heap.size ≤ w.heap.size) := Lib.hid (Nat.le_refl _); have B_1 : Hid (Below w.heap.size w ww1) := Lib.hid (b_); have Tm_1 := Lib.hid r_; have e9 := (Tm_1.out.cell 9).trans D9.out; have e10 := (Tm_1.out.cell 10).trans D10.out; have e11 := (Tm_1.out.cell 11).trans D11.out; have e12 := (Tm_1.out.cell 12).trans D12.out; clear r_ b_ s_)
    | ((with_reducible refine wpAllocK (w := ww1) (ZM) 45 HZM.out ?_ ?_); rfl; intro ww2 r_ b_ s_; have N_m_r : Hid (w.heap.size ≠ ww1.heap.size) := Lib.hid (by have := Tm_1.out.lt; omega); have G_r : Hid (w.heap.size ≤ ww1.heap.size) := Lib.hid (B_1.out.size); have Tm_2 := Lib.hid (Tm_1.out.step b_); have B_2 : Hid (Below w.heap.size w ww2) := Lib.hid (B_1.out.next b_); have Tr_2 := Lib.hid r_; have g9 := (Tm_2.out.cell 9).trans D9.out; have g10 := (Tm_2.out.cell 10).trans D10.out; have g11 := (Tm_2.out.cell 11).trans D11.out; have g12 := (Tm_2.out.cell 12).trans D12.out; clear r_ b_ s_ Tm_1 B_1)
    | ((with_reducible refine wpBuildPK P0 45 [(1, .int .i64 m.act), (2, .int .i64 m.flo), (3, .int .i64 m.cur), (4, .int .i64 m.int)] HBU.out ?_ ?_); rfl)
    | ((with_reducible refine wpAllocK (w := ww2) (ZM) 45 HZM.out ?_ ?_); rfl; intro ww3 r_ b_ s_; have N_m_x : Hid (w.heap.size ≠ ww2.heap.size) := Lib.hid (by have := Tm_2.out.lt; omega); have N_r_x : Hid (ww1.heap.size ≠ ww2.heap.size) := Lib.hid (by have := Tr_2.out.lt; omega); have G_x : Hid (w.heap.size ≤ ww2.heap.size) := Lib.hid (B_2.out.size); have Tm_3 := Lib.hid (Tm_2.out.step b_); have Tr_3 := Lib.hid (Tr_2.out.step b_); have B_3 : Hid (Below w.heap.size w ww3) := Lib.hid (B_2.out.next b_); have Tx_3 := Lib.hid r_; clear r_ b_ s_ Tm_2 Tr_2 B_2)
    | ((with_reducible refine Tx_3.out.wpStoreK 45 (P0) fits_rmeta (HZML.out) (HPL.out) (HPO.out) ?_ ?_); rfl; intro ww4 r_ o_ s_; have Tm_4 := Lib.hid (Tm_3.out.only o_ N_m_x.out); have Tr_4 := Lib.hid (Tr_3.out.only o_ N_r_x.out); have Tx_4 := Lib.hid r_; have B_4 : Hid (Below w.heap.size w ww4) := Lib.hid (B_3.out.trans (o_.below G_x.out B_3.out.size)); clear r_ o_ s_ Tx_3 B_3 Tm_3 Tr_3)
    | ((with_reducible refine (show Row ww4 w.heap.size 28 ([] ++ S ++ R4) by rw [← HP.out]; exact Tm_4.out).wpLoadMidK 0 rfl 26 fits_slots HSL.out ?_ ?_); rfl))
  refine wp_loop_rounds 4 ?_
  rw [rounds_succ]
  go_wp2_with (first
    | ((with_reducible refine wpAllocK (w := ww4) (Z) 25 HZ.out ?_ ?_); rfl; intro ww5 r_ b_ s_; have N_m_s0 : Hid (w.heap.size ≠ ww4.heap.size) := Lib.hid (by have := Tm_4.out.lt; omega); have N_r_s0 : Hid (ww1.heap.size ≠ ww4.heap.size) := Lib.hid (by have := Tr_4.out.lt; omega); have N_x_s0 : Hid (ww2.heap.size ≠ ww4.heap.size) := Lib.hid (by have := Tx_4.out.lt; omega); have G_s0 : Hid (w.heap.size ≤ ww4.heap.size) := Lib.hid (B_4.out.size); have Tm_5 := Lib.hid (Tm_4.out.step b_); have Tr_5 := Lib.hid (Tr_4.out.step b_); have Tx_5 := Lib.hid (Tx_4.out.step b_); have B_5 : Hid (Below w.heap.size w ww5) := Lib.hid (B_4.out.next b_); have Ts0_5 := Lib.hid r_; clear r_ b_ s_ Tm_4 Tr_4 Tx_4 B_4)
    | ((with_reducible refine Ts0_5.out.wpStoreK 25 (Y0) fits_slot (HZL.out) (L0.out) (K0.out) ?_ ?_); rfl; intro ww6 r_ o_ s_; have Tm_6 := Lib.hid (Tm_5.out.only o_ N_m_s0.out); have Tr_6 := Lib.hid (Tr_5.out.only o_ N_r_s0.out); have Tx_6 := Lib.hid (Tx_5.out.only o_ N_x_s0.out); have Ts0_6 := Lib.hid r_; have B_6 : Hid (Below w.heap.size w ww6) := Lib.hid (B_5.out.trans (o_.below G_s0.out B_5.out.size)); clear r_ o_ s_ Ts0_5 B_5 Tm_5 Tr_5 Tx_5)
    | ((with_reducible refine Ts0_6.out.wpLoadK 25 fits_slot (L0.out) ?_ ?_); rfl)
    | ((with_reducible refine (show Row ww6 (ww2.heap.size) 45 ([] ++ Z ++ (Z ++ Z ++ R4)) by rw [← X0.out]; exact Tx_6.out).wpStoreMidK 0 rfl 42 (Y0) fits_rslot HZL.out L0.out K0.out ?_ ?_); rfl; intro ww7 r_ o_ s_; rw [G1.out] at r_; have Tm_7 := Lib.hid (Tm_6.out.only o_ N_m_x.out); have Tr_7 := Lib.hid (Tr_6.out.only o_ N_r_x.out); have Ts0_7 := Lib.hid (Ts0_6.out.only o_ N_x_s0.out.symm); have Tx_7 := Lib.hid r_; have B_7 : Hid (Below w.heap.size w ww7) := Lib.hid (B_6.out.trans (o_.below G_x.out B_6.out.size)); clear r_ o_ s_ Tx_6 B_6 Tm_6 Tr_6 Ts0_6))
  rw [rounds_succ]
  go_wp2_with (first
    | ((with_reducible refine wpAllocK (w := ww7) (Z) 25 HZ.out ?_ ?_); rfl; intro ww8 r_ b_ s_; have N_m_s1 : Hid (w.heap.size ≠ ww7.heap.size) := Lib.hid (by have := Tm_7.out.lt; omega); have N_r_s1 : Hid (ww1.heap.size ≠ ww7.heap.size) := Lib.hid (by have := Tr_7.out.lt; omega); have N_x_s1 : Hid (ww2.heap.size ≠ ww7.heap.size) := Lib.hid (by have := Tx_7.out.lt; omega); have N_s0_s1 : Hid (ww4.heap.size ≠ ww7.heap.size) := Lib.hid (by have := Ts0_7.out.lt; omega); have G_s1 : Hid (w.heap.size ≤ ww7.heap.size) := Lib.hid (B_7.out.size); have Tm_8 := Lib.hid (Tm_7.out.step b_); have Tr_8 := Lib.hid (Tr_7.out.step b_); have Tx_8 := Lib.hid (Tx_7.out.step b_); have Ts0_8 := Lib.hid (Ts0_7.out.step b_); have B_8 : Hid (Below w.heap.size w ww8) := Lib.hid (B_7.out.next b_); have Ts1_8 := Lib.hid r_; clear r_ b_ s_ Tm_7 Tr_7 Tx_7 Ts0_7 B_7)
    | ((with_reducible refine Ts1_8.out.wpStoreK 25 (Y1) fits_slot (HZL.out) (L1.out) (K1.out) ?_ ?_); rfl; intro ww9 r_ o_ s_; have Tm_9 := Lib.hid (Tm_8.out.only o_ N_m_s1.out); have Tr_9 := Lib.hid (Tr_8.out.only o_ N_r_s1.out); have Tx_9 := Lib.hid (Tx_8.out.only o_ N_x_s1.out); have Ts0_9 := Lib.hid (Ts0_8.out.only o_ N_s0_s1.out); have Ts1_9 := Lib.hid r_; have B_9 : Hid (Below w.heap.size w ww9) := Lib.hid (B_8.out.trans (o_.below G_s1.out B_8.out.size)); clear r_ o_ s_ Ts1_8 B_8 Tm_8 Tr_8 Tx_8 Ts0_8)
    | ((with_reducible refine Ts1_9.out.wpLoadK 25 fits_slot (L1.out) ?_ ?_); rfl)
    | ((with_reducible refine (show Row ww9 (ww2.heap.size) 45 (Y0 ++ Z ++ (Z ++ R4)) by rw [← X1.out]; exact Tx_9.out).wpStoreMidK 3 L0.out 42 (Y1) fits_rslot HZL.out L1.out K1.out ?_ ?_); rfl; intro ww10 r_ o_ s_; rw [G2.out] at r_; have Tm_10 := Lib.hid (Tm_9.out.only o_ N_m_x.out); have Tr_10 := Lib.hid (Tr_9.out.only o_ N_r_x.out); have Ts0_10 := Lib.hid (Ts0_9.out.only o_ N_x_s0.out.symm); have Ts1_10 := Lib.hid (Ts1_9.out.only o_ N_x_s1.out.symm); have Tx_10 := Lib.hid r_; have B_10 : Hid (Below w.heap.size w ww10) := Lib.hid (B_9.out.trans (o_.below G_x.out B_9.out.size)); clear r_ o_ s_ Tx_9 B_9 Tm_9 Tr_9 Ts0_9 Ts1_9))
  rw [rounds_succ]
  go_wp2_with (first
    | ((with_reducible refine wpAllocK (w := ww10) (Z) 25 HZ.out ?_ ?_); rfl; intro ww11 r_ b_ s_; have N_m_s2 : Hid (w.heap.size ≠ ww10.heap.size) := Lib.hid (by have := Tm_10.out.lt; omega); have N_r_s2 : Hid (ww1.heap.size ≠ ww10.heap.size) := Lib.hid (by have := Tr_10.out.lt; omega); have N_x_s2 : Hid (ww2.heap.size ≠ ww10.heap.size) := Lib.hid (by have := Tx_10.out.lt; omega); have N_s0_s2 : Hid (ww4.heap.size ≠ ww10.heap.size) := Lib.hid (by have := Ts0_10.out.lt; omega); have N_s1_s2 : Hid (ww7.heap.size ≠ ww10.heap.size) := Lib.hid (by have := Ts1_10.out.lt; omega); have G_s2 : Hid (w.heap.size ≤ ww10.heap.size) := Lib.hid (B_10.out.size); have Tm_11 := Lib.hid (Tm_10.out.step b_); have Tr_11 := Lib.hid (Tr_10.out.step b_); have Tx_11 := Lib.hid (Tx_10.out.step b_); have Ts0_11 := Lib.hid (Ts0_10.out.step b_); have Ts1_11 := Lib.hid (Ts1_10.out.step b_); have B_11 : Hid (Below w.heap.size w ww11) := Lib.hid (B_10.out.next b_); have Ts2_11 := Lib.hid r_; clear r_ b_ s_ Tm_10 Tr_10 Tx_10 Ts0_10 Ts1_10 B_10)
    | ((with_reducible refine Ts2_11.out.wpStoreK 25 (Y2) fits_slot (HZL.out) (L2.out) (K2.out) ?_ ?_); rfl; intro ww12 r_ o_ s_; have Tm_12 := Lib.hid (Tm_11.out.only o_ N_m_s2.out); have Tr_12 := Lib.hid (Tr_11.out.only o_ N_r_s2.out); have Tx_12 := Lib.hid (Tx_11.out.only o_ N_x_s2.out); have Ts0_12 := Lib.hid (Ts0_11.out.only o_ N_s0_s2.out); have Ts1_12 := Lib.hid (Ts1_11.out.only o_ N_s1_s2.out); have Ts2_12 := Lib.hid r_; have B_12 : Hid (Below w.heap.size w ww12) := Lib.hid (B_11.out.trans (o_.below G_s2.out B_11.out.size)); clear r_ o_ s_ Ts2_11 B_11 Tm_11 Tr_11 Tx_11 Ts0_11 Ts1_11)
    | ((with_reducible refine Ts2_12.out.wpLoadK 25 fits_slot (L2.out) ?_ ?_); rfl)
    | ((with_reducible refine (show Row ww12 (ww2.heap.size) 45 ((Y0 ++ Y1) ++ Z ++ R4) by rw [← X2.out]; exact Tx_12.out).wpStoreMidK 6 L01.out 42 (Y2) fits_rslot HZL.out L2.out K2.out ?_ ?_); rfl; intro ww13 r_ o_ s_; rw [X3.out] at r_; have Tm_13 := Lib.hid (Tm_12.out.only o_ N_m_x.out); have Tr_13 := Lib.hid (Tr_12.out.only o_ N_r_x.out); have Ts0_13 := Lib.hid (Ts0_12.out.only o_ N_x_s0.out.symm); have Ts1_13 := Lib.hid (Ts1_12.out.only o_ N_x_s1.out.symm); have Ts2_13 := Lib.hid (Ts2_12.out.only o_ N_x_s2.out.symm); have Tx_13 := Lib.hid r_; have B_13 : Hid (Below w.heap.size w ww13) := Lib.hid (B_12.out.trans (o_.below G_x.out B_12.out.size)); clear r_ o_ s_ Tx_12 B_12 Tm_12 Tr_12 Ts0_12 Ts1_12 Ts2_12))
  rw [rounds_succ]
  go_wp2_with (first
    | ((with_reducible refine Tx_13.out.wpLoadK 45 fits_rmeta (HML.out) ?_ ?_); rfl)
    | ((with_reducible refine Tr_13.out.wpStoreK 45 (M) fits_rmeta (HZML.out) (HML.out) (HMO.out) ?_ ?_); rfl; intro ww14 r_ o_ s_; have Tm_14 := Lib.hid (Tm_13.out.only o_ N_m_r.out); have Tx_14 := Lib.hid (Tx_13.out.only o_ N_r_x.out.symm); have Ts0_14 := Lib.hid (Ts0_13.out.only o_ N_r_s0.out.symm); have Ts1_14 := Lib.hid (Ts1_13.out.only o_ N_r_s1.out.symm); have Ts2_14 := Lib.hid (Ts2_13.out.only o_ N_r_s2.out.symm); have Tr_14 := Lib.hid r_; have B_14 : Hid (Below w.heap.size w ww14) := Lib.hid (B_13.out.trans (o_.below G_r.out B_13.out.size)); clear r_ o_ s_ Tr_13 B_13 Tm_13 Tx_13 Ts0_13 Ts1_13 Ts2_13))
  exact bodyPost_ret (Tr_14.out.result rfl _ _ rfl Try.underlying45 rfl (by rw [HML.out]; exact fits_rmeta.size)) rfl ⟨rfl, B_14.out⟩
end Go.Proofs.Ytbpdnaiackfdmaa
