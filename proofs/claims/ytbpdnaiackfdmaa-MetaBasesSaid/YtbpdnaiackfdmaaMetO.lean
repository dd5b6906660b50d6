/- Base. -/
import Derived.Test.YtbpdnaiackfdmaaMetN
namespace Go.Proofs.Ytbpdnaiackfdmaa
open Go.RowKit MetMath
set_option linter.unusedVariables false
set_option linter.unusedSimpArgs false
set_option maxRecDepth 100000

theorem zero_recs : ∀ u, (zeroValue 22).run Try.prog u = .ok (.slice none 0 0) u := fun u => by kernel_rfl
theorem zero_tell : ∀ u, (zeroValue 59).run Try.prog u = .ok .nilFunc u := fun u => by kernel_rfl
theorem met_size_tell : (Try.prog.info? 59).map (·.size) = some 1 := by kernel_rfl
/-- A slot's records. -/
def slotL (i : Int) (x : Sl) : List Rc := [⟨100 + x.s, i, 0, x.v⟩] ++ more 111 i x.b
/-- What Base tells of a right one. -/
def baseL (m : Mt) : List Rc := ((((((((([] ++ [⟨100 + m.a.s, 0, 0, m.a.v⟩]) ++ more 111 0 m.a.b) ++ [⟨100 + m.b.s, 1, 0, m.b.v⟩]) ++ more 111 1 m.b.b) ++ [⟨100 + m.c.s, 2, 0, m.c.v⟩]) ++ more 111 2 m.c.b) ++ [⟨110, m.act, 0, 0⟩]) ++ more 8 0 m.flo) ++ more 9 0 m.cur) ++ more 10 0 m.int
theorem more_length (k s v : Int) : (more k s v).length ≤ 1 := by unfold more; split <;> simp
theorem GrO.below {g t base B : Nat} {V : Value} {L : List Rc} {w w' : World} (h : GrO g V w w') (hl : LAt base w g t V L) (hb : B ≤ base) (hg : B ≤ g) : Below B w w' :=
  ⟨h.1, h.2.1, h.2.2.1, h.2.2.2.1, fun k hk => h.2.2.2.2 k (Nat.lt_of_lt_of_le hk (Nat.le_trans hb hl.bw)) (by omega) (hl.far (by omega))⟩
theorem met_base_bad (m : Mt) (w : World) (h : m.right = false) : Calls Try.prog 11 #[.agg (mcs m).toArray] w fun e w' => e = .returned (.slice none 0 0) ∧ Below w.heap.size w w' := by
  obtain ⟨M, hM⟩ : ∃ M, mcs m = M := ⟨_, rfl⟩
  have HML : Hid (M.length = 13) := Lib.hid (by rw [← hM]; rfl)
  have HR : Hid (∀ u, Calls Try.prog 9 #[.agg M.toArray] u fun e w' => e = .returned (.bool false) ∧ Below u.heap.size u w') := Lib.hid fun u => by rw [← hM, ← h]; exact met_right_any m u
  rw [hM]
  clear hM h
  go_enter Try.func11, Try.ntmps11
  go_wp2_with (first
    | ((with_reducible refine wpBoxK M 28 ?_ ?_); rfl; intro u1 r1 b1 s1; have R1 := Lib.hid r1; have B1 := Lib.hid b1; clear r1 b1 s1)
    | ((with_reducible refine R1.out.wpLoadK 28 fits_meta HML.out ?_ ?_); rfl)
    | (go_at_call 9; (with_reducible refine (HR.out u1).mono ?_); rintro e u2 ⟨rfl, b2⟩; have B2 := Lib.hid (B1.out.next b2); clear b2))
  go_ret
  exact ⟨rfl, B2.out⟩
set_option maxHeartbeats 4000000 in
theorem met_base_any (m : Mt) (w : World) (h : m.right = true) : Calls Try.prog 11 #[.agg (mcs m).toArray] w fun e w' => ∃ v base, e = .returned v ∧ w.heap.size ≤ base ∧ w'.ownsRow base 31 4 v (baseL m).length (rcs (baseL m)) ∧ Below w.heap.size w w' := by
  have hst : (0 ≤ m.a.s ∧ m.a.s < 6) ∧ (0 ≤ m.b.s ∧ m.b.s < 6) ∧ (0 ≤ m.c.s ∧ m.c.s < 6) := by
    simp only [Mt.right, Sl.right, stOk, Bool.and_eq_true, decide_eq_true_eq] at h
    omega
  obtain ⟨M, hM⟩ : ∃ M, mcs m = M := ⟨_, rfl⟩
  have HML : Hid (M.length = 13) := Lib.hid (by rw [← hM]; rfl)
  have HR : Hid (∀ u, Calls Try.prog 9 #[.agg M.toArray] u fun e w' => e = .returned (.bool true) ∧ Below u.heap.size u w') := Lib.hid fun u => by rw [← hM, ← h]; exact met_right_any m u
  obtain ⟨Z, hZ⟩ : ∃ Z, slc ⟨0, 0, 0⟩ = Z := ⟨_, rfl⟩
  have HZ : Hid (∀ u, (zeroValue 25).run Try.prog u = .ok (.agg Z.toArray) u) := Lib.hid (by rw [← hZ]; exact zero_slot)
  have HZL : Hid (Z.length = 3) := Lib.hid (by rw [← hZ]; rfl)
  obtain ⟨S, hS⟩ : ∃ S, slots m = S := ⟨_, rfl⟩
  have HSL : Hid (S.length = 9) := Lib.hid (by rw [← hS]; rfl)
  have HI : Hid (∀ u, (Instr.index 26 (.agg S.toArray) (.int .i64 0)).run Try.prog u = .ok (.agg (slc m.a).toArray) u ∧ (Instr.index 26 (.agg S.toArray) (.int .i64 1)).run Try.prog u = .ok (.agg (slc m.b).toArray) u
      ∧ (Instr.index 26 (.agg S.toArray) (.int .i64 2)).run Try.prog u = .ok (.agg (slc m.c).toArray) u) := Lib.hid fun u => by rw [← hS]; exact slots_index m.a m.b m.c u
  obtain ⟨R4, hR4⟩ : ∃ R4, rest4 m = R4 := ⟨_, rfl⟩
  have HP : Hid (M = [] ++ S ++ R4) := Lib.hid (by rw [← hS, ← hR4, ← hM]; exact mcs_parts m)
  have HT0 : Hid (0 < ([.nilFunc] : List Value).length) := Lib.hid (Nat.succ_pos 0)
  obtain ⟨Y0, hY0⟩ : ∃ Y, slc m.a = Y := ⟨_, rfl⟩
  have L0 : Hid (Y0.length = 3) := Lib.hid (by rw [← hY0]; rfl)
  have K0 : Hid (Y0.all (·.oneCell') = true) := Lib.hid (by rw [← hY0]; rfl)
  have C00 : Hid (Y0[0]? = some (.int .i64 m.a.s)) := Lib.hid (by rw [← hY0]; rfl)
  have C01 : Hid (Y0[1]? = some (.int .i64 m.a.v)) := Lib.hid (by rw [← hY0]; rfl)
  have C02 : Hid (Y0[2]? = some (.int .i64 m.a.b)) := Lib.hid (by rw [← hY0]; rfl)
  have hi0 : ∀ u, (Instr.index 26 (.agg S.toArray) (.int .i64 0)).run Try.prog u = .ok (.agg Y0.toArray) u := fun u => by rw [← hY0]; exact (HI.out u).1
  obtain ⟨Y1, hY1⟩ : ∃ Y, slc m.b = Y := ⟨_, rfl⟩
  have L1 : Hid (Y1.length = 3) := Lib.hid (by rw [← hY1]; rfl)
  have K1 : Hid (Y1.all (·.oneCell') = true) := Lib.hid (by rw [← hY1]; rfl)
  have C10 : Hid (Y1[0]? = some (.int .i64 m.b.s)) := Lib.hid (by rw [← hY1]; rfl)
  have C11 : Hid (Y1[1]? = some (.int .i64 m.b.v)) := Lib.hid (by rw [← hY1]; rfl)
  have C12 : Hid (Y1[2]? = some (.int .i64 m.b.b)) := Lib.hid (by rw [← hY1]; rfl)
  have hi1 : ∀ u, (Instr.index 26 (.agg S.toArray) (.int .i64 1)).run Try.prog u = .ok (.agg Y1.toArray) u := fun u => by rw [← hY1]; exact (HI.out u).2.1
  obtain ⟨Y2, hY2⟩ : ∃ Y, slc m.c = Y := ⟨_, rfl⟩
  have L2 : Hid (Y2.length = 3) := Lib.hid (by rw [← hY2]; rfl)
  have K2 : Hid (Y2.all (·.oneCell') = true) := Lib.hid (by rw [← hY2]; rfl)
  have C20 : Hid (Y2[0]? = some (.int .i64 m.c.s)) := Lib.hid (by rw [← hY2]; rfl)
  have C21 : Hid (Y2[1]? = some (.int .i64 m.c.v)) := Lib.hid (by rw [← hY2]; rfl)
  have C22 : Hid (Y2[2]? = some (.int .i64 m.c.b)) := Lib.hid (by rw [← hY2]; rfl)
  have hi2 : ∀ u, (Instr.index 26 (.agg S.toArray) (.int .i64 2)).run Try.prog u = .ok (.agg Y2.toArray) u := fun u => by rw [← hY2]; exact (HI.out u).2.2
  have D9 : Hid (M[9]? = some (.int .i64 m.act)) := Lib.hid (by rw [← hM]; rfl)
  have D10 : Hid (M[10]? = some (.int .i64 m.flo)) := Lib.hid (by rw [← hM]; rfl)
  have D11 : Hid (M[11]? = some (.int .i64 m.cur)) := Lib.hid (by rw [← hM]; rfl)
  have D12 : Hid (M[12]? = some (.int .i64 m.int)) := Lib.hid (by rw [← hM]; rfl)
  obtain ⟨⟨ha0, ha1⟩, ⟨hb0, hb1⟩, hc0, hc1⟩ := hst
  rw [hM]
  clear hM hZ hS hR4 hY0 hY1 hY2 h HI
  obtain ⟨⟨a0, a1, a2⟩, ⟨b0, b1, b2⟩, ⟨c0, c1, c2⟩, ac, fl, cu, nt⟩ := m
  simp only at ha0 ha1 hb0 hb1 hc0 hc1
  go_enter Try.func11, Try.ntmps11
  go_wp2_with (first
    | ((with_reducible refine wpBoxK M 28 ?_ ?_); rfl; intro ww1 r1 b1 s1; have TM1 := Lib.hid r1; have B1 := Lib.hid b1; clear r1 b1 s1)
    | ((with_reducible refine TM1.out.wpLoadK 28 fits_meta HML.out ?_ ?_); rfl)
    | (go_at_call 9; (with_reducible refine (HR.out ww1).mono ?_); rintro e ww2 ⟨rfl, b2⟩; have TM2 := Lib.hid (TM1.out.step b2); have B2 := Lib.hid (B1.out.next b2); clear b2)
    | ((with_reducible refine wpAlloc1K (w := ww2) (.slice none 0 0) 22 rfl zero_recs ?_ ?_); rfl; intro ww3 r3 b3 s3; have TM3 := Lib.hid (TM2.out.step b3); have TG3 := Lib.hid r3; have B3 := Lib.hid (B2.out.next b3); have S3 : Hid (ww3.heap.size = ww2.heap.size + 1) := Lib.hid s3; clear r3 b3 s3)
    | ((with_reducible refine wpAlloc1K (w := ww3) .nilFunc 59 rfl zero_tell ?_ ?_); rfl; intro ww4 r4 b4 s4; have TM4 := Lib.hid (TM3.out.step b4); have TG4 := Lib.hid (TG3.out.step b4); have TT4 := Lib.hid r4; have B4 := Lib.hid (B3.out.next b4); have S4 : Hid (ww4.heap.size = ww3.heap.size + 1) := Lib.hid s4; clear r4 b4 s4)
    | ((with_reducible refine TT4.out.wpStore1K 0 59 (.func (.func 22) #[] #[.pointer (some ⟨ww2.heap.size, 0, none⟩)]) met_size_tell HT0.out rfl rfl ?_ ?_); rfl; intro ww5 r5 o5 s5;
        have TM5 := Lib.hid (TM4.out.only o5 (by have := TM3.out.lt; omega)); have HL5 : Hid (LAt ww5.heap.size ww5 ww2.heap.size ww3.heap.size (.slice none 0 0) []) := Lib.hid ⟨TG4.out.only o5 (by have := TG3.out.lt; omega), r5, World.ownsRow_nil _ _ _ _, by have h1 := S3.out; have h2 := S4.out; omega, by have h2 := S4.out; omega, by have h1 := S3.out; omega, Nat.le_refl _⟩;
        have B5 : Hid (Below w.heap.size w ww5) := Lib.hid (B4.out.trans (o5.below B3.out.size B4.out.size)); have NG : Hid (w.heap.size ≠ ww2.heap.size) := Lib.hid (by have := TM2.out.lt; omega); have BG : Hid (w.heap.size ≤ ww2.heap.size) := Lib.hid B2.out.size; have BM : Hid (w.heap.size < ww5.heap.size) := Lib.hid TM5.out.lt; have BB : Hid (w.heap.size ≤ ww5.heap.size) := Lib.hid B5.out.size; clear r5 o5 s5)
    | ((with_reducible refine (show Row ww5 w.heap.size 28 ([] ++ S ++ R4) by rw [← HP.out]; exact TM5.out).wpLoadMidK 0 rfl 26 fits_slots HSL.out ?_ ?_); rfl))
  refine wp_loop_rounds 4 ?_
  rw [rounds_succ]
  go_wp2_with (first
    | ((with_reducible refine wpAllocK (w := ww5) Z 25 HZ.out ?_ ?_); rfl; intro ww6 r_ b_ s_; have TM6 := Lib.hid (TM5.out.step b_); have HL6 := Lib.hid (HL5.out.step b_); have TS6 := Lib.hid r_; have B6 := Lib.hid (B5.out.next b_); have NVS0 : Hid (Value.ownBlock (.slice none 0 0) ≠ some ww5.heap.size) := Lib.hid (HL5.out.lt (Nat.le_refl _)); have NSM0 : Hid (w.heap.size ≠ ww5.heap.size) := Lib.hid (by have := TM5.out.lt; omega); have NSG0 : Hid (ww5.heap.size ≠ ww2.heap.size) := Lib.hid (by have := HL5.out.rg.lt; omega); have NST0 : Hid (ww5.heap.size ≠ ww3.heap.size) := Lib.hid (by have := HL5.out.rt.lt; omega); clear r_ b_ s_)
    | ((with_reducible refine TS6.out.wpStoreK 25 Y0 fits_slot HZL.out L0.out K0.out ?_ ?_); rfl; intro ww7 r_ o_ s_; have TM7 := Lib.hid (TM6.out.only o_ NSM0.out); have HL7 := Lib.hid (HL6.out.only o_ NSG0.out NST0.out NVS0.out); have TS7 := Lib.hid r_; have B7 : Hid (Below w.heap.size w ww7) := Lib.hid (B6.out.trans (o_.below B5.out.size B6.out.size)); have d00 := (r_.cell 0).trans C00.out; have d01 := (r_.cell 1).trans C01.out; have dt0 : ww7.cell? ⟨ww3.heap.size, 0, none⟩ = some (.func (.func 22) #[] #[.pointer (some ⟨ww2.heap.size, 0, none⟩)]) := HL7.out.rt.cell 0; clear r_ o_ s_)
    | (go_at_call 22; (with_reducible refine (met_tell_any ww5.heap.size ww2.heap.size ww3.heap.size _ _ (100 + a0) 0 a1 ww7 HL7.out (by simp only [List.length_append, List.length_cons, List.length_nil];  omega)).mono ?_); rintro e ww8 ⟨rfl, V8, hl, hn, hg⟩; have HL8 := Lib.hid hl; have TM8 := Lib.hid (hg.row TM7.out NG.out (HL7.out.far BM.out)); have B8 : Hid (Below w.heap.size w ww8) := Lib.hid (B7.out.trans (hg.below HL7.out BB.out BG.out)); have TS8 := Lib.hid (hg.row TS7.out NSG0.out NVS0.out); have d02 := (TS8.out.cell 2).trans C02.out; clear hl hn hg)
    | (go_at_call 23; (with_reducible refine (met_more_any ww5.heap.size ww2.heap.size ww3.heap.size _ _ 111 0 a2 ww8 HL8.out (by simp only [List.length_append, List.length_cons, List.length_nil];  omega)).mono ?_); rintro e ww9 ⟨rfl, V9, hl, hn, hg⟩; have HL9 := Lib.hid hl; have TM9 := Lib.hid (hg.row TM8.out NG.out (HL8.out.far BM.out)); have B9 : Hid (Below w.heap.size w ww9) := Lib.hid (B8.out.trans (hg.below HL8.out BB.out BG.out)); clear hl hn hg))
  rw [rounds_succ]
  go_wp2_with (first
    | ((with_reducible refine wpAllocK (w := ww9) Z 25 HZ.out ?_ ?_); rfl; intro ww10 r_ b_ s_; have TM10 := Lib.hid (TM9.out.step b_); have HL10 := Lib.hid (HL9.out.step b_); have TS10 := Lib.hid r_; have B10 := Lib.hid (B9.out.next b_); have NVS1 : Hid (Value.ownBlock V9 ≠ some ww9.heap.size) := Lib.hid (HL9.out.lt (Nat.le_refl _)); have NSM1 : Hid (w.heap.size ≠ ww9.heap.size) := Lib.hid (by have := TM9.out.lt; omega); have NSG1 : Hid (ww9.heap.size ≠ ww2.heap.size) := Lib.hid (by have := HL9.out.rg.lt; omega); have NST1 : Hid (ww9.heap.size ≠ ww3.heap.size) := Lib.hid (by have := HL9.out.rt.lt; omega); clear r_ b_ s_)
    | ((with_reducible refine TS10.out.wpStoreK 25 Y1 fits_slot HZL.out L1.out K1.out ?_ ?_); rfl; intro ww11 r_ o_ s_; have TM11 := Lib.hid (TM10.out.only o_ NSM1.out); have HL11 := Lib.hid (HL10.out.only o_ NSG1.out NST1.out NVS1.out); have TS11 := Lib.hid r_; have B11 : Hid (Below w.heap.size w ww11) := Lib.hid (B10.out.trans (o_.below B9.out.size B10.out.size)); have d10 := (r_.cell 0).trans C10.out; have d11 := (r_.cell 1).trans C11.out; have dt1 : ww11.cell? ⟨ww3.heap.size, 0, none⟩ = some (.func (.func 22) #[] #[.pointer (some ⟨ww2.heap.size, 0, none⟩)]) := HL11.out.rt.cell 0; clear r_ o_ s_)
    | (go_at_call 22; (with_reducible refine (met_tell_any ww5.heap.size ww2.heap.size ww3.heap.size _ _ (100 + b0) 1 b1 ww11 HL11.out (by simp only [List.length_append, List.length_cons, List.length_nil]; have := more_length 111 0 a2;  omega)).mono ?_); rintro e ww12 ⟨rfl, V12, hl, hn, hg⟩; have HL12 := Lib.hid hl; have TM12 := Lib.hid (hg.row TM11.out NG.out (HL11.out.far BM.out)); have B12 : Hid (Below w.heap.size w ww12) := Lib.hid (B11.out.trans (hg.below HL11.out BB.out BG.out)); have TS12 := Lib.hid (hg.row TS11.out NSG1.out NVS1.out); have d12 := (TS12.out.cell 2).trans C12.out; clear hl hn hg)
    | (go_at_call 23; (with_reducible refine (met_more_any ww5.heap.size ww2.heap.size ww3.heap.size _ _ 111 1 b2 ww12 HL12.out (by simp only [List.length_append, List.length_cons, List.length_nil]; have := more_length 111 0 a2;  omega)).mono ?_); rintro e ww13 ⟨rfl, V13, hl, hn, hg⟩; have HL13 := Lib.hid hl; have TM13 := Lib.hid (hg.row TM12.out NG.out (HL12.out.far BM.out)); have B13 : Hid (Below w.heap.size w ww13) := Lib.hid (B12.out.trans (hg.below HL12.out BB.out BG.out)); clear hl hn hg))
  rw [rounds_succ]
  go_wp2_with (first
    | ((with_reducible refine wpAllocK (w := ww13) Z 25 HZ.out ?_ ?_); rfl; intro ww14 r_ b_ s_; have TM14 := Lib.hid (TM13.out.step b_); have HL14 := Lib.hid (HL13.out.step b_); have TS14 := Lib.hid r_; have B14 := Lib.hid (B13.out.next b_); have NVS2 : Hid (Value.ownBlock V13 ≠ some ww13.heap.size) := Lib.hid (HL13.out.lt (Nat.le_refl _)); have NSM2 : Hid (w.heap.size ≠ ww13.heap.size) := Lib.hid (by have := TM13.out.lt; omega); have NSG2 : Hid (ww13.heap.size ≠ ww2.heap.size) := Lib.hid (by have := HL13.out.rg.lt; omega); have NST2 : Hid (ww13.heap.size ≠ ww3.heap.size) := Lib.hid (by have := HL13.out.rt.lt; omega); clear r_ b_ s_)
    | ((with_reducible refine TS14.out.wpStoreK 25 Y2 fits_slot HZL.out L2.out K2.out ?_ ?_); rfl; intro ww15 r_ o_ s_; have TM15 := Lib.hid (TM14.out.only o_ NSM2.out); have HL15 := Lib.hid (HL14.out.only o_ NSG2.out NST2.out NVS2.out); have TS15 := Lib.hid r_; have B15 : Hid (Below w.heap.size w ww15) := Lib.hid (B14.out.trans (o_.below B13.out.size B14.out.size)); have d20 := (r_.cell 0).trans C20.out; have d21 := (r_.cell 1).trans C21.out; have dt2 : ww15.cell? ⟨ww3.heap.size, 0, none⟩ = some (.func (.func 22) #[] #[.pointer (some ⟨ww2.heap.size, 0, none⟩)]) := HL15.out.rt.cell 0; clear r_ o_ s_)
    | (go_at_call 22; (with_reducible refine (met_tell_any ww5.heap.size ww2.heap.size ww3.heap.size _ _ (100 + c0) 2 c1 ww15 HL15.out (by simp only [List.length_append, List.length_cons, List.length_nil]; have := more_length 111 0 a2; have := more_length 111 1 b2;  omega)).mono ?_); rintro e ww16 ⟨rfl, V16, hl, hn, hg⟩; have HL16 := Lib.hid hl; have TM16 := Lib.hid (hg.row TM15.out NG.out (HL15.out.far BM.out)); have B16 : Hid (Below w.heap.size w ww16) := Lib.hid (B15.out.trans (hg.below HL15.out BB.out BG.out)); have TS16 := Lib.hid (hg.row TS15.out NSG2.out NVS2.out); have d22 := (TS16.out.cell 2).trans C22.out; clear hl hn hg)
    | (go_at_call 23; (with_reducible refine (met_more_any ww5.heap.size ww2.heap.size ww3.heap.size _ _ 111 2 c2 ww16 HL16.out (by simp only [List.length_append, List.length_cons, List.length_nil]; have := more_length 111 0 a2; have := more_length 111 1 b2;  omega)).mono ?_); rintro e ww17 ⟨rfl, V17, hl, hn, hg⟩; have HL17 := Lib.hid hl; have TM17 := Lib.hid (hg.row TM16.out NG.out (HL16.out.far BM.out)); have B17 : Hid (Below w.heap.size w ww17) := Lib.hid (B16.out.trans (hg.below HL16.out BB.out BG.out)); have d9 := (TM17.out.cell 9).trans D9.out; have dt9 : ww17.cell? ⟨ww3.heap.size, 0, none⟩ = some (.func (.func 22) #[] #[.pointer (some ⟨ww2.heap.size, 0, none⟩)]) := HL17.out.rt.cell 0; clear hl hn hg))
  rw [rounds_succ]
  go_wp2_with (first
    | (go_at_call 22; (with_reducible refine (met_tell_any ww5.heap.size ww2.heap.size ww3.heap.size _ _ 110 ac 0 ww17 HL17.out (by simp only [List.length_append, List.length_cons, List.length_nil]; have := more_length 111 0 a2; have := more_length 111 1 b2; have := more_length 111 2 c2;  omega)).mono ?_); rintro e ww18 ⟨rfl, V18, hl, hn, hg⟩; have HL18 := Lib.hid hl; have TM18 := Lib.hid (hg.row TM17.out NG.out (HL17.out.far BM.out)); have B18 : Hid (Below w.heap.size w ww18) := Lib.hid (B17.out.trans (hg.below HL17.out BB.out BG.out)); have d10 := (TM18.out.cell 10).trans D10.out; clear hl hn hg)
    | (go_at_call 23; (with_reducible refine (met_more_any ww5.heap.size ww2.heap.size ww3.heap.size _ _ 8 0 fl ww18 HL18.out (by simp only [List.length_append, List.length_cons, List.length_nil]; have := more_length 111 0 a2; have := more_length 111 1 b2; have := more_length 111 2 c2;  omega)).mono ?_); rintro e ww19 ⟨rfl, V19, hl, hn, hg⟩; have HL19 := Lib.hid hl; have TM19 := Lib.hid (hg.row TM18.out NG.out (HL18.out.far BM.out)); have B19 : Hid (Below w.heap.size w ww19) := Lib.hid (B18.out.trans (hg.below HL18.out BB.out BG.out)); have d11 := (TM19.out.cell 11).trans D11.out; clear hl hn hg)
    | (go_at_call 23; (with_reducible refine (met_more_any ww5.heap.size ww2.heap.size ww3.heap.size _ _ 9 0 cu ww19 HL19.out (by simp only [List.length_append, List.length_cons, List.length_nil]; have := more_length 111 0 a2; have := more_length 111 1 b2; have := more_length 111 2 c2; have := more_length 8 0 fl;  omega)).mono ?_); rintro e ww20 ⟨rfl, V20, hl, hn, hg⟩; have HL20 := Lib.hid hl; have TM20 := Lib.hid (hg.row TM19.out NG.out (HL19.out.far BM.out)); have B20 : Hid (Below w.heap.size w ww20) := Lib.hid (B19.out.trans (hg.below HL19.out BB.out BG.out)); have d12 := (TM20.out.cell 12).trans D12.out; clear hl hn hg)
    | (go_at_call 23; (with_reducible refine (met_more_any ww5.heap.size ww2.heap.size ww3.heap.size _ _ 10 0 nt ww20 HL20.out (by simp only [List.length_append, List.length_cons, List.length_nil]; have := more_length 111 0 a2; have := more_length 111 1 b2; have := more_length 111 2 c2; have := more_length 8 0 fl; have := more_length 9 0 cu;  omega)).mono ?_); rintro e ww21 ⟨rfl, V21, hl, hn, hg⟩; have HL21 := Lib.hid hl; have TM21 := Lib.hid (hg.row TM20.out NG.out (HL20.out.far BM.out)); have B21 : Hid (Below w.heap.size w ww21) := Lib.hid (B20.out.trans (hg.below HL20.out BB.out BG.out)); have dg : ww21.cell? ⟨ww2.heap.size, 0, none⟩ = some V21 := HL21.out.rg.cell 0; clear hl hn hg))
  go_ret
  exact ⟨_, _, rfl, BB.out, HL21.out.own, B21.out⟩
end Go.Proofs.Ytbpdnaiackfdmaa
