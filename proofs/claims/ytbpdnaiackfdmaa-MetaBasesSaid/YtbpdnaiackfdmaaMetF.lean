/- Do. -/
import Derived.Test.YtbpdnaiackfdmaaMetE
import Derived.Test.YtbpdnaiackfdmaaBuildP
import Derived.Test.YtbpdnaiackfdmaaResT
namespace Go.Proofs.Ytbpdnaiackfdmaa
open Go.RowKit MetMath
set_option linter.unusedVariables false
set_option maxRecDepth 100000

theorem zero_meta : ∀ u, (zeroValue 28).run Try.prog u = .ok (.agg (mcs ⟨⟨0, 0, 0⟩, ⟨0, 0, 0⟩, ⟨0, 0, 0⟩, 0, 0, 0, 0⟩).toArray) u := fun u => by kernel_rfl
theorem met_nil_eq (u : World) : (binOp .eql 1 .nilFunc .nilFunc).run Try.prog u = .ok (.bool true) u := by kernel_rfl
theorem met_func_eq (nf vb : Nat) (u : World) : (binOp .eql 1 (.func (.func nf) #[] #[.pointer (some ⟨vb, 0, none⟩)]) .nilFunc).run Try.prog u = .ok (.bool false) u := by kernel_rfl
theorem built_change (m : Mt) (k i n v : Int) : Try.prog.built 55 [(0, .agg (mcs m).toArray), (1, .agg (rcv k i n v).toArray)] = some (chg m k i n v).toArray := by kernel_rfl
set_option maxHeartbeats 1000000 in
theorem met_do_bad (m : Mt) (k i n v : Int) (w : World) (h : (!rOk k i n v || (ofS k && !isS i)) = true) : Calls Try.prog 8 #[.agg (mcs m).toArray, .agg (rcv k i n v).toArray] w fun e w' => e = .returned (.tuple #[.agg (mcs m).toArray, .int .i64 1]) ∧ Below w.heap.size w w' := by
  obtain ⟨ok, hok⟩ : ∃ x, rOk k i n v = x := ⟨_, rfl⟩
  obtain ⟨s1, hs1⟩ : ∃ x, isS i = x := ⟨_, rfl⟩
  obtain ⟨s2, hs2⟩ : ∃ x, ofS k = x := ⟨_, rfl⟩
  rw [hok, hs1, hs2] at h
  obtain ⟨Z, hZ⟩ : ∃ Z, mcs ⟨⟨0, 0, 0⟩, ⟨0, 0, 0⟩, ⟨0, 0, 0⟩, 0, 0, 0, 0⟩ = Z := ⟨_, rfl⟩
  have HZ : Hid (∀ u, (zeroValue 28).run Try.prog u = .ok (.agg Z.toArray) u) := Lib.hid (by rw [← hZ]; exact zero_meta)
  have HZL : Hid (Z.length = 13) := Lib.hid (by rw [← hZ]; rfl)
  have HB := Lib.hid (built_change m k i n v)
  have HRT : Hid (∀ u, Calls Try.prog 16 #[.agg (rcv k i n v).toArray] u fun e u' => e = .returned (.bool ok) ∧ Below u.heap.size u u') := Lib.hid fun u => by rw [← hok]; exact rec_right_any k i n v u
  have HIS : Hid (∀ u, Calls Try.prog 18 #[.int .i64 i] u fun e w' => e = .returned (.bool s1) ∧ w' = u) := Lib.hid fun u => by rw [← hs1]; exact met_isSlot_any i u
  have HOF : Hid (∀ u, Calls Try.prog 17 #[.int .i64 k] u fun e w' => e = .returned (.bool s2) ∧ w' = u) := Lib.hid fun u => by rw [← hs2]; exact met_ofSlot_any k u
  obtain ⟨Y, hY⟩ : ∃ Y, rcv k i n v = Y := ⟨_, rfl⟩
  have HYL : Hid (Y.length = 4) := Lib.hid (by rw [← hY]; rfl)
  have HY0 : Hid (Y[0]? = some (.int .i64 k)) := Lib.hid (by rw [← hY]; rfl)
  have HY1 : Hid (Y[1]? = some (.int .i64 i)) := Lib.hid (by rw [← hY]; rfl)
  obtain ⟨X, hX⟩ : ∃ X, mcs m = X := ⟨_, rfl⟩
  have HXL : Hid (X.length = 13) := Lib.hid (by rw [← hX]; rfl)
  have HXO : Hid (X.all (·.oneCell') = true) := Lib.hid (by rw [← hX]; rfl)
  rw [hX, hY]
  rw [hX, hY] at HB
  rw [hY] at HRT
  clear hX hY hZ hok hs1 hs2 HB
  cases ok with
  | false =>
    clear h HOF HIS
    go_enter Try.func8, Try.ntmps8
    go_wp2_with (first
    | ((with_reducible refine wpBoxK X 28 ?_ ?_); rfl; intro u1 r1 b1 s1; have R1 := Lib.hid r1; have B1 := Lib.hid b1; have S1 : Hid (u1.heap.size = w.heap.size + 1) := Lib.hid s1; clear r1 b1 s1)
    | ((with_reducible refine wpBoxK (w := u1) Y 31 ?_ ?_); rfl; intro u2 r2 b2 s2; have M2 := Lib.hid (R1.out.step b2); have R2 := Lib.hid r2; have B2 := Lib.hid (B1.out.next b2); have S2 : Hid (u2.heap.size = u1.heap.size + 1) := Lib.hid s2; clear r2 b2 s2)
    | ((with_reducible refine wpAllocK (w := u2) Z 28 HZ.out ?_ ?_); rfl; intro u3 r3 b3 s3; have M3 := Lib.hid (M2.out.step b3); have Y3 := Lib.hid (R2.out.step b3); have Z3 := Lib.hid r3; have B3 := Lib.hid (B2.out.next b3); clear r3 b3 s3)
    | ((with_reducible refine Y3.out.wpLoadK 31 fits_rec HYL.out ?_ ?_); rfl)
    | (go_at_call 16; (with_reducible refine (HRT.out u3).mono ?_); rintro e u4 ⟨rfl, b4⟩; have M4 := Lib.hid (M3.out.step b4); have Y4 := Lib.hid (Y3.out.step b4); have Z4 := Lib.hid (Z3.out.step b4); have B4 := Lib.hid (B3.out.next b4); have y0 := ((Y3.out.step b4).cell 0).trans HY0.out; have y1 := ((Y3.out.step b4).cell 1).trans HY1.out; clear b4)
    | ((with_reducible refine M4.out.wpLoadK 28 fits_meta HXL.out ?_ ?_); rfl)
    | ((with_reducible refine Z4.out.wpStoreK 28 X fits_meta HZL.out HXL.out HXO.out ?_ ?_); rfl; intro u7 r7 o7 s7; have R7 := Lib.hid r7; have B7 : Hid (Below w.heap.size w u7) := Lib.hid (B4.out.trans (o7.below (Nat.le_trans B2.out.size (Nat.le_refl _)) B4.out.size)); clear r7 o7 s7))
    exact bodyPost_ret (R7.out.resultT rfl _ _ rfl Try.underlying28 rfl (by rw [HXL.out]; exact fits_meta.size)) rfl ⟨rfl, B7.out⟩
  | true =>
    cases s2 with
    | false => exact absurd h (by cases s1 <;> decide)
    | true =>
      cases s1 with
      | true => exact absurd h (by decide)
      | false =>
        clear h
        go_enter Try.func8, Try.ntmps8
        go_wp2_with (first
    | ((with_reducible refine wpBoxK X 28 ?_ ?_); rfl; intro u1 r1 b1 s1; have R1 := Lib.hid r1; have B1 := Lib.hid b1; have S1 : Hid (u1.heap.size = w.heap.size + 1) := Lib.hid s1; clear r1 b1 s1)
    | ((with_reducible refine wpBoxK (w := u1) Y 31 ?_ ?_); rfl; intro u2 r2 b2 s2; have M2 := Lib.hid (R1.out.step b2); have R2 := Lib.hid r2; have B2 := Lib.hid (B1.out.next b2); have S2 : Hid (u2.heap.size = u1.heap.size + 1) := Lib.hid s2; clear r2 b2 s2)
    | ((with_reducible refine wpAllocK (w := u2) Z 28 HZ.out ?_ ?_); rfl; intro u3 r3 b3 s3; have M3 := Lib.hid (M2.out.step b3); have Y3 := Lib.hid (R2.out.step b3); have Z3 := Lib.hid r3; have B3 := Lib.hid (B2.out.next b3); clear r3 b3 s3)
    | ((with_reducible refine Y3.out.wpLoadK 31 fits_rec HYL.out ?_ ?_); rfl)
    | (go_at_call 16; (with_reducible refine (HRT.out u3).mono ?_); rintro e u4 ⟨rfl, b4⟩; have M4 := Lib.hid (M3.out.step b4); have Y4 := Lib.hid (Y3.out.step b4); have Z4 := Lib.hid (Z3.out.step b4); have B4 := Lib.hid (B3.out.next b4); have y0 := ((Y3.out.step b4).cell 0).trans HY0.out; have y1 := ((Y3.out.step b4).cell 1).trans HY1.out; clear b4)
    | (go_at_call 17; (with_reducible refine (HOF.out u4).mono ?_); rintro e u5 ⟨rfl, hu5⟩; obtain rfl := hu5.symm)
    | (go_at_call 18; (with_reducible refine (HIS.out u4).mono ?_); rintro e u6 ⟨rfl, hu6⟩; obtain rfl := hu6.symm)
    | ((with_reducible refine M4.out.wpLoadK 28 fits_meta HXL.out ?_ ?_); rfl)
    | ((with_reducible refine Z4.out.wpStoreK 28 X fits_meta HZL.out HXL.out HXO.out ?_ ?_); rfl; intro u7 r7 o7 s7; have R7 := Lib.hid r7; have B7 : Hid (Below w.heap.size w u7) := Lib.hid (B4.out.trans (o7.below (Nat.le_trans B2.out.size (Nat.le_refl _)) B4.out.size)); clear r7 o7 s7))
        exact bodyPost_ret (R7.out.resultT rfl _ _ rfl Try.underlying28 rfl (by rw [HXL.out]; exact fits_meta.size)) rfl ⟨rfl, B7.out⟩
set_option maxHeartbeats 1000000 in
theorem met_do_none (m : Mt) (k i n v : Int) (w : World) (hr : NoRule 19 m k i n v) (h : (!rOk k i n v || (ofS k && !isS i)) = false) : Calls Try.prog 8 #[.agg (mcs m).toArray, .agg (rcv k i n v).toArray] w fun e w' => e = .returned (.tuple #[.agg (mcs m).toArray, .int .i64 1]) ∧ Below w.heap.size w w' := by
  obtain ⟨ok, hok⟩ : ∃ x, rOk k i n v = x := ⟨_, rfl⟩
  obtain ⟨s1, hs1⟩ : ∃ x, isS i = x := ⟨_, rfl⟩
  obtain ⟨s2, hs2⟩ : ∃ x, ofS k = x := ⟨_, rfl⟩
  rw [hok, hs1, hs2] at h
  obtain ⟨C, hC⟩ : ∃ C, chg m k i n v = C := ⟨_, rfl⟩
  have HRU : Hid (∀ u g, Row u g 55 C → Calls Try.prog 19 #[.pointer (some ⟨g, 0, none⟩)] u fun e w' => e = .returned (.tuple #[.bool false, .nilFunc]) ∧ Below u.heap.size u w') := Lib.hid fun u g hu => hr u g (by rw [hC]; exact hu)
  obtain ⟨Z, hZ⟩ : ∃ Z, mcs ⟨⟨0, 0, 0⟩, ⟨0, 0, 0⟩, ⟨0, 0, 0⟩, 0, 0, 0, 0⟩ = Z := ⟨_, rfl⟩
  have HZ : Hid (∀ u, (zeroValue 28).run Try.prog u = .ok (.agg Z.toArray) u) := Lib.hid (by rw [← hZ]; exact zero_meta)
  have HZL : Hid (Z.length = 13) := Lib.hid (by rw [← hZ]; rfl)
  have HB := Lib.hid (built_change m k i n v)
  have HRT : Hid (∀ u, Calls Try.prog 16 #[.agg (rcv k i n v).toArray] u fun e u' => e = .returned (.bool ok) ∧ Below u.heap.size u u') := Lib.hid fun u => by rw [← hok]; exact rec_right_any k i n v u
  have HIS : Hid (∀ u, Calls Try.prog 18 #[.int .i64 i] u fun e w' => e = .returned (.bool s1) ∧ w' = u) := Lib.hid fun u => by rw [← hs1]; exact met_isSlot_any i u
  have HOF : Hid (∀ u, Calls Try.prog 17 #[.int .i64 k] u fun e w' => e = .returned (.bool s2) ∧ w' = u) := Lib.hid fun u => by rw [← hs2]; exact met_ofSlot_any k u
  obtain ⟨Y, hY⟩ : ∃ Y, rcv k i n v = Y := ⟨_, rfl⟩
  have HYL : Hid (Y.length = 4) := Lib.hid (by rw [← hY]; rfl)
  have HY0 : Hid (Y[0]? = some (.int .i64 k)) := Lib.hid (by rw [← hY]; rfl)
  have HY1 : Hid (Y[1]? = some (.int .i64 i)) := Lib.hid (by rw [← hY]; rfl)
  obtain ⟨X, hX⟩ : ∃ X, mcs m = X := ⟨_, rfl⟩
  have HXL : Hid (X.length = 13) := Lib.hid (by rw [← hX]; rfl)
  have HXO : Hid (X.all (·.oneCell') = true) := Lib.hid (by rw [← hX]; rfl)
  rw [hX, hY]
  rw [hX, hY, hC] at HB
  rw [hY] at HRT
  clear hX hY hZ hok hs1 hs2 hC hr
  cases ok with
  | false => exact absurd h (by simp)
  | true =>
    have hne := met_nil_eq
    cases s2 with
    | false =>
      clear h
      go_enter Try.func8, Try.ntmps8
      go_wp2_with (first
    | ((with_reducible refine wpBoxK X 28 ?_ ?_); rfl; intro u1 r1 b1 s1; have R1 := Lib.hid r1; have B1 := Lib.hid b1; have S1 : Hid (u1.heap.size = w.heap.size + 1) := Lib.hid s1; clear r1 b1 s1)
    | ((with_reducible refine wpBoxK (w := u1) Y 31 ?_ ?_); rfl; intro u2 r2 b2 s2; have M2 := Lib.hid (R1.out.step b2); have R2 := Lib.hid r2; have B2 := Lib.hid (B1.out.next b2); have S2 : Hid (u2.heap.size = u1.heap.size + 1) := Lib.hid s2; clear r2 b2 s2)
    | ((with_reducible refine wpAllocK (w := u2) Z 28 HZ.out ?_ ?_); rfl; intro u3 r3 b3 s3; have M3 := Lib.hid (M2.out.step b3); have Y3 := Lib.hid (R2.out.step b3); have Z3 := Lib.hid r3; have B3 := Lib.hid (B2.out.next b3); clear r3 b3 s3)
    | ((with_reducible refine Y3.out.wpLoadK 31 fits_rec HYL.out ?_ ?_); rfl)
    | (go_at_call 16; (with_reducible refine (HRT.out u3).mono ?_); rintro e u4 ⟨rfl, b4⟩; have M4 := Lib.hid (M3.out.step b4); have Y4 := Lib.hid (Y3.out.step b4); have Z4 := Lib.hid (Z3.out.step b4); have B4 := Lib.hid (B3.out.next b4); have y0 := ((Y3.out.step b4).cell 0).trans HY0.out; have y1 := ((Y3.out.step b4).cell 1).trans HY1.out; clear b4)
    | (go_at_call 17; (with_reducible refine (HOF.out u4).mono ?_); rintro e u5 ⟨rfl, hu5⟩; obtain rfl := hu5.symm)
    | (go_at_call 18; (with_reducible refine (HIS.out u4).mono ?_); rintro e u6 ⟨rfl, hu6⟩; obtain rfl := hu6.symm)
    | ((with_reducible refine M4.out.wpLoadK 28 fits_meta HXL.out ?_ ?_); rfl)
    | ((with_reducible refine Y4.out.wpLoadK 31 fits_rec HYL.out ?_ ?_); rfl)
    | ((with_reducible refine wpBuildPK C 55 [(0, .agg X.toArray), (1, .agg Y.toArray)] HB.out ?_ ?_); rfl)
    | ((with_reducible refine wpBoxK (w := u4) C 55 ?_ ?_); rfl; intro u7 r7 b7 s7; have M7 := Lib.hid (M4.out.step b7); have Z7 := Lib.hid (Z4.out.step b7); have C7 := Lib.hid r7; have B7 := Lib.hid (B4.out.next b7); have G7 : Hid (u4.heap.size < u7.heap.size) := Lib.hid (by rw [s7]; exact Nat.lt_succ_self _); clear r7 b7 s7)
    | (go_at_call 19; (with_reducible refine (HRU.out u7 _ C7.out).mono ?_); rintro e u8 ⟨rfl, b8⟩; have M8 := Lib.hid (M7.out.step b8); have Z8 := Lib.hid (Z7.out.step b8); have B8 := Lib.hid (B7.out.next b8); clear b8)
    | ((with_reducible refine M8.out.wpLoadK 28 fits_meta HXL.out ?_ ?_); rfl)
    | ((with_reducible refine Z8.out.wpStoreK 28 X fits_meta HZL.out HXL.out HXO.out ?_ ?_); rfl; intro u10 r10 o10 s10; have R10 := Lib.hid r10; have B10 : Hid (Below w.heap.size w u10) := Lib.hid (B8.out.trans (o10.below (Nat.le_trans B2.out.size (Nat.le_refl _)) B8.out.size)); clear r10 o10 s10))
      exact bodyPost_ret (R10.out.resultT rfl _ _ rfl Try.underlying28 rfl (by rw [HXL.out]; exact fits_meta.size)) rfl ⟨rfl, B10.out⟩
    | true =>
      cases s1 with
      | false => exact absurd h (by decide)
      | true =>
        clear h
        go_enter Try.func8, Try.ntmps8
        go_wp2_with (first
    | ((with_reducible refine wpBoxK X 28 ?_ ?_); rfl; intro u1 r1 b1 s1; have R1 := Lib.hid r1; have B1 := Lib.hid b1; have S1 : Hid (u1.heap.size = w.heap.size + 1) := Lib.hid s1; clear r1 b1 s1)
    | ((with_reducible refine wpBoxK (w := u1) Y 31 ?_ ?_); rfl; intro u2 r2 b2 s2; have M2 := Lib.hid (R1.out.step b2); have R2 := Lib.hid r2; have B2 := Lib.hid (B1.out.next b2); have S2 : Hid (u2.heap.size = u1.heap.size + 1) := Lib.hid s2; clear r2 b2 s2)
    | ((with_reducible refine wpAllocK (w := u2) Z 28 HZ.out ?_ ?_); rfl; intro u3 r3 b3 s3; have M3 := Lib.hid (M2.out.step b3); have Y3 := Lib.hid (R2.out.step b3); have Z3 := Lib.hid r3; have B3 := Lib.hid (B2.out.next b3); clear r3 b3 s3)
    | ((with_reducible refine Y3.out.wpLoadK 31 fits_rec HYL.out ?_ ?_); rfl)
    | (go_at_call 16; (with_reducible refine (HRT.out u3).mono ?_); rintro e u4 ⟨rfl, b4⟩; have M4 := Lib.hid (M3.out.step b4); have Y4 := Lib.hid (Y3.out.step b4); have Z4 := Lib.hid (Z3.out.step b4); have B4 := Lib.hid (B3.out.next b4); have y0 := ((Y3.out.step b4).cell 0).trans HY0.out; have y1 := ((Y3.out.step b4).cell 1).trans HY1.out; clear b4)
    | (go_at_call 17; (with_reducible refine (HOF.out u4).mono ?_); rintro e u5 ⟨rfl, hu5⟩; obtain rfl := hu5.symm)
    | (go_at_call 18; (with_reducible refine (HIS.out u4).mono ?_); rintro e u6 ⟨rfl, hu6⟩; obtain rfl := hu6.symm)
    | ((with_reducible refine M4.out.wpLoadK 28 fits_meta HXL.out ?_ ?_); rfl)
    | ((with_reducible refine Y4.out.wpLoadK 31 fits_rec HYL.out ?_ ?_); rfl)
    | ((with_reducible refine wpBuildPK C 55 [(0, .agg X.toArray), (1, .agg Y.toArray)] HB.out ?_ ?_); rfl)
    | ((with_reducible refine wpBoxK (w := u4) C 55 ?_ ?_); rfl; intro u7 r7 b7 s7; have M7 := Lib.hid (M4.out.step b7); have Z7 := Lib.hid (Z4.out.step b7); have C7 := Lib.hid r7; have B7 := Lib.hid (B4.out.next b7); have G7 : Hid (u4.heap.size < u7.heap.size) := Lib.hid (by rw [s7]; exact Nat.lt_succ_self _); clear r7 b7 s7)
    | (go_at_call 19; (with_reducible refine (HRU.out u7 _ C7.out).mono ?_); rintro e u8 ⟨rfl, b8⟩; have M8 := Lib.hid (M7.out.step b8); have Z8 := Lib.hid (Z7.out.step b8); have B8 := Lib.hid (B7.out.next b8); clear b8)
    | ((with_reducible refine M8.out.wpLoadK 28 fits_meta HXL.out ?_ ?_); rfl)
    | ((with_reducible refine Z8.out.wpStoreK 28 X fits_meta HZL.out HXL.out HXO.out ?_ ?_); rfl; intro u10 r10 o10 s10; have R10 := Lib.hid r10; have B10 : Hid (Below w.heap.size w u10) := Lib.hid (B8.out.trans (o10.below (Nat.le_trans B2.out.size (Nat.le_refl _)) B8.out.size)); clear r10 o10 s10))
        exact bodyPost_ret (R10.out.resultT rfl _ _ rfl Try.underlying28 rfl (by rw [HXL.out]; exact fits_meta.size)) rfl ⟨rfl, B10.out⟩
set_option maxHeartbeats 1000000 in
theorem met_do_not (m : Mt) (k i n v : Int) (w : World) (nf : Nat) (hr : Rule 19 nf m k i n v false) (h : (!rOk k i n v || (ofS k && !isS i)) = false) : Calls Try.prog 8 #[.agg (mcs m).toArray, .agg (rcv k i n v).toArray] w fun e w' => e = .returned (.tuple #[.agg (mcs m).toArray, .int .i64 10]) ∧ Below w.heap.size w w' := by
  obtain ⟨ok, hok⟩ : ∃ x, rOk k i n v = x := ⟨_, rfl⟩
  obtain ⟨s1, hs1⟩ : ∃ x, isS i = x := ⟨_, rfl⟩
  obtain ⟨s2, hs2⟩ : ∃ x, ofS k = x := ⟨_, rfl⟩
  rw [hok, hs1, hs2] at h
  obtain ⟨C, hC⟩ : ∃ C, chg m k i n v = C := ⟨_, rfl⟩
  have HRU : Hid (∀ u g, Row u g 55 C → Calls Try.prog 19 #[.pointer (some ⟨g, 0, none⟩)] u fun e w' => ∃ vb, e = .returned (.tuple #[.bool false, .func (.func nf) #[] #[.pointer (some ⟨vb, 0, none⟩)]]) ∧ u.heap.size ≤ vb ∧ vb < w'.heap.size ∧ w'.cell? ⟨vb, 0, none⟩ = some (.pointer (some ⟨g, 0, none⟩)) ∧ Below u.heap.size u w') := Lib.hid fun u g hu => hr u g (by rw [hC]; exact hu)
  obtain ⟨Z, hZ⟩ : ∃ Z, mcs ⟨⟨0, 0, 0⟩, ⟨0, 0, 0⟩, ⟨0, 0, 0⟩, 0, 0, 0, 0⟩ = Z := ⟨_, rfl⟩
  have HZ : Hid (∀ u, (zeroValue 28).run Try.prog u = .ok (.agg Z.toArray) u) := Lib.hid (by rw [← hZ]; exact zero_meta)
  have HZL : Hid (Z.length = 13) := Lib.hid (by rw [← hZ]; rfl)
  have HB := Lib.hid (built_change m k i n v)
  have HRT : Hid (∀ u, Calls Try.prog 16 #[.agg (rcv k i n v).toArray] u fun e u' => e = .returned (.bool ok) ∧ Below u.heap.size u u') := Lib.hid fun u => by rw [← hok]; exact rec_right_any k i n v u
  have HIS : Hid (∀ u, Calls Try.prog 18 #[.int .i64 i] u fun e w' => e = .returned (.bool s1) ∧ w' = u) := Lib.hid fun u => by rw [← hs1]; exact met_isSlot_any i u
  have HOF : Hid (∀ u, Calls Try.prog 17 #[.int .i64 k] u fun e w' => e = .returned (.bool s2) ∧ w' = u) := Lib.hid fun u => by rw [← hs2]; exact met_ofSlot_any k u
  obtain ⟨Y, hY⟩ : ∃ Y, rcv k i n v = Y := ⟨_, rfl⟩
  have HYL : Hid (Y.length = 4) := Lib.hid (by rw [← hY]; rfl)
  have HY0 : Hid (Y[0]? = some (.int .i64 k)) := Lib.hid (by rw [← hY]; rfl)
  have HY1 : Hid (Y[1]? = some (.int .i64 i)) := Lib.hid (by rw [← hY]; rfl)
  obtain ⟨X, hX⟩ : ∃ X, mcs m = X := ⟨_, rfl⟩
  have HXL : Hid (X.length = 13) := Lib.hid (by rw [← hX]; rfl)
  have HXO : Hid (X.all (·.oneCell') = true) := Lib.hid (by rw [← hX]; rfl)
  rw [hX, hY]
  rw [hX, hY, hC] at HB
  rw [hY] at HRT
  clear hX hY hZ hok hs1 hs2 hC hr
  cases ok with
  | false => exact absurd h (by simp)
  | true =>
    have hfe := met_func_eq nf
    cases s2 with
    | false =>
      clear h
      go_enter Try.func8, Try.ntmps8
      go_wp2_with (first
    | ((with_reducible refine wpBoxK X 28 ?_ ?_); rfl; intro u1 r1 b1 s1; have R1 := Lib.hid r1; have B1 := Lib.hid b1; have S1 : Hid (u1.heap.size = w.heap.size + 1) := Lib.hid s1; clear r1 b1 s1)
    | ((with_reducible refine wpBoxK (w := u1) Y 31 ?_ ?_); rfl; intro u2 r2 b2 s2; have M2 := Lib.hid (R1.out.step b2); have R2 := Lib.hid r2; have B2 := Lib.hid (B1.out.next b2); have S2 : Hid (u2.heap.size = u1.heap.size + 1) := Lib.hid s2; clear r2 b2 s2)
    | ((with_reducible refine wpAllocK (w := u2) Z 28 HZ.out ?_ ?_); rfl; intro u3 r3 b3 s3; have M3 := Lib.hid (M2.out.step b3); have Y3 := Lib.hid (R2.out.step b3); have Z3 := Lib.hid r3; have B3 := Lib.hid (B2.out.next b3); clear r3 b3 s3)
    | ((with_reducible refine Y3.out.wpLoadK 31 fits_rec HYL.out ?_ ?_); rfl)
    | (go_at_call 16; (with_reducible refine (HRT.out u3).mono ?_); rintro e u4 ⟨rfl, b4⟩; have M4 := Lib.hid (M3.out.step b4); have Y4 := Lib.hid (Y3.out.step b4); have Z4 := Lib.hid (Z3.out.step b4); have B4 := Lib.hid (B3.out.next b4); have y0 := ((Y3.out.step b4).cell 0).trans HY0.out; have y1 := ((Y3.out.step b4).cell 1).trans HY1.out; clear b4)
    | (go_at_call 17; (with_reducible refine (HOF.out u4).mono ?_); rintro e u5 ⟨rfl, hu5⟩; obtain rfl := hu5.symm)
    | (go_at_call 18; (with_reducible refine (HIS.out u4).mono ?_); rintro e u6 ⟨rfl, hu6⟩; obtain rfl := hu6.symm)
    | ((with_reducible refine M4.out.wpLoadK 28 fits_meta HXL.out ?_ ?_); rfl)
    | ((with_reducible refine Y4.out.wpLoadK 31 fits_rec HYL.out ?_ ?_); rfl)
    | ((with_reducible refine wpBuildPK C 55 [(0, .agg X.toArray), (1, .agg Y.toArray)] HB.out ?_ ?_); rfl)
    | ((with_reducible refine wpBoxK (w := u4) C 55 ?_ ?_); rfl; intro u7 r7 b7 s7; have M7 := Lib.hid (M4.out.step b7); have Z7 := Lib.hid (Z4.out.step b7); have C7 := Lib.hid r7; have B7 := Lib.hid (B4.out.next b7); have G7 : Hid (u4.heap.size < u7.heap.size) := Lib.hid (by rw [s7]; exact Nat.lt_succ_self _); clear r7 b7 s7)
    | (go_at_call 19; (with_reducible refine (HRU.out u7 _ C7.out).mono ?_); rintro e u8 ⟨vb, rfl, v1, v2, v3, b8⟩; have M8 := Lib.hid (M7.out.step b8); have Z8 := Lib.hid (Z7.out.step b8); have C8 := Lib.hid (C7.out.step b8); have B8 := Lib.hid (B7.out.next b8); have V1 := Lib.hid v1; have V2 := Lib.hid v2; have V3 := Lib.hid v3; clear b8 v1 v2 v3)
    | ((with_reducible refine M8.out.wpLoadK 28 fits_meta HXL.out ?_ ?_); rfl)
    | ((with_reducible refine Z8.out.wpStoreK 28 X fits_meta HZL.out HXL.out HXO.out ?_ ?_); rfl; intro u10 r10 o10 s10; have R10 := Lib.hid r10; have B10 : Hid (Below w.heap.size w u10) := Lib.hid (B8.out.trans (o10.below (Nat.le_trans B2.out.size (Nat.le_refl _)) B8.out.size)); clear r10 o10 s10))
      exact bodyPost_ret (R10.out.resultT rfl _ _ rfl Try.underlying28 rfl (by rw [HXL.out]; exact fits_meta.size)) rfl ⟨rfl, B10.out⟩
    | true =>
      cases s1 with
      | false => exact absurd h (by decide)
      | true =>
        clear h
        go_enter Try.func8, Try.ntmps8
        go_wp2_with (first
    | ((with_reducible refine wpBoxK X 28 ?_ ?_); rfl; intro u1 r1 b1 s1; have R1 := Lib.hid r1; have B1 := Lib.hid b1; have S1 : Hid (u1.heap.size = w.heap.size + 1) := Lib.hid s1; clear r1 b1 s1)
    | ((with_reducible refine wpBoxK (w := u1) Y 31 ?_ ?_); rfl; intro u2 r2 b2 s2; have M2 := Lib.hid (R1.out.step b2); have R2 := Lib.hid r2; have B2 := Lib.hid (B1.out.next b2); have S2 : Hid (u2.heap.size = u1.heap.size + 1) := Lib.hid s2; clear r2 b2 s2)
    | ((with_reducible refine wpAllocK (w := u2) Z 28 HZ.out ?_ ?_); rfl; intro u3 r3 b3 s3; have M3 := Lib.hid (M2.out.step b3); have Y3 := Lib.hid (R2.out.step b3); have Z3 := Lib.hid r3; have B3 := Lib.hid (B2.out.next b3); clear r3 b3 s3)
    | ((with_reducible refine Y3.out.wpLoadK 31 fits_rec HYL.out ?_ ?_); rfl)
    | (go_at_call 16; (with_reducible refine (HRT.out u3).mono ?_); rintro e u4 ⟨rfl, b4⟩; have M4 := Lib.hid (M3.out.step b4); have Y4 := Lib.hid (Y3.out.step b4); have Z4 := Lib.hid (Z3.out.step b4); have B4 := Lib.hid (B3.out.next b4); have y0 := ((Y3.out.step b4).cell 0).trans HY0.out; have y1 := ((Y3.out.step b4).cell 1).trans HY1.out; clear b4)
    | (go_at_call 17; (with_reducible refine (HOF.out u4).mono ?_); rintro e u5 ⟨rfl, hu5⟩; obtain rfl := hu5.symm)
    | (go_at_call 18; (with_reducible refine (HIS.out u4).mono ?_); rintro e u6 ⟨rfl, hu6⟩; obtain rfl := hu6.symm)
    | ((with_reducible refine M4.out.wpLoadK 28 fits_meta HXL.out ?_ ?_); rfl)
    | ((with_reducible refine Y4.out.wpLoadK 31 fits_rec HYL.out ?_ ?_); rfl)
    | ((with_reducible refine wpBuildPK C 55 [(0, .agg X.toArray), (1, .agg Y.toArray)] HB.out ?_ ?_); rfl)
    | ((with_reducible refine wpBoxK (w := u4) C 55 ?_ ?_); rfl; intro u7 r7 b7 s7; have M7 := Lib.hid (M4.out.step b7); have Z7 := Lib.hid (Z4.out.step b7); have C7 := Lib.hid r7; have B7 := Lib.hid (B4.out.next b7); have G7 : Hid (u4.heap.size < u7.heap.size) := Lib.hid (by rw [s7]; exact Nat.lt_succ_self _); clear r7 b7 s7)
    | (go_at_call 19; (with_reducible refine (HRU.out u7 _ C7.out).mono ?_); rintro e u8 ⟨vb, rfl, v1, v2, v3, b8⟩; have M8 := Lib.hid (M7.out.step b8); have Z8 := Lib.hid (Z7.out.step b8); have C8 := Lib.hid (C7.out.step b8); have B8 := Lib.hid (B7.out.next b8); have V1 := Lib.hid v1; have V2 := Lib.hid v2; have V3 := Lib.hid v3; clear b8 v1 v2 v3)
    | ((with_reducible refine M8.out.wpLoadK 28 fits_meta HXL.out ?_ ?_); rfl)
    | ((with_reducible refine Z8.out.wpStoreK 28 X fits_meta HZL.out HXL.out HXO.out ?_ ?_); rfl; intro u10 r10 o10 s10; have R10 := Lib.hid r10; have B10 : Hid (Below w.heap.size w u10) := Lib.hid (B8.out.trans (o10.below (Nat.le_trans B2.out.size (Nat.le_refl _)) B8.out.size)); clear r10 o10 s10))
        exact bodyPost_ret (R10.out.resultT rfl _ _ rfl Try.underlying28 rfl (by rw [HXL.out]; exact fits_meta.size)) rfl ⟨rfl, B10.out⟩
set_option maxHeartbeats 1000000 in
theorem met_do_yes (m : Mt) (k i n v : Int) (w : World) (nf : Nat) (m' : Mt) (hr : Rule 19 nf m k i n v true) (hd : Does nf m k i n v m') (hcf : ∀ args u, (callFunc nf args).run Try.prog u = .ok (.enter nf args) u) (h : (!rOk k i n v || (ofS k && !isS i)) = false) : Calls Try.prog 8 #[.agg (mcs m).toArray, .agg (rcv k i n v).toArray] w fun e w' => e = .returned (.tuple #[.agg (mcs m').toArray, .int .i64 0]) ∧ Below w.heap.size w w' := by
  obtain ⟨ok, hok⟩ : ∃ x, rOk k i n v = x := ⟨_, rfl⟩
  obtain ⟨s1, hs1⟩ : ∃ x, isS i = x := ⟨_, rfl⟩
  obtain ⟨s2, hs2⟩ : ∃ x, ofS k = x := ⟨_, rfl⟩
  rw [hok, hs1, hs2] at h
  obtain ⟨C, hC⟩ : ∃ C, chg m k i n v = C := ⟨_, rfl⟩
  have HRU : Hid (∀ u g, Row u g 55 C → Calls Try.prog 19 #[.pointer (some ⟨g, 0, none⟩)] u fun e w' => ∃ vb, e = .returned (.tuple #[.bool true, .func (.func nf) #[] #[.pointer (some ⟨vb, 0, none⟩)]]) ∧ u.heap.size ≤ vb ∧ vb < w'.heap.size ∧ w'.cell? ⟨vb, 0, none⟩ = some (.pointer (some ⟨g, 0, none⟩)) ∧ Below u.heap.size u w') := Lib.hid fun u g hu => hr u g (by rw [hC]; exact hu)
  obtain ⟨X2, hX2⟩ : ∃ X, mcs m' = X := ⟨_, rfl⟩
  have HX2L : Hid (X2.length = 13) := Lib.hid (by rw [← hX2]; rfl)
  have HX2O : Hid (X2.all (·.oneCell') = true) := Lib.hid (by rw [← hX2]; rfl)
  have HDO : Hid (∀ u g vb, Row u g 55 C → u.cell? ⟨vb, 0, none⟩ = some (.pointer (some ⟨g, 0, none⟩)) → vb < u.heap.size → vb ≠ g → Calls Try.prog nf #[.pointer (some ⟨vb, 0, none⟩)] u fun e w' => e = .returned (.tuple #[]) ∧ Row w' g 55 ([] ++ X2 ++ rcv k i n v) ∧ Only g u w') := Lib.hid fun u g vb hu h1 h2 h3 => by rw [← hX2]; exact hd u g vb (by rw [hC]; exact hu) h1 h2 h3
  obtain ⟨Z, hZ⟩ : ∃ Z, mcs ⟨⟨0, 0, 0⟩, ⟨0, 0, 0⟩, ⟨0, 0, 0⟩, 0, 0, 0, 0⟩ = Z := ⟨_, rfl⟩
  have HZ : Hid (∀ u, (zeroValue 28).run Try.prog u = .ok (.agg Z.toArray) u) := Lib.hid (by rw [← hZ]; exact zero_meta)
  have HZL : Hid (Z.length = 13) := Lib.hid (by rw [← hZ]; rfl)
  have HB := Lib.hid (built_change m k i n v)
  have HRT : Hid (∀ u, Calls Try.prog 16 #[.agg (rcv k i n v).toArray] u fun e u' => e = .returned (.bool ok) ∧ Below u.heap.size u u') := Lib.hid fun u => by rw [← hok]; exact rec_right_any k i n v u
  have HIS : Hid (∀ u, Calls Try.prog 18 #[.int .i64 i] u fun e w' => e = .returned (.bool s1) ∧ w' = u) := Lib.hid fun u => by rw [← hs1]; exact met_isSlot_any i u
  have HOF : Hid (∀ u, Calls Try.prog 17 #[.int .i64 k] u fun e w' => e = .returned (.bool s2) ∧ w' = u) := Lib.hid fun u => by rw [← hs2]; exact met_ofSlot_any k u
  obtain ⟨Y, hY⟩ : ∃ Y, rcv k i n v = Y := ⟨_, rfl⟩
  have HYL : Hid (Y.length = 4) := Lib.hid (by rw [← hY]; rfl)
  have HY0 : Hid (Y[0]? = some (.int .i64 k)) := Lib.hid (by rw [← hY]; rfl)
  have HY1 : Hid (Y[1]? = some (.int .i64 i)) := Lib.hid (by rw [← hY]; rfl)
  obtain ⟨X, hX⟩ : ∃ X, mcs m = X := ⟨_, rfl⟩
  have HXL : Hid (X.length = 13) := Lib.hid (by rw [← hX]; rfl)
  have HXO : Hid (X.all (·.oneCell') = true) := Lib.hid (by rw [← hX]; rfl)
  rw [hX, hY, hX2]
  rw [hX, hY, hC] at HB
  rw [hY] at HRT HDO
  clear hX hY hZ hok hs1 hs2 hC hr hd hX2
  cases ok with
  | false => exact absurd h (by simp)
  | true =>
    have hfe := met_func_eq nf
    cases s2 with
    | false =>
      clear h
      go_enter Try.func8, Try.ntmps8
      go_wp2_with (first
    | ((with_reducible refine wpBoxK X 28 ?_ ?_); rfl; intro u1 r1 b1 s1; have R1 := Lib.hid r1; have B1 := Lib.hid b1; have S1 : Hid (u1.heap.size = w.heap.size + 1) := Lib.hid s1; clear r1 b1 s1)
    | ((with_reducible refine wpBoxK (w := u1) Y 31 ?_ ?_); rfl; intro u2 r2 b2 s2; have M2 := Lib.hid (R1.out.step b2); have R2 := Lib.hid r2; have B2 := Lib.hid (B1.out.next b2); have S2 : Hid (u2.heap.size = u1.heap.size + 1) := Lib.hid s2; clear r2 b2 s2)
    | ((with_reducible refine wpAllocK (w := u2) Z 28 HZ.out ?_ ?_); rfl; intro u3 r3 b3 s3; have M3 := Lib.hid (M2.out.step b3); have Y3 := Lib.hid (R2.out.step b3); have Z3 := Lib.hid r3; have B3 := Lib.hid (B2.out.next b3); clear r3 b3 s3)
    | ((with_reducible refine Y3.out.wpLoadK 31 fits_rec HYL.out ?_ ?_); rfl)
    | (go_at_call 16; (with_reducible refine (HRT.out u3).mono ?_); rintro e u4 ⟨rfl, b4⟩; have M4 := Lib.hid (M3.out.step b4); have Y4 := Lib.hid (Y3.out.step b4); have Z4 := Lib.hid (Z3.out.step b4); have B4 := Lib.hid (B3.out.next b4); have y0 := ((Y3.out.step b4).cell 0).trans HY0.out; have y1 := ((Y3.out.step b4).cell 1).trans HY1.out; clear b4)
    | (go_at_call 17; (with_reducible refine (HOF.out u4).mono ?_); rintro e u5 ⟨rfl, hu5⟩; obtain rfl := hu5.symm)
    | (go_at_call 18; (with_reducible refine (HIS.out u4).mono ?_); rintro e u6 ⟨rfl, hu6⟩; obtain rfl := hu6.symm)
    | ((with_reducible refine M4.out.wpLoadK 28 fits_meta HXL.out ?_ ?_); rfl)
    | ((with_reducible refine Y4.out.wpLoadK 31 fits_rec HYL.out ?_ ?_); rfl)
    | ((with_reducible refine wpBuildPK C 55 [(0, .agg X.toArray), (1, .agg Y.toArray)] HB.out ?_ ?_); rfl)
    | ((with_reducible refine wpBoxK (w := u4) C 55 ?_ ?_); rfl; intro u7 r7 b7 s7; have M7 := Lib.hid (M4.out.step b7); have Z7 := Lib.hid (Z4.out.step b7); have C7 := Lib.hid r7; have B7 := Lib.hid (B4.out.next b7); have G7 : Hid (u4.heap.size < u7.heap.size) := Lib.hid (by rw [s7]; exact Nat.lt_succ_self _); clear r7 b7 s7)
    | (go_at_call 19; (with_reducible refine (HRU.out u7 _ C7.out).mono ?_); rintro e u8 ⟨vb, rfl, v1, v2, v3, b8⟩; have M8 := Lib.hid (M7.out.step b8); have Z8 := Lib.hid (Z7.out.step b8); have C8 := Lib.hid (C7.out.step b8); have B8 := Lib.hid (B7.out.next b8); have V1 := Lib.hid v1; have V2 := Lib.hid v2; have V3 := Lib.hid v3; clear b8 v1 v2 v3)
    | ((with_reducible refine (HDO.out u8 _ vb C8.out V3.out V2.out (Nat.ne_of_gt (Nat.lt_of_lt_of_le G7.out V1.out))).mono ?_); rintro e u9 ⟨rfl, r9, o9⟩; have C9 := Lib.hid r9; have Z9 := Lib.hid (Z8.out.only o9 (Nat.ne_of_lt Z4.out.lt)); have B9 : Hid (Below w.heap.size w u9) := Lib.hid (B8.out.trans (o9.below B4.out.size B8.out.size)); clear r9 o9)
    | ((with_reducible refine C9.out.wpLoadMidK 0 rfl 28 fits_meta HX2L.out ?_ ?_); rfl)
    | ((with_reducible refine Z9.out.wpStoreK 28 X2 fits_meta HZL.out HX2L.out HX2O.out ?_ ?_); rfl; intro u10 r10 o10 s10; have R10 := Lib.hid r10; have B10 : Hid (Below w.heap.size w u10) := Lib.hid (B9.out.trans (o10.below (Nat.le_trans B2.out.size (Nat.le_refl _)) B9.out.size)); clear r10 o10 s10))
      exact bodyPost_ret (R10.out.resultT rfl _ _ rfl Try.underlying28 rfl (by rw [HX2L.out]; exact fits_meta.size)) rfl ⟨rfl, B10.out⟩
    | true =>
      cases s1 with
      | false => exact absurd h (by decide)
      | true =>
        clear h
        go_enter Try.func8, Try.ntmps8
        go_wp2_with (first
    | ((with_reducible refine wpBoxK X 28 ?_ ?_); rfl; intro u1 r1 b1 s1; have R1 := Lib.hid r1; have B1 := Lib.hid b1; have S1 : Hid (u1.heap.size = w.heap.size + 1) := Lib.hid s1; clear r1 b1 s1)
    | ((with_reducible refine wpBoxK (w := u1) Y 31 ?_ ?_); rfl; intro u2 r2 b2 s2; have M2 := Lib.hid (R1.out.step b2); have R2 := Lib.hid r2; have B2 := Lib.hid (B1.out.next b2); have S2 : Hid (u2.heap.size = u1.heap.size + 1) := Lib.hid s2; clear r2 b2 s2)
    | ((with_reducible refine wpAllocK (w := u2) Z 28 HZ.out ?_ ?_); rfl; intro u3 r3 b3 s3; have M3 := Lib.hid (M2.out.step b3); have Y3 := Lib.hid (R2.out.step b3); have Z3 := Lib.hid r3; have B3 := Lib.hid (B2.out.next b3); clear r3 b3 s3)
    | ((with_reducible refine Y3.out.wpLoadK 31 fits_rec HYL.out ?_ ?_); rfl)
    | (go_at_call 16; (with_reducible refine (HRT.out u3).mono ?_); rintro e u4 ⟨rfl, b4⟩; have M4 := Lib.hid (M3.out.step b4); have Y4 := Lib.hid (Y3.out.step b4); have Z4 := Lib.hid (Z3.out.step b4); have B4 := Lib.hid (B3.out.next b4); have y0 := ((Y3.out.step b4).cell 0).trans HY0.out; have y1 := ((Y3.out.step b4).cell 1).trans HY1.out; clear b4)
    | (go_at_call 17; (with_reducible refine (HOF.out u4).mono ?_); rintro e u5 ⟨rfl, hu5⟩; obtain rfl := hu5.symm)
    | (go_at_call 18; (with_reducible refine (HIS.out u4).mono ?_); rintro e u6 ⟨rfl, hu6⟩; obtain rfl := hu6.symm)
    | ((with_reducible refine M4.out.wpLoadK 28 fits_meta HXL.out ?_ ?_); rfl)
    | ((with_reducible refine Y4.out.wpLoadK 31 fits_rec HYL.out ?_ ?_); rfl)
    | ((with_reducible refine wpBuildPK C 55 [(0, .agg X.toArray), (1, .agg Y.toArray)] HB.out ?_ ?_); rfl)
    | ((with_reducible refine wpBoxK (w := u4) C 55 ?_ ?_); rfl; intro u7 r7 b7 s7; have M7 := Lib.hid (M4.out.step b7); have Z7 := Lib.hid (Z4.out.step b7); have C7 := Lib.hid r7; have B7 := Lib.hid (B4.out.next b7); have G7 : Hid (u4.heap.size < u7.heap.size) := Lib.hid (by rw [s7]; exact Nat.lt_succ_self _); clear r7 b7 s7)
    | (go_at_call 19; (with_reducible refine (HRU.out u7 _ C7.out).mono ?_); rintro e u8 ⟨vb, rfl, v1, v2, v3, b8⟩; have M8 := Lib.hid (M7.out.step b8); have Z8 := Lib.hid (Z7.out.step b8); have C8 := Lib.hid (C7.out.step b8); have B8 := Lib.hid (B7.out.next b8); have V1 := Lib.hid v1; have V2 := Lib.hid v2; have V3 := Lib.hid v3; clear b8 v1 v2 v3)
    | ((with_reducible refine (HDO.out u8 _ vb C8.out V3.out V2.out (Nat.ne_of_gt (Nat.lt_of_lt_of_le G7.out V1.out))).mono ?_); rintro e u9 ⟨rfl, r9, o9⟩; have C9 := Lib.hid r9; have Z9 := Lib.hid (Z8.out.only o9 (Nat.ne_of_lt Z4.out.lt)); have B9 : Hid (Below w.heap.size w u9) := Lib.hid (B8.out.trans (o9.below B4.out.size B8.out.size)); clear r9 o9)
    | ((with_reducible refine C9.out.wpLoadMidK 0 rfl 28 fits_meta HX2L.out ?_ ?_); rfl)
    | ((with_reducible refine Z9.out.wpStoreK 28 X2 fits_meta HZL.out HX2L.out HX2O.out ?_ ?_); rfl; intro u10 r10 o10 s10; have R10 := Lib.hid r10; have B10 : Hid (Below w.heap.size w u10) := Lib.hid (B9.out.trans (o10.below (Nat.le_trans B2.out.size (Nat.le_refl _)) B9.out.size)); clear r10 o10 s10))
        exact bodyPost_ret (R10.out.resultT rfl _ _ rfl Try.underlying28 rfl (by rw [HX2L.out]; exact fits_meta.size)) rfl ⟨rfl, B10.out⟩
end Go.Proofs.Ytbpdnaiackfdmaa
