/- MetaStays. -/
import Derived.Test.YtbpdnaiackfdmaaMetI
import Derived.Test.YtbpdnaiackfdmaaMetMath3
import Derived.Test.YtbpdnaiackfdmaaMetL
import Derived.Test.YtbpdnaiackfdmaaMetEq
import Derived.Test.YtbpdnaiackfdmaaLoadMG
namespace Go.Proofs.Ytbpdnaiackfdmaa
open Go.RowKit MetMath
set_option linter.unusedVariables false
set_option maxRecDepth 100000

set_option maxHeartbeats 4000000 in
theorem metaStays_walk (a : Option Addr) (n cap : Nat) (L : List Rc) (w : World) (hn : L.length = n) (hr : Lies w w.heap.size a (rcs L)) :
    Calls Try.prog 3 #[.slice a n cap] w fun e w' => e = .returned (.bool true) ∧ Below w.heap.size w w' := by
  by_cases hbig : 200 < n
  · have HA := Lib.hid (met_awake_any)
    clear hr
    go_enter Try.func3, Try.ntmps3
    go_wp2_with (go_at_call 6; (with_reducible refine (HA.out w).mono ?_); rintro e u1 ⟨rfl, b1⟩; have B1 := Lib.hid b1; clear b1)
    go_ret
    exact ⟨rfl, B1.out⟩
  have hl : n ≤ 200 := by omega
  obtain ⟨Z, hZ⟩ : ∃ Z, mcs zeroM = Z := ⟨_, rfl⟩
  have HZ : Hid (∀ u, (zeroValue 28).run Try.prog u = .ok (.agg Z.toArray) u) := Lib.hid (by rw [← hZ]; exact zero_meta)
  have HZL : Hid (Z.length = 13) := Lib.hid (by rw [← hZ]; rfl)
  obtain ⟨N, hN⟩ : ∃ N, mcs Mt.new = N := ⟨_, rfl⟩
  have HNL : Hid (N.length = 13) := Lib.hid (by rw [← hN]; rfl)
  have HNO : Hid (N.all (·.oneCell') = true) := Lib.hid (by rw [← hN]; rfl)
  have HNEW : Hid (∀ u, Calls Try.prog 7 #[] u fun e w' => e = .returned (.agg N.toArray) ∧ Below u.heap.size u w') := Lib.hid (by rw [← hN]; exact met_new_any)
  have HNN := Lib.hid hN
  obtain ⟨RZ, hRZ⟩ : ∃ Z, (⟨0, 0, 0, 0⟩ : Rc).cells = Z := ⟨_, rfl⟩
  have HRZ : Hid (∀ u, (zeroValue 31).run Try.prog u = .ok (.agg RZ.toArray) u) := Lib.hid (by rw [← hRZ]; exact zero_rc)
  have HRZL : Hid (RZ.length = 4) := Lib.hid (by rw [← hRZ]; rfl)
  have HR := Lib.hid hr
  have HNL2 := Lib.hid hn
  clear hZ hN hr hRZ hn hbig
  go_enter Try.func3, Try.ntmps3
  go_wp2_with (first
    | (go_at_call 6; (with_reducible refine (met_awake_any w).mono ?_); rintro e ww1 ⟨rfl, b_⟩; have B_1 : Hid (Below w.heap.size w ww1) := Lib.hid (b_); clear b_)
    | (go_at_call 7; (with_reducible refine (HNEW.out ww1).mono ?_); rintro e ww2 ⟨rfl, b_⟩; have B_2 : Hid (Below w.heap.size w ww2) := Lib.hid (B_1.out.next b_); clear b_ B_1)
    | ((with_reducible refine wpAllocK (w := ww2) (Z) 28 HZ.out ?_ ?_); rfl; intro ww3 r_ b_ s_; have G_m : Hid (w.heap.size ≤ ww2.heap.size) := Lib.hid (B_2.out.size); have B_3 : Hid (Below w.heap.size w ww3) := Lib.hid (B_2.out.next b_); have Tm_3 := Lib.hid r_; clear r_ b_ s_ B_2)
    | ((with_reducible refine Tm_3.out.wpStoreK 28 (N) fits_meta (HZL.out) (HNL.out) (HNO.out) ?_ ?_); rfl; intro ww4 r_ o_ s_; have Tm_4 := Lib.hid r_; have B_4 : Hid (Below w.heap.size w ww4) := Lib.hid (B_3.out.trans (o_.below G_m.out B_3.out.size)); clear r_ o_ s_ Tm_3 B_3))
  go_loopw [18] (fun i wr => ∃ (k : Nat) (m : Mt), k ≤ n ∧ i = .int .i64 (k : Int) ∧ MR m ∧ Row wr (ww2.heap.size) 28 (mcs m) ∧ Below w.heap.size w wr) (fun i _ => n - (intOf i).toNat)
  case atStart => exact ⟨0, Mt.new, Nat.zero_le _, rfl, MR.new, by rw [HNN.out]; exact Tm_4.out, B_4.out⟩
  case round =>
    rename World => wo
    obtain ⟨k, m, hk, rfl, hmr, hm, hbw⟩ := hrel
    have HM := Lib.hid hm
    have HBW := Lib.hid hbw
    obtain ⟨M, hM⟩ : ∃ M, mcs m = M := ⟨_, rfl⟩
    rw [hM] at HM
    have HML : Hid (M.length = 13) := Lib.hid (by rw [← hM]; rfl)
    have HMM := Lib.hid hM
    have GM : Hid (w.heap.size ≤ ww2.heap.size) := Lib.hid G_m.out
    clear hm hbw hM
    by_cases hlt : k < n
    · have hkl : k < L.length := by rw [HNL2.out]; exact hlt
      obtain ⟨bl, off, rfl, hbb, hc⟩ := HR.out (by rw [rcs_length]; omega)
      obtain ⟨r, hr⟩ : ∃ r, L[k] = r := ⟨_, rfl⟩
      obtain ⟨C, hC⟩ : ∃ C, r.cells = C := ⟨_, rfl⟩
      have HRG : Hid (wo.rangeAt bl (off + k * 4) C) := Lib.hid (by
        have := rcs_at (w := wo) (fun j u hj => (HBW.out.cell (p := ⟨bl, off + j, none⟩) hbb).trans (hc j u hj)) k hkl
        rw [hr, hC] at this
        exact this)
      have HCL : Hid (C.length = 4) := Lib.hid (by rw [← hC]; rfl)
      have HCO : Hid (C.all (·.oneCell') = true) := Lib.hid (by rw [← hC]; rfl)
      obtain ⟨kd, hkd⟩ : ∃ x, r.k = x := ⟨_, rfl⟩
      have HC0 : Hid (C[0]? = some (.int .i64 kd)) := Lib.hid (by rw [← hC, ← hkd]; rfl)
      have G_m : Hid (w.heap.size ≤ ww2.heap.size) := GM
      by_cases hbk : 13 < kd
      · have HGO := Lib.hid hmr
        clear hc hr hC hkd hmr
        go_wp2_with (first
          | ((with_reducible refine wpLoadRK HRG.out 31 fits_rec HCL.out ?_ ?_); rfl)
          | ((with_reducible refine wpAllocK (w := wo) (RZ) 31 HRZ.out ?_ ?_); rfl; intro v1 r_ b_ s_; have N_m_c : Hid (ww2.heap.size ≠ wo.heap.size) := Lib.hid (by have := HM.out.lt; omega); have G_c : Hid (w.heap.size ≤ wo.heap.size) := Lib.hid (HBW.out.size); have Tm_1 := Lib.hid (HM.out.step b_); have B_1 : Hid (Below w.heap.size w v1) := Lib.hid (HBW.out.next b_); have Tc_1 := Lib.hid r_; clear r_ b_ s_ HM HBW)
          | ((with_reducible refine Tc_1.out.wpStoreK 31 (C) fits_rec (HRZL.out) (HCL.out) (HCO.out) ?_ ?_); rfl; intro v2 r_ o_ s_; have Tm_2 := Lib.hid (Tm_1.out.only o_ N_m_c.out); have Tc_2 := Lib.hid r_; have B_2 : Hid (Below w.heap.size w v2) := Lib.hid (B_1.out.trans (o_.below G_c.out B_1.out.size)); have c0 := (Tc_2.out.cell 0).trans HC0.out; clear r_ o_ s_ Tc_1 B_1 Tm_1))
        go_roundw
        case rel => exact ⟨k + 1, m, by omega, by go_num, HGO.out, by rw [HMM.out]; exact Tm_2.out, B_2.out⟩
        case measure => simp [intOf]; omega
      · obtain ⟨x, e, hx⟩ : ∃ x e, Rc.doo m r = (x, e) := ⟨_, _, rfl⟩
        have hres : MR x ∧ m.flo ≤ x.flo ∧ (e = 0 ∨ x = m) := doo_right m (rOk r.k r.s r.n r.v) r.k r.s r.v x e (by omega) hmr (fun ho => by have := rOk_is ho; simp only [Vl]; omega) hx
        have HMR := Lib.hid hres.1
        obtain ⟨X, hX⟩ : ∃ X, mcs x = X := ⟨_, rfl⟩
        have HXL : Hid (X.length = 13) := Lib.hid (by rw [← hX]; rfl)
        have HXO : Hid (X.all (·.oneCell') = true) := Lib.hid (by rw [← hX]; rfl)
        have HXX := Lib.hid hX
        have HDO : Hid (∀ u, Calls Try.prog 8 #[.agg M.toArray, .agg C.toArray] u fun ee w' => ee = .returned (.tuple #[.agg X.toArray, .int .i64 e]) ∧ Below u.heap.size u w') := Lib.hid fun u => by
          rw [← HMM.out, ← hC, ← hX]; exact met_do_rc m r x e hx u
        have HRI : Hid (∀ u, Calls Try.prog 9 #[.agg X.toArray] u fun e w' => e = .returned (.bool true) ∧ Below u.heap.size u w') := Lib.hid fun u => by
          have := met_right_any x u
          rw [hres.1.right, hX] at this
          exact this
        obtain ⟨fm, hfm⟩ : ∃ y, m.flo = y := ⟨_, rfl⟩
        obtain ⟨fx, hfx⟩ : ∃ y, x.flo = y := ⟨_, rfl⟩
        have hle : decide (fx < fm) = false := decide_eq_false (by rw [← hfm, ← hfx]; have := hres.2.1; omega)
        have HM10 : Hid (M[10]? = some (.int .i64 fm)) := Lib.hid (by rw [← HMM.out, ← hfm]; rfl)
        have HX10 : Hid (X[10]? = some (.int .i64 fx)) := Lib.hid (by rw [← hX, ← hfx]; rfl)
        obtain ⟨G, hG⟩ : ∃ G : List Value, [Value.int .i64 4, .int .i64 0, .int .i64 0] = G := ⟨_, rfl⟩
        have HGR : Hid (∀ (u : World) (g : Nat), Row u g 28 X → u.rangeAt g 0 [Value.int .i64 4, .int .i64 0, .int .i64 0]) := Lib.hid fun u g hu => by
          rw [← hX] at hu
          have hg := hres.1.1
          intro j v hv
          rw [hu.cell]
          match j, hv with
          | 0, hv => rw [← hv]; show some (Value.int .i64 x.a.s) = _; rw [hg]; rfl
          | 1, hv => rw [← hv]; show some (Value.int .i64 x.a.v) = _; rw [hg]; rfl
          | 2, hv => rw [← hv]; show some (Value.int .i64 x.a.b) = _; rw [hg]; rfl
          | j + 3, hv => exact absurd hv (by simp)
        have heg : ∀ u, (Op.equalIn 10000 25 (.agg #[.int .i64 4, .int .i64 0, .int .i64 0]) (.agg #[.int .i64 4, .int .i64 0, .int .i64 0])).run Try.prog u = .ok true u := met_eq_slot ⟨4, 0, 0⟩
        have hem : ∀ u, (Op.equalIn 10000 28 (.agg X.toArray) (.agg X.toArray)).run Try.prog u = .ok true u := by rw [← hX]; exact met_eq_meta x
        have HEX : Hid (e = 0 ∨ M = X) := Lib.hid (by
          rcases hres.2.2 with h | h
          · exact Or.inl h
          · right; rw [← HMM.out, ← hX, h])
        have HGL : Hid (([Value.int .i64 4, .int .i64 0, .int .i64 0] : List Value).length = 3) := Lib.hid rfl
        have hw := hres.1.ways
        have HTR : Hid (∀ u, Calls Try.prog 10 #[.agg X.toArray] u fun e w' => e = .returned (.tuple #[.int .i64 x.trial.1, .bool x.trial.2]) ∧ Below u.heap.size u w') := Lib.hid fun u => by rw [← hX]; exact met_trial_any x u
        clear hc hr hC hx hkd hmr hres hfm hfx hG
        rcases hw with ⟨ht, hac⟩ | ⟨ht, hac⟩ | ⟨ht, hac⟩ | ⟨ht, hac, hst⟩ | ⟨ht, hac, hst⟩
        · rw [ht] at HTR
          have HX9 : Hid (X[9]? = some (.int .i64 1)) := Lib.hid (by rw [← hX]; show some (Value.int .i64 x.act) = _; rw [hac])
          have HTR : Hid (∀ u, Calls Try.prog 10 #[.agg X.toArray] u fun e w' => e = .returned (.tuple #[.int .i64 1, .bool true]) ∧ Below u.heap.size u w') := Lib.hid fun u => HTR.out u
          clear ht hac hX
          by_cases he : e = 0
          · subst he
            clear HEX hem
            go_wp2_with (first
              | ((with_reducible refine wpLoadRK HRG.out 31 fits_rec HCL.out ?_ ?_); rfl)
              | ((with_reducible refine wpAllocK (w := wo) (RZ) 31 HRZ.out ?_ ?_); rfl; intro v1 r_ b_ s_; have N_m_c : Hid (ww2.heap.size ≠ wo.heap.size) := Lib.hid (by have := HM.out.lt; omega); have G_c : Hid (w.heap.size ≤ wo.heap.size) := Lib.hid (HBW.out.size); have Tm_1 := Lib.hid (HM.out.step b_); have B_1 : Hid (Below w.heap.size w v1) := Lib.hid (HBW.out.next b_); have Tc_1 := Lib.hid r_; clear r_ b_ s_ HM HBW)
              | ((with_reducible refine Tc_1.out.wpStoreK 31 (C) fits_rec (HRZL.out) (HCL.out) (HCO.out) ?_ ?_); rfl; intro v2 r_ o_ s_; have Tm_2 := Lib.hid (Tm_1.out.only o_ N_m_c.out); have Tc_2 := Lib.hid r_; have B_2 : Hid (Below w.heap.size w v2) := Lib.hid (B_1.out.trans (o_.below G_c.out B_1.out.size)); have c0 := (Tc_2.out.cell 0).trans HC0.out; clear r_ o_ s_ Tc_1 B_1 Tm_1)
              | ((with_reducible refine Tm_2.out.wpLoadK 28 fits_meta (HML.out) ?_ ?_); rfl)
              | ((with_reducible refine Tc_2.out.wpLoadK 31 fits_rec (HCL.out) ?_ ?_); rfl)
              | (go_at_call 8; (with_reducible refine (HDO.out v2).mono ?_); rintro e v3 ⟨rfl, b_⟩; have Tm_3 := Lib.hid (Tm_2.out.step b_); have Tc_3 := Lib.hid (Tc_2.out.step b_); have B_3 : Hid (Below w.heap.size w v3) := Lib.hid (B_2.out.next b_); clear b_ Tm_2 Tc_2 B_2)
              | ((with_reducible refine wpAllocK (w := v3) (Z) 28 HZ.out ?_ ?_); rfl; intro v4 r_ b_ s_; have N_m_x : Hid (ww2.heap.size ≠ v3.heap.size) := Lib.hid (by have := Tm_3.out.lt; omega); have N_c_x : Hid (wo.heap.size ≠ v3.heap.size) := Lib.hid (by have := Tc_3.out.lt; omega); have G_x : Hid (w.heap.size ≤ v3.heap.size) := Lib.hid (B_3.out.size); have Tm_4 := Lib.hid (Tm_3.out.step b_); have Tc_4 := Lib.hid (Tc_3.out.step b_); have B_4 : Hid (Below w.heap.size w v4) := Lib.hid (B_3.out.next b_); have Tx_4 := Lib.hid r_; clear r_ b_ s_ Tm_3 Tc_3 B_3)
              | ((with_reducible refine Tx_4.out.wpStoreK 28 (X) fits_meta (HZL.out) (HXL.out) (HXO.out) ?_ ?_); rfl; intro v5 r_ o_ s_; have Tm_5 := Lib.hid (Tm_4.out.only o_ N_m_x.out); have Tc_5 := Lib.hid (Tc_4.out.only o_ N_c_x.out); have Tx_5 := Lib.hid r_; have B_5 : Hid (Below w.heap.size w v5) := Lib.hid (B_4.out.trans (o_.below G_x.out B_4.out.size)); clear r_ o_ s_ Tx_4 B_4 Tm_4 Tc_4)
              | ((with_reducible refine Tx_5.out.wpLoadK 28 fits_meta (HXL.out) ?_ ?_); rfl)
              | (go_at_call 9; (with_reducible refine (HRI.out v5).mono ?_); rintro e v6 ⟨rfl, b_⟩; have Tm_6 := Lib.hid (Tm_5.out.step b_); have Tc_6 := Lib.hid (Tc_5.out.step b_); have Tx_6 := Lib.hid (Tx_5.out.step b_); have B_6 : Hid (Below w.heap.size w v6) := Lib.hid (B_5.out.next b_); have d10 := (Tm_6.out.cell 10).trans HM10.out; have d11 := (Tx_6.out.cell 10).trans HX10.out; have HGA := Lib.hid (HGR.out v6 _ Tx_6.out); clear b_ Tm_5 Tc_5 Tx_5 B_5)
              | ((with_reducible refine wpLoadRG HGA.out 25 fits_slot HGL.out ?_ ?_); rfl)
              | ((with_reducible refine Tx_6.out.wpLoadK 28 fits_meta (HXL.out) ?_ ?_); rfl)
              | (go_at_call 10; (with_reducible refine (HTR.out v6).mono ?_); rintro e v7 ⟨rfl, b_⟩; have Tm_7 := Lib.hid (Tm_6.out.step b_); have Tc_7 := Lib.hid (Tc_6.out.step b_); have Tx_7 := Lib.hid (Tx_6.out.step b_); have B_7 : Hid (Below w.heap.size w v7) := Lib.hid (B_6.out.next b_); have f9 := (Tx_7.out.cell 9).trans HX9.out; clear b_ Tm_6 Tc_6 Tx_6 B_6)
              | ((with_reducible refine Tx_7.out.wpLoadK 28 fits_meta (HXL.out) ?_ ?_); rfl)
              | ((with_reducible refine Tm_7.out.wpStoreK 28 (X) fits_meta (HML.out) (HXL.out) (HXO.out) ?_ ?_); rfl; intro v8 r_ o_ s_; have Tc_8 := Lib.hid (Tc_7.out.only o_ N_m_c.out.symm); have Tx_8 := Lib.hid (Tx_7.out.only o_ N_m_x.out.symm); have Tm_8 := Lib.hid r_; have B_8 : Hid (Below w.heap.size w v8) := Lib.hid (B_7.out.trans (o_.below G_m.out B_7.out.size)); clear r_ o_ s_ Tm_7 B_7 Tc_7 Tx_7))
            go_roundw
            case rel => exact ⟨k + 1, x, by omega, by go_num, HMR.out, by rw [HXX.out]; exact Tm_8.out, B_8.out⟩
            case measure => simp [intOf]; omega
          · have hMX : M = X := by
              rcases HEX.out with h | h
              · exact absurd h he
              · exact h
            subst hMX
            have e1 : (e == (0 : Int)) = false := by simp [he]
            have e2 : (!(e == (0 : Int))) = true := by simp [he]
            have e3 : (e != (0 : Int)) = true := by simp [he]
            clear he HEX
            go_wp2_with (first
              | ((with_reducible refine wpLoadRK HRG.out 31 fits_rec HCL.out ?_ ?_); rfl)
              | ((with_reducible refine wpAllocK (w := wo) (RZ) 31 HRZ.out ?_ ?_); rfl; intro v1 r_ b_ s_; have N_m_c : Hid (ww2.heap.size ≠ wo.heap.size) := Lib.hid (by have := HM.out.lt; omega); have G_c : Hid (w.heap.size ≤ wo.heap.size) := Lib.hid (HBW.out.size); have Tm_1 := Lib.hid (HM.out.step b_); have B_1 : Hid (Below w.heap.size w v1) := Lib.hid (HBW.out.next b_); have Tc_1 := Lib.hid r_; clear r_ b_ s_ HM HBW)
              | ((with_reducible refine Tc_1.out.wpStoreK 31 (C) fits_rec (HRZL.out) (HCL.out) (HCO.out) ?_ ?_); rfl; intro v2 r_ o_ s_; have Tm_2 := Lib.hid (Tm_1.out.only o_ N_m_c.out); have Tc_2 := Lib.hid r_; have B_2 : Hid (Below w.heap.size w v2) := Lib.hid (B_1.out.trans (o_.below G_c.out B_1.out.size)); have c0 := (Tc_2.out.cell 0).trans HC0.out; clear r_ o_ s_ Tc_1 B_1 Tm_1)
              | ((with_reducible refine Tm_2.out.wpLoadK 28 fits_meta (HML.out) ?_ ?_); rfl)
              | ((with_reducible refine Tc_2.out.wpLoadK 31 fits_rec (HCL.out) ?_ ?_); rfl)
              | (go_at_call 8; (with_reducible refine (HDO.out v2).mono ?_); rintro e v3 ⟨rfl, b_⟩; have Tm_3 := Lib.hid (Tm_2.out.step b_); have Tc_3 := Lib.hid (Tc_2.out.step b_); have B_3 : Hid (Below w.heap.size w v3) := Lib.hid (B_2.out.next b_); clear b_ Tm_2 Tc_2 B_2)
              | ((with_reducible refine wpAllocK (w := v3) (Z) 28 HZ.out ?_ ?_); rfl; intro v4 r_ b_ s_; have N_m_x : Hid (ww2.heap.size ≠ v3.heap.size) := Lib.hid (by have := Tm_3.out.lt; omega); have N_c_x : Hid (wo.heap.size ≠ v3.heap.size) := Lib.hid (by have := Tc_3.out.lt; omega); have G_x : Hid (w.heap.size ≤ v3.heap.size) := Lib.hid (B_3.out.size); have Tm_4 := Lib.hid (Tm_3.out.step b_); have Tc_4 := Lib.hid (Tc_3.out.step b_); have B_4 : Hid (Below w.heap.size w v4) := Lib.hid (B_3.out.next b_); have Tx_4 := Lib.hid r_; clear r_ b_ s_ Tm_3 Tc_3 B_3)
              | ((with_reducible refine Tx_4.out.wpStoreK 28 (M) fits_meta (HZL.out) (HXL.out) (HXO.out) ?_ ?_); rfl; intro v5 r_ o_ s_; have Tm_5 := Lib.hid (Tm_4.out.only o_ N_m_x.out); have Tc_5 := Lib.hid (Tc_4.out.only o_ N_c_x.out); have Tx_5 := Lib.hid r_; have B_5 : Hid (Below w.heap.size w v5) := Lib.hid (B_4.out.trans (o_.below G_x.out B_4.out.size)); clear r_ o_ s_ Tx_4 B_4 Tm_4 Tc_4)
              | ((with_reducible refine Tx_5.out.wpLoadK 28 fits_meta (HXL.out) ?_ ?_); rfl)
              | (go_at_call 9; (with_reducible refine (HRI.out v5).mono ?_); rintro e v6 ⟨rfl, b_⟩; have Tm_6 := Lib.hid (Tm_5.out.step b_); have Tc_6 := Lib.hid (Tc_5.out.step b_); have Tx_6 := Lib.hid (Tx_5.out.step b_); have B_6 : Hid (Below w.heap.size w v6) := Lib.hid (B_5.out.next b_); have d10 := (Tm_6.out.cell 10).trans HM10.out; have d11 := (Tx_6.out.cell 10).trans HX10.out; have HGA := Lib.hid (HGR.out v6 _ Tx_6.out); clear b_ Tm_5 Tc_5 Tx_5 B_5)
              | ((with_reducible refine wpLoadRG HGA.out 25 fits_slot HGL.out ?_ ?_); rfl)
              | ((with_reducible refine Tx_6.out.wpLoadG 28 fits_meta (HXL.out) ?_ ?_); rfl)
              | ((with_reducible refine Tm_6.out.wpLoadG 28 fits_meta (HML.out) ?_ ?_); rfl)
              | ((with_reducible refine Tx_6.out.wpLoadK 28 fits_meta (HXL.out) ?_ ?_); rfl)
              | (go_at_call 10; (with_reducible refine (HTR.out v6).mono ?_); rintro e v7 ⟨rfl, b_⟩; have Tm_7 := Lib.hid (Tm_6.out.step b_); have Tc_7 := Lib.hid (Tc_6.out.step b_); have Tx_7 := Lib.hid (Tx_6.out.step b_); have B_7 : Hid (Below w.heap.size w v7) := Lib.hid (B_6.out.next b_); have f9 := (Tx_7.out.cell 9).trans HX9.out; clear b_ Tm_6 Tc_6 Tx_6 B_6)
              | ((with_reducible refine Tx_7.out.wpLoadK 28 fits_meta (HXL.out) ?_ ?_); rfl)
              | ((with_reducible refine Tm_7.out.wpStoreK 28 (M) fits_meta (HML.out) (HXL.out) (HXO.out) ?_ ?_); rfl; intro v8 r_ o_ s_; have Tc_8 := Lib.hid (Tc_7.out.only o_ N_m_c.out.symm); have Tx_8 := Lib.hid (Tx_7.out.only o_ N_m_x.out.symm); have Tm_8 := Lib.hid r_; have B_8 : Hid (Below w.heap.size w v8) := Lib.hid (B_7.out.trans (o_.below G_m.out B_7.out.size)); clear r_ o_ s_ Tm_7 B_7 Tc_7 Tx_7))
            go_roundw
            case rel => exact ⟨k + 1, x, by omega, by go_num, HMR.out, by rw [HXX.out]; exact Tm_8.out, B_8.out⟩
            case measure => simp [intOf]; omega
        · rw [ht] at HTR
          have HX9 : Hid (X[9]? = some (.int .i64 2)) := Lib.hid (by rw [← hX]; show some (Value.int .i64 x.act) = _; rw [hac])
          have HTR : Hid (∀ u, Calls Try.prog 10 #[.agg X.toArray] u fun e w' => e = .returned (.tuple #[.int .i64 2, .bool true]) ∧ Below u.heap.size u w') := Lib.hid fun u => HTR.out u
          clear ht hac hX
          by_cases he : e = 0
          · subst he
            clear HEX hem
            go_wp2_with (first
              | ((with_reducible refine wpLoadRK HRG.out 31 fits_rec HCL.out ?_ ?_); rfl)
              | ((with_reducible refine wpAllocK (w := wo) (RZ) 31 HRZ.out ?_ ?_); rfl; intro v1 r_ b_ s_; have N_m_c : Hid (ww2.heap.size ≠ wo.heap.size) := Lib.hid (by have := HM.out.lt; omega); have G_c : Hid (w.heap.size ≤ wo.heap.size) := Lib.hid (HBW.out.size); have Tm_1 := Lib.hid (HM.out.step b_); have B_1 : Hid (Below w.heap.size w v1) := Lib.hid (HBW.out.next b_); have Tc_1 := Lib.hid r_; clear r_ b_ s_ HM HBW)
              | ((with_reducible refine Tc_1.out.wpStoreK 31 (C) fits_rec (HRZL.out) (HCL.out) (HCO.out) ?_ ?_); rfl; intro v2 r_ o_ s_; have Tm_2 := Lib.hid (Tm_1.out.only o_ N_m_c.out); have Tc_2 := Lib.hid r_; have B_2 : Hid (Below w.heap.size w v2) := Lib.hid (B_1.out.trans (o_.below G_c.out B_1.out.size)); have c0 := (Tc_2.out.cell 0).trans HC0.out; clear r_ o_ s_ Tc_1 B_1 Tm_1)
              | ((with_reducible refine Tm_2.out.wpLoadK 28 fits_meta (HML.out) ?_ ?_); rfl)
              | ((with_reducible refine Tc_2.out.wpLoadK 31 fits_rec (HCL.out) ?_ ?_); rfl)
              | (go_at_call 8; (with_reducible refine (HDO.out v2).mono ?_); rintro e v3 ⟨rfl, b_⟩; have Tm_3 := Lib.hid (Tm_2.out.step b_); have Tc_3 := Lib.hid (Tc_2.out.step b_); have B_3 : Hid (Below w.heap.size w v3) := Lib.hid (B_2.out.next b_); clear b_ Tm_2 Tc_2 B_2)
              | ((with_reducible refine wpAllocK (w := v3) (Z) 28 HZ.out ?_ ?_); rfl; intro v4 r_ b_ s_; have N_m_x : Hid (ww2.heap.size ≠ v3.heap.size) := Lib.hid (by have := Tm_3.out.lt; omega); have N_c_x : Hid (wo.heap.size ≠ v3.heap.size) := Lib.hid (by have := Tc_3.out.lt; omega); have G_x : Hid (w.heap.size ≤ v3.heap.size) := Lib.hid (B_3.out.size); have Tm_4 := Lib.hid (Tm_3.out.step b_); have Tc_4 := Lib.hid (Tc_3.out.step b_); have B_4 : Hid (Below w.heap.size w v4) := Lib.hid (B_3.out.next b_); have Tx_4 := Lib.hid r_; clear r_ b_ s_ Tm_3 Tc_3 B_3)
              | ((with_reducible refine Tx_4.out.wpStoreK 28 (X) fits_meta (HZL.out) (HXL.out) (HXO.out) ?_ ?_); rfl; intro v5 r_ o_ s_; have Tm_5 := Lib.hid (Tm_4.out.only o_ N_m_x.out); have Tc_5 := Lib.hid (Tc_4.out.only o_ N_c_x.out); have Tx_5 := Lib.hid r_; have B_5 : Hid (Below w.heap.size w v5) := Lib.hid (B_4.out.trans (o_.below G_x.out B_4.out.size)); clear r_ o_ s_ Tx_4 B_4 Tm_4 Tc_4)
              | ((with_reducible refine Tx_5.out.wpLoadK 28 fits_meta (HXL.out) ?_ ?_); rfl)
              | (go_at_call 9; (with_reducible refine (HRI.out v5).mono ?_); rintro e v6 ⟨rfl, b_⟩; have Tm_6 := Lib.hid (Tm_5.out.step b_); have Tc_6 := Lib.hid (Tc_5.out.step b_); have Tx_6 := Lib.hid (Tx_5.out.step b_); have B_6 : Hid (Below w.heap.size w v6) := Lib.hid (B_5.out.next b_); have d10 := (Tm_6.out.cell 10).trans HM10.out; have d11 := (Tx_6.out.cell 10).trans HX10.out; have HGA := Lib.hid (HGR.out v6 _ Tx_6.out); clear b_ Tm_5 Tc_5 Tx_5 B_5)
              | ((with_reducible refine wpLoadRG HGA.out 25 fits_slot HGL.out ?_ ?_); rfl)
              | ((with_reducible refine Tx_6.out.wpLoadK 28 fits_meta (HXL.out) ?_ ?_); rfl)
              | (go_at_call 10; (with_reducible refine (HTR.out v6).mono ?_); rintro e v7 ⟨rfl, b_⟩; have Tm_7 := Lib.hid (Tm_6.out.step b_); have Tc_7 := Lib.hid (Tc_6.out.step b_); have Tx_7 := Lib.hid (Tx_6.out.step b_); have B_7 : Hid (Below w.heap.size w v7) := Lib.hid (B_6.out.next b_); have f9 := (Tx_7.out.cell 9).trans HX9.out; clear b_ Tm_6 Tc_6 Tx_6 B_6)
              | ((with_reducible refine Tx_7.out.wpLoadK 28 fits_meta (HXL.out) ?_ ?_); rfl)
              | ((with_reducible refine Tm_7.out.wpStoreK 28 (X) fits_meta (HML.out) (HXL.out) (HXO.out) ?_ ?_); rfl; intro v8 r_ o_ s_; have Tc_8 := Lib.hid (Tc_7.out.only o_ N_m_c.out.symm); have Tx_8 := Lib.hid (Tx_7.out.only o_ N_m_x.out.symm); have Tm_8 := Lib.hid r_; have B_8 : Hid (Below w.heap.size w v8) := Lib.hid (B_7.out.trans (o_.below G_m.out B_7.out.size)); clear r_ o_ s_ Tm_7 B_7 Tc_7 Tx_7))
            go_roundw
            case rel => exact ⟨k + 1, x, by omega, by go_num, HMR.out, by rw [HXX.out]; exact Tm_8.out, B_8.out⟩
            case measure => simp [intOf]; omega
          · have hMX : M = X := by
              rcases HEX.out with h | h
              · exact absurd h he
              · exact h
            subst hMX
            have e1 : (e == (0 : Int)) = false := by simp [he]
            have e2 : (!(e == (0 : Int))) = true := by simp [he]
            have e3 : (e != (0 : Int)) = true := by simp [he]
            clear he HEX
            go_wp2_with (first
              | ((with_reducible refine wpLoadRK HRG.out 31 fits_rec HCL.out ?_ ?_); rfl)
              | ((with_reducible refine wpAllocK (w := wo) (RZ) 31 HRZ.out ?_ ?_); rfl; intro v1 r_ b_ s_; have N_m_c : Hid (ww2.heap.size ≠ wo.heap.size) := Lib.hid (by have := HM.out.lt; omega); have G_c : Hid (w.heap.size ≤ wo.heap.size) := Lib.hid (HBW.out.size); have Tm_1 := Lib.hid (HM.out.step b_); have B_1 : Hid (Below w.heap.size w v1) := Lib.hid (HBW.out.next b_); have Tc_1 := Lib.hid r_; clear r_ b_ s_ HM HBW)
              | ((with_reducible refine Tc_1.out.wpStoreK 31 (C) fits_rec (HRZL.out) (HCL.out) (HCO.out) ?_ ?_); rfl; intro v2 r_ o_ s_; have Tm_2 := Lib.hid (Tm_1.out.only o_ N_m_c.out); have Tc_2 := Lib.hid r_; have B_2 : Hid (Below w.heap.size w v2) := Lib.hid (B_1.out.trans (o_.below G_c.out B_1.out.size)); have c0 := (Tc_2.out.cell 0).trans HC0.out; clear r_ o_ s_ Tc_1 B_1 Tm_1)
              | ((with_reducible refine Tm_2.out.wpLoadK 28 fits_meta (HML.out) ?_ ?_); rfl)
              | ((with_reducible refine Tc_2.out.wpLoadK 31 fits_rec (HCL.out) ?_ ?_); rfl)
              | (go_at_call 8; (with_reducible refine (HDO.out v2).mono ?_); rintro e v3 ⟨rfl, b_⟩; have Tm_3 := Lib.hid (Tm_2.out.step b_); have Tc_3 := Lib.hid (Tc_2.out.step b_); have B_3 : Hid (Below w.heap.size w v3) := Lib.hid (B_2.out.next b_); clear b_ Tm_2 Tc_2 B_2)
              | ((with_reducible refine wpAllocK (w := v3) (Z) 28 HZ.out ?_ ?_); rfl; intro v4 r_ b_ s_; have N_m_x : Hid (ww2.heap.size ≠ v3.heap.size) := Lib.hid (by have := Tm_3.out.lt; omega); have N_c_x : Hid (wo.heap.size ≠ v3.heap.size) := Lib.hid (by have := Tc_3.out.lt; omega); have G_x : Hid (w.heap.size ≤ v3.heap.size) := Lib.hid (B_3.out.size); have Tm_4 := Lib.hid (Tm_3.out.step b_); have Tc_4 := Lib.hid (Tc_3.out.step b_); have B_4 : Hid (Below w.heap.size w v4) := Lib.hid (B_3.out.next b_); have Tx_4 := Lib.hid r_; clear r_ b_ s_ Tm_3 Tc_3 B_3)
              | ((with_reducible refine Tx_4.out.wpStoreK 28 (M) fits_meta (HZL.out) (HXL.out) (HXO.out) ?_ ?_); rfl; intro v5 r_ o_ s_; have Tm_5 := Lib.hid (Tm_4.out.only o_ N_m_x.out); have Tc_5 := Lib.hid (Tc_4.out.only o_ N_c_x.out); have Tx_5 := Lib.hid r_; have B_5 : Hid (Below w.heap.size w v5) := Lib.hid (B_4.out.trans (o_.below G_x.out B_4.out.size)); clear r_ o_ s_ Tx_4 B_4 Tm_4 Tc_4)
              | ((with_reducible refine Tx_5.out.wpLoadK 28 fits_meta (HXL.out) ?_ ?_); rfl)
              | (go_at_call 9; (with_reducible refine (HRI.out v5).mono ?_); rintro e v6 ⟨rfl, b_⟩; have Tm_6 := Lib.hid (Tm_5.out.step b_); have Tc_6 := Lib.hid (Tc_5.out.step b_); have Tx_6 := Lib.hid (Tx_5.out.step b_); have B_6 : Hid (Below w.heap.size w v6) := Lib.hid (B_5.out.next b_); have d10 := (Tm_6.out.cell 10).trans HM10.out; have d11 := (Tx_6.out.cell 10).trans HX10.out; have HGA := Lib.hid (HGR.out v6 _ Tx_6.out); clear b_ Tm_5 Tc_5 Tx_5 B_5)
              | ((with_reducible refine wpLoadRG HGA.out 25 fits_slot HGL.out ?_ ?_); rfl)
              | ((with_reducible refine Tx_6.out.wpLoadG 28 fits_meta (HXL.out) ?_ ?_); rfl)
              | ((with_reducible refine Tm_6.out.wpLoadG 28 fits_meta (HML.out) ?_ ?_); rfl)
              | ((with_reducible refine Tx_6.out.wpLoadK 28 fits_meta (HXL.out) ?_ ?_); rfl)
              | (go_at_call 10; (with_reducible refine (HTR.out v6).mono ?_); rintro e v7 ⟨rfl, b_⟩; have Tm_7 := Lib.hid (Tm_6.out.step b_); have Tc_7 := Lib.hid (Tc_6.out.step b_); have Tx_7 := Lib.hid (Tx_6.out.step b_); have B_7 : Hid (Below w.heap.size w v7) := Lib.hid (B_6.out.next b_); have f9 := (Tx_7.out.cell 9).trans HX9.out; clear b_ Tm_6 Tc_6 Tx_6 B_6)
              | ((with_reducible refine Tx_7.out.wpLoadK 28 fits_meta (HXL.out) ?_ ?_); rfl)
              | ((with_reducible refine Tm_7.out.wpStoreK 28 (M) fits_meta (HML.out) (HXL.out) (HXO.out) ?_ ?_); rfl; intro v8 r_ o_ s_; have Tc_8 := Lib.hid (Tc_7.out.only o_ N_m_c.out.symm); have Tx_8 := Lib.hid (Tx_7.out.only o_ N_m_x.out.symm); have Tm_8 := Lib.hid r_; have B_8 : Hid (Below w.heap.size w v8) := Lib.hid (B_7.out.trans (o_.below G_m.out B_7.out.size)); clear r_ o_ s_ Tm_7 B_7 Tc_7 Tx_7))
            go_roundw
            case rel => exact ⟨k + 1, x, by omega, by go_num, HMR.out, by rw [HXX.out]; exact Tm_8.out, B_8.out⟩
            case measure => simp [intOf]; omega
        · rw [ht] at HTR
          have HX9 : Hid (X[9]? = some (.int .i64 0)) := Lib.hid (by rw [← hX]; show some (Value.int .i64 x.act) = _; rw [hac])
          have HXS : Hid (X[0]? = some (.int .i64 4)) := Lib.hid (by rw [← hX]; show some (Value.int .i64 x.a.s) = _; rw [HMR.out.1])
          have HTR : Hid (∀ u, Calls Try.prog 10 #[.agg X.toArray] u fun e w' => e = .returned (.tuple #[.int .i64 0, .bool false]) ∧ Below u.heap.size u w') := Lib.hid fun u => HTR.out u
          clear ht hac hX
          by_cases he : e = 0
          · subst he
            clear HEX hem
            go_wp2_with (first
              | ((with_reducible refine wpLoadRK HRG.out 31 fits_rec HCL.out ?_ ?_); rfl)
              | ((with_reducible refine wpAllocK (w := wo) (RZ) 31 HRZ.out ?_ ?_); rfl; intro v1 r_ b_ s_; have N_m_c : Hid (ww2.heap.size ≠ wo.heap.size) := Lib.hid (by have := HM.out.lt; omega); have G_c : Hid (w.heap.size ≤ wo.heap.size) := Lib.hid (HBW.out.size); have Tm_1 := Lib.hid (HM.out.step b_); have B_1 : Hid (Below w.heap.size w v1) := Lib.hid (HBW.out.next b_); have Tc_1 := Lib.hid r_; clear r_ b_ s_ HM HBW)
              | ((with_reducible refine Tc_1.out.wpStoreK 31 (C) fits_rec (HRZL.out) (HCL.out) (HCO.out) ?_ ?_); rfl; intro v2 r_ o_ s_; have Tm_2 := Lib.hid (Tm_1.out.only o_ N_m_c.out); have Tc_2 := Lib.hid r_; have B_2 : Hid (Below w.heap.size w v2) := Lib.hid (B_1.out.trans (o_.below G_c.out B_1.out.size)); have c0 := (Tc_2.out.cell 0).trans HC0.out; clear r_ o_ s_ Tc_1 B_1 Tm_1)
              | ((with_reducible refine Tm_2.out.wpLoadK 28 fits_meta (HML.out) ?_ ?_); rfl)
              | ((with_reducible refine Tc_2.out.wpLoadK 31 fits_rec (HCL.out) ?_ ?_); rfl)
              | (go_at_call 8; (with_reducible refine (HDO.out v2).mono ?_); rintro e v3 ⟨rfl, b_⟩; have Tm_3 := Lib.hid (Tm_2.out.step b_); have Tc_3 := Lib.hid (Tc_2.out.step b_); have B_3 : Hid (Below w.heap.size w v3) := Lib.hid (B_2.out.next b_); clear b_ Tm_2 Tc_2 B_2)
              | ((with_reducible refine wpAllocK (w := v3) (Z) 28 HZ.out ?_ ?_); rfl; intro v4 r_ b_ s_; have N_m_x : Hid (ww2.heap.size ≠ v3.heap.size) := Lib.hid (by have := Tm_3.out.lt; omega); have N_c_x : Hid (wo.heap.size ≠ v3.heap.size) := Lib.hid (by have := Tc_3.out.lt; omega); have G_x : Hid (w.heap.size ≤ v3.heap.size) := Lib.hid (B_3.out.size); have Tm_4 := Lib.hid (Tm_3.out.step b_); have Tc_4 := Lib.hid (Tc_3.out.step b_); have B_4 : Hid (Below w.heap.size w v4) := Lib.hid (B_3.out.next b_); have Tx_4 := Lib.hid r_; clear r_ b_ s_ Tm_3 Tc_3 B_3)
              | ((with_reducible refine Tx_4.out.wpStoreK 28 (X) fits_meta (HZL.out) (HXL.out) (HXO.out) ?_ ?_); rfl; intro v5 r_ o_ s_; have Tm_5 := Lib.hid (Tm_4.out.only o_ N_m_x.out); have Tc_5 := Lib.hid (Tc_4.out.only o_ N_c_x.out); have Tx_5 := Lib.hid r_; have B_5 : Hid (Below w.heap.size w v5) := Lib.hid (B_4.out.trans (o_.below G_x.out B_4.out.size)); clear r_ o_ s_ Tx_4 B_4 Tm_4 Tc_4)
              | ((with_reducible refine Tx_5.out.wpLoadK 28 fits_meta (HXL.out) ?_ ?_); rfl)
              | (go_at_call 9; (with_reducible refine (HRI.out v5).mono ?_); rintro e v6 ⟨rfl, b_⟩; have Tm_6 := Lib.hid (Tm_5.out.step b_); have Tc_6 := Lib.hid (Tc_5.out.step b_); have Tx_6 := Lib.hid (Tx_5.out.step b_); have B_6 : Hid (Below w.heap.size w v6) := Lib.hid (B_5.out.next b_); have d10 := (Tm_6.out.cell 10).trans HM10.out; have d11 := (Tx_6.out.cell 10).trans HX10.out; have HGA := Lib.hid (HGR.out v6 _ Tx_6.out); clear b_ Tm_5 Tc_5 Tx_5 B_5)
              | ((with_reducible refine wpLoadRG HGA.out 25 fits_slot HGL.out ?_ ?_); rfl)
              | ((with_reducible refine Tx_6.out.wpLoadK 28 fits_meta (HXL.out) ?_ ?_); rfl)
              | (go_at_call 10; (with_reducible refine (HTR.out v6).mono ?_); rintro e v7 ⟨rfl, b_⟩; have Tm_7 := Lib.hid (Tm_6.out.step b_); have Tc_7 := Lib.hid (Tc_6.out.step b_); have Tx_7 := Lib.hid (Tx_6.out.step b_); have B_7 : Hid (Below w.heap.size w v7) := Lib.hid (B_6.out.next b_); have f9 := (Tx_7.out.cell 9).trans HX9.out; have f0 := (Tx_7.out.cell 0).trans HXS.out; clear b_ Tm_6 Tc_6 Tx_6 B_6)
              | ((with_reducible refine Tx_7.out.wpLoadK 28 fits_meta (HXL.out) ?_ ?_); rfl)
              | ((with_reducible refine Tm_7.out.wpStoreK 28 (X) fits_meta (HML.out) (HXL.out) (HXO.out) ?_ ?_); rfl; intro v8 r_ o_ s_; have Tc_8 := Lib.hid (Tc_7.out.only o_ N_m_c.out.symm); have Tx_8 := Lib.hid (Tx_7.out.only o_ N_m_x.out.symm); have Tm_8 := Lib.hid r_; have B_8 : Hid (Below w.heap.size w v8) := Lib.hid (B_7.out.trans (o_.below G_m.out B_7.out.size)); clear r_ o_ s_ Tm_7 B_7 Tc_7 Tx_7))
            go_roundw
            case rel => exact ⟨k + 1, x, by omega, by go_num, HMR.out, by rw [HXX.out]; exact Tm_8.out, B_8.out⟩
            case measure => simp [intOf]; omega
          · have hMX : M = X := by
              rcases HEX.out with h | h
              · exact absurd h he
              · exact h
            subst hMX
            have e1 : (e == (0 : Int)) = false := by simp [he]
            have e2 : (!(e == (0 : Int))) = true := by simp [he]
            have e3 : (e != (0 : Int)) = true := by simp [he]
            clear he HEX
            go_wp2_with (first
              | ((with_reducible refine wpLoadRK HRG.out 31 fits_rec HCL.out ?_ ?_); rfl)
              | ((with_reducible refine wpAllocK (w := wo) (RZ) 31 HRZ.out ?_ ?_); rfl; intro v1 r_ b_ s_; have N_m_c : Hid (ww2.heap.size ≠ wo.heap.size) := Lib.hid (by have := HM.out.lt; omega); have G_c : Hid (w.heap.size ≤ wo.heap.size) := Lib.hid (HBW.out.size); have Tm_1 := Lib.hid (HM.out.step b_); have B_1 : Hid (Below w.heap.size w v1) := Lib.hid (HBW.out.next b_); have Tc_1 := Lib.hid r_; clear r_ b_ s_ HM HBW)
              | ((with_reducible refine Tc_1.out.wpStoreK 31 (C) fits_rec (HRZL.out) (HCL.out) (HCO.out) ?_ ?_); rfl; intro v2 r_ o_ s_; have Tm_2 := Lib.hid (Tm_1.out.only o_ N_m_c.out); have Tc_2 := Lib.hid r_; have B_2 : Hid (Below w.heap.size w v2) := Lib.hid (B_1.out.trans (o_.below G_c.out B_1.out.size)); have c0 := (Tc_2.out.cell 0).trans HC0.out; clear r_ o_ s_ Tc_1 B_1 Tm_1)
              | ((with_reducible refine Tm_2.out.wpLoadK 28 fits_meta (HML.out) ?_ ?_); rfl)
              | ((with_reducible refine Tc_2.out.wpLoadK 31 fits_rec (HCL.out) ?_ ?_); rfl)
              | (go_at_call 8; (with_reducible refine (HDO.out v2).mono ?_); rintro e v3 ⟨rfl, b_⟩; have Tm_3 := Lib.hid (Tm_2.out.step b_); have Tc_3 := Lib.hid (Tc_2.out.step b_); have B_3 : Hid (Below w.heap.size w v3) := Lib.hid (B_2.out.next b_); clear b_ Tm_2 Tc_2 B_2)
              | ((with_reducible refine wpAllocK (w := v3) (Z) 28 HZ.out ?_ ?_); rfl; intro v4 r_ b_ s_; have N_m_x : Hid (ww2.heap.size ≠ v3.heap.size) := Lib.hid (by have := Tm_3.out.lt; omega); have N_c_x : Hid (wo.heap.size ≠ v3.heap.size) := Lib.hid (by have := Tc_3.out.lt; omega); have G_x : Hid (w.heap.size ≤ v3.heap.size) := Lib.hid (B_3.out.size); have Tm_4 := Lib.hid (Tm_3.out.step b_); have Tc_4 := Lib.hid (Tc_3.out.step b_); have B_4 : Hid (Below w.heap.size w v4) := Lib.hid (B_3.out.next b_); have Tx_4 := Lib.hid r_; clear r_ b_ s_ Tm_3 Tc_3 B_3)
              | ((with_reducible refine Tx_4.out.wpStoreK 28 (M) fits_meta (HZL.out) (HXL.out) (HXO.out) ?_ ?_); rfl; intro v5 r_ o_ s_; have Tm_5 := Lib.hid (Tm_4.out.only o_ N_m_x.out); have Tc_5 := Lib.hid (Tc_4.out.only o_ N_c_x.out); have Tx_5 := Lib.hid r_; have B_5 : Hid (Below w.heap.size w v5) := Lib.hid (B_4.out.trans (o_.below G_x.out B_4.out.size)); clear r_ o_ s_ Tx_4 B_4 Tm_4 Tc_4)
              | ((with_reducible refine Tx_5.out.wpLoadK 28 fits_meta (HXL.out) ?_ ?_); rfl)
              | (go_at_call 9; (with_reducible refine (HRI.out v5).mono ?_); rintro e v6 ⟨rfl, b_⟩; have Tm_6 := Lib.hid (Tm_5.out.step b_); have Tc_6 := Lib.hid (Tc_5.out.step b_); have Tx_6 := Lib.hid (Tx_5.out.step b_); have B_6 : Hid (Below w.heap.size w v6) := Lib.hid (B_5.out.next b_); have d10 := (Tm_6.out.cell 10).trans HM10.out; have d11 := (Tx_6.out.cell 10).trans HX10.out; have HGA := Lib.hid (HGR.out v6 _ Tx_6.out); clear b_ Tm_5 Tc_5 Tx_5 B_5)
              | ((with_reducible refine wpLoadRG HGA.out 25 fits_slot HGL.out ?_ ?_); rfl)
              | ((with_reducible refine Tx_6.out.wpLoadG 28 fits_meta (HXL.out) ?_ ?_); rfl)
              | ((with_reducible refine Tm_6.out.wpLoadG 28 fits_meta (HML.out) ?_ ?_); rfl)
              | ((with_reducible refine Tx_6.out.wpLoadK 28 fits_meta (HXL.out) ?_ ?_); rfl)
              | (go_at_call 10; (with_reducible refine (HTR.out v6).mono ?_); rintro e v7 ⟨rfl, b_⟩; have Tm_7 := Lib.hid (Tm_6.out.step b_); have Tc_7 := Lib.hid (Tc_6.out.step b_); have Tx_7 := Lib.hid (Tx_6.out.step b_); have B_7 : Hid (Below w.heap.size w v7) := Lib.hid (B_6.out.next b_); have f9 := (Tx_7.out.cell 9).trans HX9.out; have f0 := (Tx_7.out.cell 0).trans HXS.out; clear b_ Tm_6 Tc_6 Tx_6 B_6)
              | ((with_reducible refine Tx_7.out.wpLoadK 28 fits_meta (HXL.out) ?_ ?_); rfl)
              | ((with_reducible refine Tm_7.out.wpStoreK 28 (M) fits_meta (HML.out) (HXL.out) (HXO.out) ?_ ?_); rfl; intro v8 r_ o_ s_; have Tc_8 := Lib.hid (Tc_7.out.only o_ N_m_c.out.symm); have Tx_8 := Lib.hid (Tx_7.out.only o_ N_m_x.out.symm); have Tm_8 := Lib.hid r_; have B_8 : Hid (Below w.heap.size w v8) := Lib.hid (B_7.out.trans (o_.below G_m.out B_7.out.size)); clear r_ o_ s_ Tm_7 B_7 Tc_7 Tx_7))
            go_roundw
            case rel => exact ⟨k + 1, x, by omega, by go_num, HMR.out, by rw [HXX.out]; exact Tm_8.out, B_8.out⟩
            case measure => simp [intOf]; omega
        · rw [ht] at HTR
          have HX9 : Hid (X[9]? = some (.int .i64 1)) := Lib.hid (by rw [← hX]; show some (Value.int .i64 x.act) = _; rw [hac])
          have HXS : Hid (X[3]? = some (.int .i64 4)) := Lib.hid (by rw [← hX]; show some (Value.int .i64 x.b.s) = _; rw [hst])
          have HTR : Hid (∀ u, Calls Try.prog 10 #[.agg X.toArray] u fun e w' => e = .returned (.tuple #[.int .i64 0, .bool false]) ∧ Below u.heap.size u w') := Lib.hid fun u => HTR.out u
          clear ht hac hX hst
          by_cases he : e = 0
          · subst he
            clear HEX hem
            go_wp2_with (first
              | ((with_reducible refine wpLoadRK HRG.out 31 fits_rec HCL.out ?_ ?_); rfl)
              | ((with_reducible refine wpAllocK (w := wo) (RZ) 31 HRZ.out ?_ ?_); rfl; intro v1 r_ b_ s_; have N_m_c : Hid (ww2.heap.size ≠ wo.heap.size) := Lib.hid (by have := HM.out.lt; omega); have G_c : Hid (w.heap.size ≤ wo.heap.size) := Lib.hid (HBW.out.size); have Tm_1 := Lib.hid (HM.out.step b_); have B_1 : Hid (Below w.heap.size w v1) := Lib.hid (HBW.out.next b_); have Tc_1 := Lib.hid r_; clear r_ b_ s_ HM HBW)
              | ((with_reducible refine Tc_1.out.wpStoreK 31 (C) fits_rec (HRZL.out) (HCL.out) (HCO.out) ?_ ?_); rfl; intro v2 r_ o_ s_; have Tm_2 := Lib.hid (Tm_1.out.only o_ N_m_c.out); have Tc_2 := Lib.hid r_; have B_2 : Hid (Below w.heap.size w v2) := Lib.hid (B_1.out.trans (o_.below G_c.out B_1.out.size)); have c0 := (Tc_2.out.cell 0).trans HC0.out; clear r_ o_ s_ Tc_1 B_1 Tm_1)
              | ((with_reducible refine Tm_2.out.wpLoadK 28 fits_meta (HML.out) ?_ ?_); rfl)
              | ((with_reducible refine Tc_2.out.wpLoadK 31 fits_rec (HCL.out) ?_ ?_); rfl)
              | (go_at_call 8; (with_reducible refine (HDO.out v2).mono ?_); rintro e v3 ⟨rfl, b_⟩; have Tm_3 := Lib.hid (Tm_2.out.step b_); have Tc_3 := Lib.hid (Tc_2.out.step b_); have B_3 : Hid (Below w.heap.size w v3) := Lib.hid (B_2.out.next b_); clear b_ Tm_2 Tc_2 B_2)
              | ((with_reducible refine wpAllocK (w := v3) (Z) 28 HZ.out ?_ ?_); rfl; intro v4 r_ b_ s_; have N_m_x : Hid (ww2.heap.size ≠ v3.heap.size) := Lib.hid (by have := Tm_3.out.lt; omega); have N_c_x : Hid (wo.heap.size ≠ v3.heap.size) := Lib.hid (by have := Tc_3.out.lt; omega); have G_x : Hid (w.heap.size ≤ v3.heap.size) := Lib.hid (B_3.out.size); have Tm_4 := Lib.hid (Tm_3.out.step b_); have Tc_4 := Lib.hid (Tc_3.out.step b_); have B_4 : Hid (Below w.heap.size w v4) := Lib.hid (B_3.out.next b_); have Tx_4 := Lib.hid r_; clear r_ b_ s_ Tm_3 Tc_3 B_3)
              | ((with_reducible refine Tx_4.out.wpStoreK 28 (X) fits_meta (HZL.out) (HXL.out) (HXO.out) ?_ ?_); rfl; intro v5 r_ o_ s_; have Tm_5 := Lib.hid (Tm_4.out.only o_ N_m_x.out); have Tc_5 := Lib.hid (Tc_4.out.only o_ N_c_x.out); have Tx_5 := Lib.hid r_; have B_5 : Hid (Below w.heap.size w v5) := Lib.hid (B_4.out.trans (o_.below G_x.out B_4.out.size)); clear r_ o_ s_ Tx_4 B_4 Tm_4 Tc_4)
              | ((with_reducible refine Tx_5.out.wpLoadK 28 fits_meta (HXL.out) ?_ ?_); rfl)
              | (go_at_call 9; (with_reducible refine (HRI.out v5).mono ?_); rintro e v6 ⟨rfl, b_⟩; have Tm_6 := Lib.hid (Tm_5.out.step b_); have Tc_6 := Lib.hid (Tc_5.out.step b_); have Tx_6 := Lib.hid (Tx_5.out.step b_); have B_6 : Hid (Below w.heap.size w v6) := Lib.hid (B_5.out.next b_); have d10 := (Tm_6.out.cell 10).trans HM10.out; have d11 := (Tx_6.out.cell 10).trans HX10.out; have HGA := Lib.hid (HGR.out v6 _ Tx_6.out); clear b_ Tm_5 Tc_5 Tx_5 B_5)
              | ((with_reducible refine wpLoadRG HGA.out 25 fits_slot HGL.out ?_ ?_); rfl)
              | ((with_reducible refine Tx_6.out.wpLoadK 28 fits_meta (HXL.out) ?_ ?_); rfl)
              | (go_at_call 10; (with_reducible refine (HTR.out v6).mono ?_); rintro e v7 ⟨rfl, b_⟩; have Tm_7 := Lib.hid (Tm_6.out.step b_); have Tc_7 := Lib.hid (Tc_6.out.step b_); have Tx_7 := Lib.hid (Tx_6.out.step b_); have B_7 : Hid (Below w.heap.size w v7) := Lib.hid (B_6.out.next b_); have f9 := (Tx_7.out.cell 9).trans HX9.out; have f0 := (Tx_7.out.cell 3).trans HXS.out; clear b_ Tm_6 Tc_6 Tx_6 B_6)
              | ((with_reducible refine Tx_7.out.wpLoadK 28 fits_meta (HXL.out) ?_ ?_); rfl)
              | ((with_reducible refine Tm_7.out.wpStoreK 28 (X) fits_meta (HML.out) (HXL.out) (HXO.out) ?_ ?_); rfl; intro v8 r_ o_ s_; have Tc_8 := Lib.hid (Tc_7.out.only o_ N_m_c.out.symm); have Tx_8 := Lib.hid (Tx_7.out.only o_ N_m_x.out.symm); have Tm_8 := Lib.hid r_; have B_8 : Hid (Below w.heap.size w v8) := Lib.hid (B_7.out.trans (o_.below G_m.out B_7.out.size)); clear r_ o_ s_ Tm_7 B_7 Tc_7 Tx_7))
            go_roundw
            case rel => exact ⟨k + 1, x, by omega, by go_num, HMR.out, by rw [HXX.out]; exact Tm_8.out, B_8.out⟩
            case measure => simp [intOf]; omega
          · have hMX : M = X := by
              rcases HEX.out with h | h
              · exact absurd h he
              · exact h
            subst hMX
            have e1 : (e == (0 : Int)) = false := by simp [he]
            have e2 : (!(e == (0 : Int))) = true := by simp [he]
            have e3 : (e != (0 : Int)) = true := by simp [he]
            clear he HEX
            go_wp2_with (first
              | ((with_reducible refine wpLoadRK HRG.out 31 fits_rec HCL.out ?_ ?_); rfl)
              | ((with_reducible refine wpAllocK (w := wo) (RZ) 31 HRZ.out ?_ ?_); rfl; intro v1 r_ b_ s_; have N_m_c : Hid (ww2.heap.size ≠ wo.heap.size) := Lib.hid (by have := HM.out.lt; omega); have G_c : Hid (w.heap.size ≤ wo.heap.size) := Lib.hid (HBW.out.size); have Tm_1 := Lib.hid (HM.out.step b_); have B_1 : Hid (Below w.heap.size w v1) := Lib.hid (HBW.out.next b_); have Tc_1 := Lib.hid r_; clear r_ b_ s_ HM HBW)
              | ((with_reducible refine Tc_1.out.wpStoreK 31 (C) fits_rec (HRZL.out) (HCL.out) (HCO.out) ?_ ?_); rfl; intro v2 r_ o_ s_; have Tm_2 := Lib.hid (Tm_1.out.only o_ N_m_c.out); have Tc_2 := Lib.hid r_; have B_2 : Hid (Below w.heap.size w v2) := Lib.hid (B_1.out.trans (o_.below G_c.out B_1.out.size)); have c0 := (Tc_2.out.cell 0).trans HC0.out; clear r_ o_ s_ Tc_1 B_1 Tm_1)
              | ((with_reducible refine Tm_2.out.wpLoadK 28 fits_meta (HML.out) ?_ ?_); rfl)
              | ((with_reducible refine Tc_2.out.wpLoadK 31 fits_rec (HCL.out) ?_ ?_); rfl)
              | (go_at_call 8; (with_reducible refine (HDO.out v2).mono ?_); rintro e v3 ⟨rfl, b_⟩; have Tm_3 := Lib.hid (Tm_2.out.step b_); have Tc_3 := Lib.hid (Tc_2.out.step b_); have B_3 : Hid (Below w.heap.size w v3) := Lib.hid (B_2.out.next b_); clear b_ Tm_2 Tc_2 B_2)
              | ((with_reducible refine wpAllocK (w := v3) (Z) 28 HZ.out ?_ ?_); rfl; intro v4 r_ b_ s_; have N_m_x : Hid (ww2.heap.size ≠ v3.heap.size) := Lib.hid (by have := Tm_3.out.lt; omega); have N_c_x : Hid (wo.heap.size ≠ v3.heap.size) := Lib.hid (by have := Tc_3.out.lt; omega); have G_x : Hid (w.heap.size ≤ v3.heap.size) := Lib.hid (B_3.out.size); have Tm_4 := Lib.hid (Tm_3.out.step b_); have Tc_4 := Lib.hid (Tc_3.out.step b_); have B_4 : Hid (Below w.heap.size w v4) := Lib.hid (B_3.out.next b_); have Tx_4 := Lib.hid r_; clear r_ b_ s_ Tm_3 Tc_3 B_3)
              | ((with_reducible refine Tx_4.out.wpStoreK 28 (M) fits_meta (HZL.out) (HXL.out) (HXO.out) ?_ ?_); rfl; intro v5 r_ o_ s_; have Tm_5 := Lib.hid (Tm_4.out.only o_ N_m_x.out); have Tc_5 := Lib.hid (Tc_4.out.only o_ N_c_x.out); have Tx_5 := Lib.hid r_; have B_5 : Hid (Below w.heap.size w v5) := Lib.hid (B_4.out.trans (o_.below G_x.out B_4.out.size)); clear r_ o_ s_ Tx_4 B_4 Tm_4 Tc_4)
              | ((with_reducible refine Tx_5.out.wpLoadK 28 fits_meta (HXL.out) ?_ ?_); rfl)
              | (go_at_call 9; (with_reducible refine (HRI.out v5).mono ?_); rintro e v6 ⟨rfl, b_⟩; have Tm_6 := Lib.hid (Tm_5.out.step b_); have Tc_6 := Lib.hid (Tc_5.out.step b_); have Tx_6 := Lib.hid (Tx_5.out.step b_); have B_6 : Hid (Below w.heap.size w v6) := Lib.hid (B_5.out.next b_); have d10 := (Tm_6.out.cell 10).trans HM10.out; have d11 := (Tx_6.out.cell 10).trans HX10.out; have HGA := Lib.hid (HGR.out v6 _ Tx_6.out); clear b_ Tm_5 Tc_5 Tx_5 B_5)
              | ((with_reducible refine wpLoadRG HGA.out 25 fits_slot HGL.out ?_ ?_); rfl)
              | ((with_reducible refine Tx_6.out.wpLoadG 28 fits_meta (HXL.out) ?_ ?_); rfl)
              | ((with_reducible refine Tm_6.out.wpLoadG 28 fits_meta (HML.out) ?_ ?_); rfl)
              | ((with_reducible refine Tx_6.out.wpLoadK 28 fits_meta (HXL.out) ?_ ?_); rfl)
              | (go_at_call 10; (with_reducible refine (HTR.out v6).mono ?_); rintro e v7 ⟨rfl, b_⟩; have Tm_7 := Lib.hid (Tm_6.out.step b_); have Tc_7 := Lib.hid (Tc_6.out.step b_); have Tx_7 := Lib.hid (Tx_6.out.step b_); have B_7 : Hid (Below w.heap.size w v7) := Lib.hid (B_6.out.next b_); have f9 := (Tx_7.out.cell 9).trans HX9.out; have f0 := (Tx_7.out.cell 3).trans HXS.out; clear b_ Tm_6 Tc_6 Tx_6 B_6)
              | ((with_reducible refine Tx_7.out.wpLoadK 28 fits_meta (HXL.out) ?_ ?_); rfl)
              | ((with_reducible refine Tm_7.out.wpStoreK 28 (M) fits_meta (HML.out) (HXL.out) (HXO.out) ?_ ?_); rfl; intro v8 r_ o_ s_; have Tc_8 := Lib.hid (Tc_7.out.only o_ N_m_c.out.symm); have Tx_8 := Lib.hid (Tx_7.out.only o_ N_m_x.out.symm); have Tm_8 := Lib.hid r_; have B_8 : Hid (Below w.heap.size w v8) := Lib.hid (B_7.out.trans (o_.below G_m.out B_7.out.size)); clear r_ o_ s_ Tm_7 B_7 Tc_7 Tx_7))
            go_roundw
            case rel => exact ⟨k + 1, x, by omega, by go_num, HMR.out, by rw [HXX.out]; exact Tm_8.out, B_8.out⟩
            case measure => simp [intOf]; omega
        · rw [ht] at HTR
          have HX9 : Hid (X[9]? = some (.int .i64 2)) := Lib.hid (by rw [← hX]; show some (Value.int .i64 x.act) = _; rw [hac])
          have HXS : Hid (X[6]? = some (.int .i64 4)) := Lib.hid (by rw [← hX]; show some (Value.int .i64 x.c.s) = _; rw [hst])
          have HTR : Hid (∀ u, Calls Try.prog 10 #[.agg X.toArray] u fun e w' => e = .returned (.tuple #[.int .i64 0, .bool false]) ∧ Below u.heap.size u w') := Lib.hid fun u => HTR.out u
          clear ht hac hX hst
          by_cases he : e = 0
          · subst he
            clear HEX hem
            go_wp2_with (first
              | ((with_reducible refine wpLoadRK HRG.out 31 fits_rec HCL.out ?_ ?_); rfl)
              | ((with_reducible refine wpAllocK (w := wo) (RZ) 31 HRZ.out ?_ ?_); rfl; intro v1 r_ b_ s_; have N_m_c : Hid (ww2.heap.size ≠ wo.heap.size) := Lib.hid (by have := HM.out.lt; omega); have G_c : Hid (w.heap.size ≤ wo.heap.size) := Lib.hid (HBW.out.size); have Tm_1 := Lib.hid (HM.out.step b_); have B_1 : Hid (Below w.heap.size w v1) := Lib.hid (HBW.out.next b_); have Tc_1 := Lib.hid r_; clear r_ b_ s_ HM HBW)
              | ((with_reducible refine Tc_1.out.wpStoreK 31 (C) fits_rec (HRZL.out) (HCL.out) (HCO.out) ?_ ?_); rfl; intro v2 r_ o_ s_; have Tm_2 := Lib.hid (Tm_1.out.only o_ N_m_c.out); have Tc_2 := Lib.hid r_; have B_2 : Hid (Below w.heap.size w v2) := Lib.hid (B_1.out.trans (o_.below G_c.out B_1.out.size)); have c0 := (Tc_2.out.cell 0).trans HC0.out; clear r_ o_ s_ Tc_1 B_1 Tm_1)
              | ((with_reducible refine Tm_2.out.wpLoadK 28 fits_meta (HML.out) ?_ ?_); rfl)
              | ((with_reducible refine Tc_2.out.wpLoadK 31 fits_rec (HCL.out) ?_ ?_); rfl)
              | (go_at_call 8; (with_reducible refine (HDO.out v2).mono ?_); rintro e v3 ⟨rfl, b_⟩; have Tm_3 := Lib.hid (Tm_2.out.step b_); have Tc_3 := Lib.hid (Tc_2.out.step b_); have B_3 : Hid (Below w.heap.size w v3) := Lib.hid (B_2.out.next b_); clear b_ Tm_2 Tc_2 B_2)
              | ((with_reducible refine wpAllocK (w := v3) (Z) 28 HZ.out ?_ ?_); rfl; intro v4 r_ b_ s_; have N_m_x : Hid (ww2.heap.size ≠ v3.heap.size) := Lib.hid (by have := Tm_3.out.lt; omega); have N_c_x : Hid (wo.heap.size ≠ v3.heap.size) := Lib.hid (by have := Tc_3.out.lt; omega); have G_x : Hid (w.heap.size ≤ v3.heap.size) := Lib.hid (B_3.out.size); have Tm_4 := Lib.hid (Tm_3.out.step b_); have Tc_4 := Lib.hid (Tc_3.out.step b_); have B_4 : Hid (Below w.heap.size w v4) := Lib.hid (B_3.out.next b_); have Tx_4 := Lib.hid r_; clear r_ b_ s_ Tm_3 Tc_3 B_3)
              | ((with_reducible refine Tx_4.out.wpStoreK 28 (X) fits_meta (HZL.out) (HXL.out) (HXO.out) ?_ ?_); rfl; intro v5 r_ o_ s_; have Tm_5 := Lib.hid (Tm_4.out.only o_ N_m_x.out); have Tc_5 := Lib.hid (Tc_4.out.only o_ N_c_x.out); have Tx_5 := Lib.hid r_; have B_5 : Hid (Below w.heap.size w v5) := Lib.hid (B_4.out.trans (o_.below G_x.out B_4.out.size)); clear r_ o_ s_ Tx_4 B_4 Tm_4 Tc_4)
              | ((with_reducible refine Tx_5.out.wpLoadK 28 fits_meta (HXL.out) ?_ ?_); rfl)
              | (go_at_call 9; (with_reducible refine (HRI.out v5).mono ?_); rintro e v6 ⟨rfl, b_⟩; have Tm_6 := Lib.hid (Tm_5.out.step b_); have Tc_6 := Lib.hid (Tc_5.out.step b_); have Tx_6 := Lib.hid (Tx_5.out.step b_); have B_6 : Hid (Below w.heap.size w v6) := Lib.hid (B_5.out.next b_); have d10 := (Tm_6.out.cell 10).trans HM10.out; have d11 := (Tx_6.out.cell 10).trans HX10.out; have HGA := Lib.hid (HGR.out v6 _ Tx_6.out); clear b_ Tm_5 Tc_5 Tx_5 B_5)
              | ((with_reducible refine wpLoadRG HGA.out 25 fits_slot HGL.out ?_ ?_); rfl)
              | ((with_reducible refine Tx_6.out.wpLoadK 28 fits_meta (HXL.out) ?_ ?_); rfl)
              | (go_at_call 10; (with_reducible refine (HTR.out v6).mono ?_); rintro e v7 ⟨rfl, b_⟩; have Tm_7 := Lib.hid (Tm_6.out.step b_); have Tc_7 := Lib.hid (Tc_6.out.step b_); have Tx_7 := Lib.hid (Tx_6.out.step b_); have B_7 : Hid (Below w.heap.size w v7) := Lib.hid (B_6.out.next b_); have f9 := (Tx_7.out.cell 9).trans HX9.out; have f0 := (Tx_7.out.cell 6).trans HXS.out; clear b_ Tm_6 Tc_6 Tx_6 B_6)
              | ((with_reducible refine Tx_7.out.wpLoadK 28 fits_meta (HXL.out) ?_ ?_); rfl)
              | ((with_reducible refine Tm_7.out.wpStoreK 28 (X) fits_meta (HML.out) (HXL.out) (HXO.out) ?_ ?_); rfl; intro v8 r_ o_ s_; have Tc_8 := Lib.hid (Tc_7.out.only o_ N_m_c.out.symm); have Tx_8 := Lib.hid (Tx_7.out.only o_ N_m_x.out.symm); have Tm_8 := Lib.hid r_; have B_8 : Hid (Below w.heap.size w v8) := Lib.hid (B_7.out.trans (o_.below G_m.out B_7.out.size)); clear r_ o_ s_ Tm_7 B_7 Tc_7 Tx_7))
            go_roundw
            case rel => exact ⟨k + 1, x, by omega, by go_num, HMR.out, by rw [HXX.out]; exact Tm_8.out, B_8.out⟩
            case measure => simp [intOf]; omega
          · have hMX : M = X := by
              rcases HEX.out with h | h
              · exact absurd h he
              · exact h
            subst hMX
            have e1 : (e == (0 : Int)) = false := by simp [he]
            have e2 : (!(e == (0 : Int))) = true := by simp [he]
            have e3 : (e != (0 : Int)) = true := by simp [he]
            clear he HEX
            go_wp2_with (first
              | ((with_reducible refine wpLoadRK HRG.out 31 fits_rec HCL.out ?_ ?_); rfl)
              | ((with_reducible refine wpAllocK (w := wo) (RZ) 31 HRZ.out ?_ ?_); rfl; intro v1 r_ b_ s_; have N_m_c : Hid (ww2.heap.size ≠ wo.heap.size) := Lib.hid (by have := HM.out.lt; omega); have G_c : Hid (w.heap.size ≤ wo.heap.size) := Lib.hid (HBW.out.size); have Tm_1 := Lib.hid (HM.out.step b_); have B_1 : Hid (Below w.heap.size w v1) := Lib.hid (HBW.out.next b_); have Tc_1 := Lib.hid r_; clear r_ b_ s_ HM HBW)
              | ((with_reducible refine Tc_1.out.wpStoreK 31 (C) fits_rec (HRZL.out) (HCL.out) (HCO.out) ?_ ?_); rfl; intro v2 r_ o_ s_; have Tm_2 := Lib.hid (Tm_1.out.only o_ N_m_c.out); have Tc_2 := Lib.hid r_; have B_2 : Hid (Below w.heap.size w v2) := Lib.hid (B_1.out.trans (o_.below G_c.out B_1.out.size)); have c0 := (Tc_2.out.cell 0).trans HC0.out; clear r_ o_ s_ Tc_1 B_1 Tm_1)
              | ((with_reducible refine Tm_2.out.wpLoadK 28 fits_meta (HML.out) ?_ ?_); rfl)
              | ((with_reducible refine Tc_2.out.wpLoadK 31 fits_rec (HCL.out) ?_ ?_); rfl)
              | (go_at_call 8; (with_reducible refine (HDO.out v2).mono ?_); rintro e v3 ⟨rfl, b_⟩; have Tm_3 := Lib.hid (Tm_2.out.step b_); have Tc_3 := Lib.hid (Tc_2.out.step b_); have B_3 : Hid (Below w.heap.size w v3) := Lib.hid (B_2.out.next b_); clear b_ Tm_2 Tc_2 B_2)
              | ((with_reducible refine wpAllocK (w := v3) (Z) 28 HZ.out ?_ ?_); rfl; intro v4 r_ b_ s_; have N_m_x : Hid (ww2.heap.size ≠ v3.heap.size) := Lib.hid (by have := Tm_3.out.lt; omega); have N_c_x : Hid (wo.heap.size ≠ v3.heap.size) := Lib.hid (by have := Tc_3.out.lt; omega); have G_x : Hid (w.heap.size ≤ v3.heap.size) := Lib.hid (B_3.out.size); have Tm_4 := Lib.hid (Tm_3.out.step b_); have Tc_4 := Lib.hid (Tc_3.out.step b_); have B_4 : Hid (Below w.heap.size w v4) := Lib.hid (B_3.out.next b_); have Tx_4 := Lib.hid r_; clear r_ b_ s_ Tm_3 Tc_3 B_3)
              | ((with_reducible refine Tx_4.out.wpStoreK 28 (M) fits_meta (HZL.out) (HXL.out) (HXO.out) ?_ ?_); rfl; intro v5 r_ o_ s_; have Tm_5 := Lib.hid (Tm_4.out.only o_ N_m_x.out); have Tc_5 := Lib.hid (Tc_4.out.only o_ N_c_x.out); have Tx_5 := Lib.hid r_; have B_5 : Hid (Below w.heap.size w v5) := Lib.hid (B_4.out.trans (o_.below G_x.out B_4.out.size)); clear r_ o_ s_ Tx_4 B_4 Tm_4 Tc_4)
              | ((with_reducible refine Tx_5.out.wpLoadK 28 fits_meta (HXL.out) ?_ ?_); rfl)
              | (go_at_call 9; (with_reducible refine (HRI.out v5).mono ?_); rintro e v6 ⟨rfl, b_⟩; have Tm_6 := Lib.hid (Tm_5.out.step b_); have Tc_6 := Lib.hid (Tc_5.out.step b_); have Tx_6 := Lib.hid (Tx_5.out.step b_); have B_6 : Hid (Below w.heap.size w v6) := Lib.hid (B_5.out.next b_); have d10 := (Tm_6.out.cell 10).trans HM10.out; have d11 := (Tx_6.out.cell 10).trans HX10.out; have HGA := Lib.hid (HGR.out v6 _ Tx_6.out); clear b_ Tm_5 Tc_5 Tx_5 B_5)
              | ((with_reducible refine wpLoadRG HGA.out 25 fits_slot HGL.out ?_ ?_); rfl)
              | ((with_reducible refine Tx_6.out.wpLoadG 28 fits_meta (HXL.out) ?_ ?_); rfl)
              | ((with_reducible refine Tm_6.out.wpLoadG 28 fits_meta (HML.out) ?_ ?_); rfl)
              | ((with_reducible refine Tx_6.out.wpLoadK 28 fits_meta (HXL.out) ?_ ?_); rfl)
              | (go_at_call 10; (with_reducible refine (HTR.out v6).mono ?_); rintro e v7 ⟨rfl, b_⟩; have Tm_7 := Lib.hid (Tm_6.out.step b_); have Tc_7 := Lib.hid (Tc_6.out.step b_); have Tx_7 := Lib.hid (Tx_6.out.step b_); have B_7 : Hid (Below w.heap.size w v7) := Lib.hid (B_6.out.next b_); have f9 := (Tx_7.out.cell 9).trans HX9.out; have f0 := (Tx_7.out.cell 6).trans HXS.out; clear b_ Tm_6 Tc_6 Tx_6 B_6)
              | ((with_reducible refine Tx_7.out.wpLoadK 28 fits_meta (HXL.out) ?_ ?_); rfl)
              | ((with_reducible refine Tm_7.out.wpStoreK 28 (M) fits_meta (HML.out) (HXL.out) (HXO.out) ?_ ?_); rfl; intro v8 r_ o_ s_; have Tc_8 := Lib.hid (Tc_7.out.only o_ N_m_c.out.symm); have Tx_8 := Lib.hid (Tx_7.out.only o_ N_m_x.out.symm); have Tm_8 := Lib.hid r_; have B_8 : Hid (Below w.heap.size w v8) := Lib.hid (B_7.out.trans (o_.below G_m.out B_7.out.size)); clear r_ o_ s_ Tm_7 B_7 Tc_7 Tx_7))
            go_roundw
            case rel => exact ⟨k + 1, x, by omega, by go_num, HMR.out, by rw [HXX.out]; exact Tm_8.out, B_8.out⟩
            case measure => simp [intOf]; omega
    · go_wp2
      go_ret
      exact ⟨rfl, HBW.out⟩
end Go.Proofs.Ytbpdnaiackfdmaa
