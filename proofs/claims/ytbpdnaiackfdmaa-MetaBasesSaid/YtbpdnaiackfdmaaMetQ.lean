/- The document's Right. -/
import Derived.Test.YtbpdnaiackfdmaaMetP
namespace Go.Proofs.Ytbpdnaiackfdmaa
open Go.RowKit MetMath
set_option linter.unusedVariables false
set_option linter.unusedSimpArgs false
set_option maxRecDepth 100000

theorem met_rvalue_any (x : Int) (w : World) : Calls Try.prog 24 #[.int .i64 x] w fun e w' => e = .returned (.bool (val x)) ∧ w' = w := by
  by_cases h0 : 0 ≤ x
  · rw [show val x = decide (x < 281474976710656) by simp only [val, h0, decide_true, Bool.true_and]; rw [decide_eq_decide]; omega]
    go_enter Try.func24, Try.ntmps24
    go_wp2
    go_ret
    exact ⟨ret_bool (by simp), rfl⟩
  · rw [show val x = false by simp [val, h0]]
    go_enter Try.func24, Try.ntmps24
    go_wp2
    go_ret
    exact ⟨ret_bool (by simp [h0]), rfl⟩
theorem val_at (x : Int) (r : Bool) (h : val x = r) (w : World) : Calls Try.prog 24 #[.int .i64 x] w fun e w' => e = .returned (.bool r) ∧ w' = w := by
  rw [← h]; exact met_rvalue_any x w
def Mt.slot (m : Mt) (j : Nat) : Sl := if j = 0 then m.a else if j = 1 then m.b else m.c
theorem slot_range {w : World} {g : Nat} {t : TypeId} {m : Mt} {M : List Value} (hM : mcs m = M) (h : Row w g t M) (j : Nat) (hj : j < 3) : w.rangeAt g (j * 3) (slc (Mt.slot m j)) := by
  subst hM
  have hj3 : j = 0 ∨ j = 1 ∨ j = 2 := by omega
  intro q v hv
  rw [h.cell]
  rcases hj3 with rfl | rfl | rfl <;>
  · match q, hv with
    | 0, hv => exact hv
    | 1, hv => exact hv
    | 2, hv => exact hv
    | q + 3, hv => exact absurd hv (by simp [slc])
set_option maxHeartbeats 8000000 in
theorem met_rright_any (m : Mt) (w : World) : Calls Try.prog 12 #[.agg (mcs m).toArray] w fun e w' => e = .returned (.bool m.right) ∧ Below w.heap.size w w' := by
  have HRES := Lib.hid (right_parts m)
  obtain ⟨R, hR⟩ : ∃ R, m.right = R := ⟨_, rfl⟩
  rw [hR] at HRES ⊢
  obtain ⟨v1, hv1⟩ : ∃ r, val m.flo = r := ⟨_, rfl⟩
  obtain ⟨v2, hv2⟩ : ∃ r, val m.cur = r := ⟨_, rfl⟩
  obtain ⟨v3, hv3⟩ : ∃ r, val m.int = r := ⟨_, rfl⟩
  have V1 := Lib.hid (val_at m.flo v1 hv1)
  have V2 := Lib.hid (val_at m.cur v2 hv2)
  have V3 := Lib.hid (val_at m.int v3 hv3)
  rw [hv1, hv2, hv3] at HRES
  obtain ⟨Z, hZ⟩ : ∃ Z, slc ⟨0, 0, 0⟩ = Z := ⟨_, rfl⟩
  have HZ : Hid (∀ u, (zeroValue 42).run Try.prog u = .ok (.agg Z.toArray) u) := Lib.hid (by rw [← hZ]; exact zero_rslot)
  have HZL : Hid (Z.length = 3) := Lib.hid (by rw [← hZ]; rfl)
  obtain ⟨M, hM⟩ : ∃ M, mcs m = M := ⟨_, rfl⟩
  have HMM := Lib.hid hM
  rw [hM]
  obtain ⟨ac, hac⟩ : ∃ x, m.act = x := ⟨_, rfl⟩
  obtain ⟨sg, hsg⟩ : ∃ x, m.a.s = x := ⟨_, rfl⟩
  have HSG := Lib.hid hsg
  have HC0 : Hid (M[0]? = some (.int .i64 sg)) := Lib.hid (by rw [← hM, ← hsg]; rfl)
  have HC9 : Hid (M[9]? = some (.int .i64 ac)) := Lib.hid (by rw [← hM, ← hac]; rfl)
  have HC10 : Hid (M[10]? = some (.int .i64 m.flo)) := Lib.hid (by rw [← hM]; rfl)
  have HC11 : Hid (M[11]? = some (.int .i64 m.cur)) := Lib.hid (by rw [← hM]; rfl)
  have HC12 : Hid (M[12]? = some (.int .i64 m.int)) := Lib.hid (by rw [← hM]; rfl)
  rw [hac, hsg] at HRES
  obtain ⟨fl, hfl⟩ : ∃ x, m.flo = x := ⟨_, rfl⟩
  obtain ⟨cu, hcu⟩ : ∃ x, m.cur = x := ⟨_, rfl⟩
  obtain ⟨nt, hnt⟩ : ∃ x, m.int = x := ⟨_, rfl⟩
  rw [hfl] at V1 HC10
  rw [hcu] at V2 HC11
  rw [hnt] at V3 HC12
  clear hR hv1 hv2 hv3 hZ hM hac hsg hfl hcu hnt
  by_cases ha0 : ac < 0
  · have hs : isS ac = false := by simp only [isS, Bool.and_eq_false_iff, decide_eq_false_iff_not]; omega
    have HE : Hid (R = false) := Lib.hid (by rw [HRES.out]; rw [hs]; rfl)
    clear HRES
    go_enter Try.func12, Try.ntmps12
    go_wp2_with (first
      | ((with_reducible refine wpBoxK (w := w) (M) 45 ?_ ?_); rfl; intro ww1 r_ b_ s_; have G_m : Hid (w.heap.size ≤ w.heap.size) := Lib.hid (Nat.le_refl _); have B_1 : Hid (Below w.heap.size w ww1) := Lib.hid (b_); have Tm_1 := Lib.hid r_; have c0 := (Tm_1.out.cell 0).trans HC0.out; have c9 := (Tm_1.out.cell 9).trans HC9.out; have c10 := (Tm_1.out.cell 10).trans HC10.out; have c11 := (Tm_1.out.cell 11).trans HC11.out; have c12 := (Tm_1.out.cell 12).trans HC12.out; clear r_ b_ s_))
    go_ret
    exact ⟨ret_bool HE.out.symm, B_1.out⟩
  by_cases ha1 : 2 < ac
  · have hs : isS ac = false := by simp only [isS, Bool.and_eq_false_iff, decide_eq_false_iff_not]; omega
    have HE : Hid (R = false) := Lib.hid (by rw [HRES.out]; rw [hs]; rfl)
    clear HRES
    go_enter Try.func12, Try.ntmps12
    go_wp2_with (first
      | ((with_reducible refine wpBoxK (w := w) (M) 45 ?_ ?_); rfl; intro ww1 r_ b_ s_; have G_m : Hid (w.heap.size ≤ w.heap.size) := Lib.hid (Nat.le_refl _); have B_1 : Hid (Below w.heap.size w ww1) := Lib.hid (b_); have Tm_1 := Lib.hid r_; have c0 := (Tm_1.out.cell 0).trans HC0.out; have c9 := (Tm_1.out.cell 9).trans HC9.out; have c10 := (Tm_1.out.cell 10).trans HC10.out; have c11 := (Tm_1.out.cell 11).trans HC11.out; have c12 := (Tm_1.out.cell 12).trans HC12.out; clear r_ b_ s_))
    go_ret
    exact ⟨ret_bool HE.out.symm, B_1.out⟩
  have hs1 : isS ac = true := by simp only [isS, Bool.and_eq_true, decide_eq_true_eq]; omega
  rw [hs1] at HRES
  cases v1 with
  | false =>
    have HE : Hid (R = false) := Lib.hid (by rw [HRES.out]; rfl)
    clear HRES
    go_enter Try.func12, Try.ntmps12
    go_wp2_with (first
      | ((with_reducible refine wpBoxK (w := w) (M) 45 ?_ ?_); rfl; intro ww1 r_ b_ s_; have G_m : Hid (w.heap.size ≤ w.heap.size) := Lib.hid (Nat.le_refl _); have B_1 : Hid (Below w.heap.size w ww1) := Lib.hid (b_); have Tm_1 := Lib.hid r_; have c0 := (Tm_1.out.cell 0).trans HC0.out; have c9 := (Tm_1.out.cell 9).trans HC9.out; have c10 := (Tm_1.out.cell 10).trans HC10.out; have c11 := (Tm_1.out.cell 11).trans HC11.out; have c12 := (Tm_1.out.cell 12).trans HC12.out; clear r_ b_ s_)
      | (go_at_call 24; (with_reducible refine (V1.out ww1).mono ?_); rintro e _ ⟨rfl, hq_⟩; obtain rfl := hq_.symm))
    go_ret
    exact ⟨ret_bool HE.out.symm, B_1.out⟩
  | true =>
    cases v2 with
    | false =>
      have HE : Hid (R = false) := Lib.hid (by rw [HRES.out]; rfl)
      clear HRES
      go_enter Try.func12, Try.ntmps12
      go_wp2_with (first
        | ((with_reducible refine wpBoxK (w := w) (M) 45 ?_ ?_); rfl; intro ww1 r_ b_ s_; have G_m : Hid (w.heap.size ≤ w.heap.size) := Lib.hid (Nat.le_refl _); have B_1 : Hid (Below w.heap.size w ww1) := Lib.hid (b_); have Tm_1 := Lib.hid r_; have c0 := (Tm_1.out.cell 0).trans HC0.out; have c9 := (Tm_1.out.cell 9).trans HC9.out; have c10 := (Tm_1.out.cell 10).trans HC10.out; have c11 := (Tm_1.out.cell 11).trans HC11.out; have c12 := (Tm_1.out.cell 12).trans HC12.out; clear r_ b_ s_)
        | (go_at_call 24; (with_reducible refine (V1.out ww1).mono ?_); rintro e _ ⟨rfl, hq_⟩; obtain rfl := hq_.symm)
        | (go_at_call 24; (with_reducible refine (V2.out ww1).mono ?_); rintro e _ ⟨rfl, hq_⟩; obtain rfl := hq_.symm))
      go_ret
      exact ⟨ret_bool HE.out.symm, B_1.out⟩
    | true =>
      cases v3 with
      | false =>
        have HE : Hid (R = false) := Lib.hid (by rw [HRES.out]; rfl)
        clear HRES
        go_enter Try.func12, Try.ntmps12
        go_wp2_with (first
          | ((with_reducible refine wpBoxK (w := w) (M) 45 ?_ ?_); rfl; intro ww1 r_ b_ s_; have G_m : Hid (w.heap.size ≤ w.heap.size) := Lib.hid (Nat.le_refl _); have B_1 : Hid (Below w.heap.size w ww1) := Lib.hid (b_); have Tm_1 := Lib.hid r_; have c0 := (Tm_1.out.cell 0).trans HC0.out; have c9 := (Tm_1.out.cell 9).trans HC9.out; have c10 := (Tm_1.out.cell 10).trans HC10.out; have c11 := (Tm_1.out.cell 11).trans HC11.out; have c12 := (Tm_1.out.cell 12).trans HC12.out; clear r_ b_ s_)
          | (go_at_call 24; (with_reducible refine (V1.out ww1).mono ?_); rintro e _ ⟨rfl, hq_⟩; obtain rfl := hq_.symm)
          | (go_at_call 24; (with_reducible refine (V2.out ww1).mono ?_); rintro e _ ⟨rfl, hq_⟩; obtain rfl := hq_.symm)
          | (go_at_call 24; (with_reducible refine (V3.out ww1).mono ?_); rintro e _ ⟨rfl, hq_⟩; obtain rfl := hq_.symm))
        go_ret
        exact ⟨ret_bool HE.out.symm, B_1.out⟩
      | true =>
        by_cases hg : sg = 4
        case neg =>
          have e1 : (sg == (4 : Int)) = false := by simp [hg]
          have e2 : (!(sg == (4 : Int))) = true := by simp [hg]
          have e3 : (sg != (4 : Int)) = true := by simp [hg]
          have HE : Hid (R = false) := Lib.hid (by rw [HRES.out]; rw [e1]; simp)
          clear HRES
          go_enter Try.func12, Try.ntmps12
          go_wp2_with (first
            | ((with_reducible refine wpBoxK (w := w) (M) 45 ?_ ?_); rfl; intro ww1 r_ b_ s_; have G_m : Hid (w.heap.size ≤ w.heap.size) := Lib.hid (Nat.le_refl _); have B_1 : Hid (Below w.heap.size w ww1) := Lib.hid (b_); have Tm_1 := Lib.hid r_; have c0 := (Tm_1.out.cell 0).trans HC0.out; have c9 := (Tm_1.out.cell 9).trans HC9.out; have c10 := (Tm_1.out.cell 10).trans HC10.out; have c11 := (Tm_1.out.cell 11).trans HC11.out; have c12 := (Tm_1.out.cell 12).trans HC12.out; clear r_ b_ s_)
            | (go_at_call 24; (with_reducible refine (V1.out ww1).mono ?_); rintro e _ ⟨rfl, hq_⟩; obtain rfl := hq_.symm)
            | (go_at_call 24; (with_reducible refine (V2.out ww1).mono ?_); rintro e _ ⟨rfl, hq_⟩; obtain rfl := hq_.symm)
            | (go_at_call 24; (with_reducible refine (V3.out ww1).mono ?_); rintro e _ ⟨rfl, hq_⟩; obtain rfl := hq_.symm))
          go_ret
          exact ⟨ret_bool HE.out.symm, B_1.out⟩
        subst hg
        go_enter Try.func12, Try.ntmps12
        go_wp2_with (first
          | ((with_reducible refine wpBoxK (w := w) (M) 45 ?_ ?_); rfl; intro ww1 r_ b_ s_; have G_m : Hid (w.heap.size ≤ w.heap.size) := Lib.hid (Nat.le_refl _); have B_1 : Hid (Below w.heap.size w ww1) := Lib.hid (b_); have Tm_1 := Lib.hid r_; have c0 := (Tm_1.out.cell 0).trans HC0.out; have c9 := (Tm_1.out.cell 9).trans HC9.out; have c10 := (Tm_1.out.cell 10).trans HC10.out; have c11 := (Tm_1.out.cell 11).trans HC11.out; have c12 := (Tm_1.out.cell 12).trans HC12.out; clear r_ b_ s_)
          | (go_at_call 24; (with_reducible refine (V1.out ww1).mono ?_); rintro e _ ⟨rfl, hq_⟩; obtain rfl := hq_.symm)
          | (go_at_call 24; (with_reducible refine (V2.out ww1).mono ?_); rintro e _ ⟨rfl, hq_⟩; obtain rfl := hq_.symm)
          | (go_at_call 24; (with_reducible refine (V3.out ww1).mono ?_); rintro e _ ⟨rfl, hq_⟩; obtain rfl := hq_.symm))
        go_loopw [3] (fun i wr => ∃ j : Nat, j ≤ 3 ∧ i = .int .i64 (j : Int) ∧ (1 ≤ j → okS m.a ac 0 = true) ∧ (2 ≤ j → okS m.b ac 1 = true) ∧ (3 ≤ j → okS m.c ac 2 = true) ∧ Row wr (w.heap.size) 45 M ∧ Below w.heap.size w wr) (fun i _ => 3 - (intOf i).toNat)
        case atStart => exact ⟨0, by omega, rfl, by omega, by omega, by omega, Tm_1.out, B_1.out⟩
        case round =>
          obtain ⟨j, hj, rfl, hj0, hj1, hj2, hm, hbw⟩ := hrel
          have HM := Lib.hid hm
          have HBW := Lib.hid hbw
          have J0 := Lib.hid hj0
          have J1 := Lib.hid hj1
          have J2 := Lib.hid hj2
          have G_m : Hid (w.heap.size ≤ w.heap.size) := Lib.hid G_m.out
          clear hm hbw hj0 hj1 hj2
          by_cases hlt : j < 3
          · obtain ⟨x, hx⟩ : ∃ x, Mt.slot m j = x := ⟨_, rfl⟩
            have HRG := Lib.hid (slot_range HMM.out HM.out j hlt)
            rw [hx] at HRG
            have HJ : Hid (okS x ac j = true → (1 ≤ j + 1 → okS m.a ac 0 = true) ∧ (2 ≤ j + 1 → okS m.b ac 1 = true) ∧ (3 ≤ j + 1 → okS m.c ac 2 = true)) := Lib.hid fun ho => by
              have hj3 : j = 0 ∨ j = 1 ∨ j = 2 := by omega
              rcases hj3 with rfl | rfl | rfl
              · exact ⟨fun _ => by rw [show m.a = x from hx]; exact ho, by omega, by omega⟩
              · exact ⟨fun _ => J0.out (by omega), fun _ => by rw [show m.b = x from hx]; exact ho, by omega⟩
              · exact ⟨fun _ => J0.out (by omega), fun _ => J1.out (by omega), fun _ => by rw [show m.c = x from hx]; exact ho⟩
            have HN : Hid (okS x ac j = false → R = false) := Lib.hid fun ho => by
              have hj3 : j = 0 ∨ j = 1 ∨ j = 2 := by omega
              rw [HRES.out]
              rcases hj3 with rfl | rfl | rfl
              · rw [show m.a = x from hx, show okS x ac 0 = false from ho]; simp
              · rw [show m.b = x from hx, show okS x ac 1 = false from ho]; simp
              · rw [show m.c = x from hx, show okS x ac 2 = false from ho]; simp
            obtain ⟨st, vv, bb⟩ := x
            obtain ⟨q, hq⟩ : ∃ r, val vv = r := ⟨_, rfl⟩
            have HV := Lib.hid (val_at vv q hq)
            have HOK : Hid (okS ⟨st, vv, bb⟩ ac j = (stOk st && q && (decide (0 ≤ bb) && decide (bb ≤ 512)) && (bb == 0 || st == 3) && (vv == 0 || st == 2 || st == 3 || st == 4) && (st != 3 || ac == j))) := Lib.hid (by rw [← hq]; rfl)
            obtain ⟨Y, hY⟩ : ∃ Y, slc ⟨st, vv, bb⟩ = Y := ⟨_, rfl⟩
            rw [hY] at HRG
            have HYL : Hid (Y.length = 3) := Lib.hid (by rw [← hY]; rfl)
            have HYO : Hid (Y.all (·.oneCell') = true) := Lib.hid (by rw [← hY]; rfl)
            have HY0 : Hid (Y[0]? = some (.int .i64 st)) := Lib.hid (by rw [← hY]; rfl)
            have HY1 : Hid (Y[1]? = some (.int .i64 vv)) := Lib.hid (by rw [← hY]; rfl)
            have HY2 : Hid (Y[2]? = some (.int .i64 bb)) := Lib.hid (by rw [← hY]; rfl)
            clear hx hY hq
            by_cases h1 : st < 0
            · have hso : stOk st = false := by simp only [stOk, Bool.and_eq_false_iff, decide_eq_false_iff_not]; omega
              have HE : Hid (R = false) := Lib.hid (HN.out (by rw [HOK.out]; rw [hso]; rfl))
              clear HJ HN HOK
              go_wp2_with (first
                | ((with_reducible refine wpLoadRK HRG.out 42 fits_rslot HYL.out ?_ ?_); rfl)
                | ((with_reducible refine wpAllocK (w := wr) (Z) 42 HZ.out ?_ ?_); rfl; intro v1 r_ b_ s_; have N_m_s : Hid (w.heap.size ≠ wr.heap.size) := Lib.hid (by have := HM.out.lt; omega); have G_s : Hid (w.heap.size ≤ wr.heap.size) := Lib.hid (HBW.out.size); have Tm_1 := Lib.hid (HM.out.step b_); have B_1 : Hid (Below w.heap.size w v1) := Lib.hid (HBW.out.next b_); have Ts_1 := Lib.hid r_; clear r_ b_ s_ HM HBW)
                | ((with_reducible refine Ts_1.out.wpStoreK 42 (Y) fits_rslot (HZL.out) (HYL.out) (HYO.out) ?_ ?_); rfl; intro v2 r_ o_ s_; have Tm_2 := Lib.hid (Tm_1.out.only o_ N_m_s.out); have Ts_2 := Lib.hid r_; have B_2 : Hid (Below w.heap.size w v2) := Lib.hid (B_1.out.trans (o_.below G_s.out B_1.out.size)); have d0 := (Ts_2.out.cell 0).trans HY0.out; have d1 := (Ts_2.out.cell 1).trans HY1.out; have d2 := (Ts_2.out.cell 2).trans HY2.out; have d9 := (Tm_2.out.cell 9).trans HC9.out; clear r_ o_ s_ Ts_1 B_1 Tm_1))
              go_ret
              exact ⟨ret_bool HE.out.symm, B_2.out⟩
            by_cases h2 : 5 < st
            · have hso : stOk st = false := by simp only [stOk, Bool.and_eq_false_iff, decide_eq_false_iff_not]; omega
              have HE : Hid (R = false) := Lib.hid (HN.out (by rw [HOK.out]; rw [hso]; rfl))
              clear HJ HN HOK
              go_wp2_with (first
                | ((with_reducible refine wpLoadRK HRG.out 42 fits_rslot HYL.out ?_ ?_); rfl)
                | ((with_reducible refine wpAllocK (w := wr) (Z) 42 HZ.out ?_ ?_); rfl; intro v1 r_ b_ s_; have N_m_s : Hid (w.heap.size ≠ wr.heap.size) := Lib.hid (by have := HM.out.lt; omega); have G_s : Hid (w.heap.size ≤ wr.heap.size) := Lib.hid (HBW.out.size); have Tm_1 := Lib.hid (HM.out.step b_); have B_1 : Hid (Below w.heap.size w v1) := Lib.hid (HBW.out.next b_); have Ts_1 := Lib.hid r_; clear r_ b_ s_ HM HBW)
                | ((with_reducible refine Ts_1.out.wpStoreK 42 (Y) fits_rslot (HZL.out) (HYL.out) (HYO.out) ?_ ?_); rfl; intro v2 r_ o_ s_; have Tm_2 := Lib.hid (Tm_1.out.only o_ N_m_s.out); have Ts_2 := Lib.hid r_; have B_2 : Hid (Below w.heap.size w v2) := Lib.hid (B_1.out.trans (o_.below G_s.out B_1.out.size)); have d0 := (Ts_2.out.cell 0).trans HY0.out; have d1 := (Ts_2.out.cell 1).trans HY1.out; have d2 := (Ts_2.out.cell 2).trans HY2.out; have d9 := (Tm_2.out.cell 9).trans HC9.out; clear r_ o_ s_ Ts_1 B_1 Tm_1))
              go_ret
              exact ⟨ret_bool HE.out.symm, B_2.out⟩
            have hso : stOk st = true := by simp only [stOk, Bool.and_eq_true, decide_eq_true_eq]; omega
            cases q with
            | false =>
              have HE : Hid (R = false) := Lib.hid (HN.out (by rw [HOK.out]; rw [hso]; rfl))
              clear HJ HN HOK
              go_wp2_with (first
                | ((with_reducible refine wpLoadRK HRG.out 42 fits_rslot HYL.out ?_ ?_); rfl)
                | ((with_reducible refine wpAllocK (w := wr) (Z) 42 HZ.out ?_ ?_); rfl; intro v1 r_ b_ s_; have N_m_s : Hid (w.heap.size ≠ wr.heap.size) := Lib.hid (by have := HM.out.lt; omega); have G_s : Hid (w.heap.size ≤ wr.heap.size) := Lib.hid (HBW.out.size); have Tm_1 := Lib.hid (HM.out.step b_); have B_1 : Hid (Below w.heap.size w v1) := Lib.hid (HBW.out.next b_); have Ts_1 := Lib.hid r_; clear r_ b_ s_ HM HBW)
                | ((with_reducible refine Ts_1.out.wpStoreK 42 (Y) fits_rslot (HZL.out) (HYL.out) (HYO.out) ?_ ?_); rfl; intro v2 r_ o_ s_; have Tm_2 := Lib.hid (Tm_1.out.only o_ N_m_s.out); have Ts_2 := Lib.hid r_; have B_2 : Hid (Below w.heap.size w v2) := Lib.hid (B_1.out.trans (o_.below G_s.out B_1.out.size)); have d0 := (Ts_2.out.cell 0).trans HY0.out; have d1 := (Ts_2.out.cell 1).trans HY1.out; have d2 := (Ts_2.out.cell 2).trans HY2.out; have d9 := (Tm_2.out.cell 9).trans HC9.out; clear r_ o_ s_ Ts_1 B_1 Tm_1)
                | (go_at_call 24; (with_reducible refine (HV.out v2).mono ?_); rintro e _ ⟨rfl, hq_⟩; obtain rfl := hq_.symm))
              go_ret
              exact ⟨ret_bool HE.out.symm, B_2.out⟩
            | true =>
              by_cases h3 : bb < 0
              · have hb1 : decide (0 ≤ bb) = false := decide_eq_false (by omega)
                have HE : Hid (R = false) := Lib.hid (HN.out (by rw [HOK.out]; rw [hb1]; simp))
                clear HJ HN HOK
                go_wp2_with (first
                  | ((with_reducible refine wpLoadRK HRG.out 42 fits_rslot HYL.out ?_ ?_); rfl)
                  | ((with_reducible refine wpAllocK (w := wr) (Z) 42 HZ.out ?_ ?_); rfl; intro v1 r_ b_ s_; have N_m_s : Hid (w.heap.size ≠ wr.heap.size) := Lib.hid (by have := HM.out.lt; omega); have G_s : Hid (w.heap.size ≤ wr.heap.size) := Lib.hid (HBW.out.size); have Tm_1 := Lib.hid (HM.out.step b_); have B_1 : Hid (Below w.heap.size w v1) := Lib.hid (HBW.out.next b_); have Ts_1 := Lib.hid r_; clear r_ b_ s_ HM HBW)
                  | ((with_reducible refine Ts_1.out.wpStoreK 42 (Y) fits_rslot (HZL.out) (HYL.out) (HYO.out) ?_ ?_); rfl; intro v2 r_ o_ s_; have Tm_2 := Lib.hid (Tm_1.out.only o_ N_m_s.out); have Ts_2 := Lib.hid r_; have B_2 : Hid (Below w.heap.size w v2) := Lib.hid (B_1.out.trans (o_.below G_s.out B_1.out.size)); have d0 := (Ts_2.out.cell 0).trans HY0.out; have d1 := (Ts_2.out.cell 1).trans HY1.out; have d2 := (Ts_2.out.cell 2).trans HY2.out; have d9 := (Tm_2.out.cell 9).trans HC9.out; clear r_ o_ s_ Ts_1 B_1 Tm_1)
                  | (go_at_call 24; (with_reducible refine (HV.out v2).mono ?_); rintro e _ ⟨rfl, hq_⟩; obtain rfl := hq_.symm))
                go_ret
                exact ⟨ret_bool HE.out.symm, B_2.out⟩
              by_cases h4 : 512 < bb
              · have hb1 : decide (bb ≤ 512) = false := decide_eq_false (by omega)
                have HE : Hid (R = false) := Lib.hid (HN.out (by rw [HOK.out]; rw [hb1]; simp))
                clear HJ HN HOK
                go_wp2_with (first
                  | ((with_reducible refine wpLoadRK HRG.out 42 fits_rslot HYL.out ?_ ?_); rfl)
                  | ((with_reducible refine wpAllocK (w := wr) (Z) 42 HZ.out ?_ ?_); rfl; intro v1 r_ b_ s_; have N_m_s : Hid (w.heap.size ≠ wr.heap.size) := Lib.hid (by have := HM.out.lt; omega); have G_s : Hid (w.heap.size ≤ wr.heap.size) := Lib.hid (HBW.out.size); have Tm_1 := Lib.hid (HM.out.step b_); have B_1 : Hid (Below w.heap.size w v1) := Lib.hid (HBW.out.next b_); have Ts_1 := Lib.hid r_; clear r_ b_ s_ HM HBW)
                  | ((with_reducible refine Ts_1.out.wpStoreK 42 (Y) fits_rslot (HZL.out) (HYL.out) (HYO.out) ?_ ?_); rfl; intro v2 r_ o_ s_; have Tm_2 := Lib.hid (Tm_1.out.only o_ N_m_s.out); have Ts_2 := Lib.hid r_; have B_2 : Hid (Below w.heap.size w v2) := Lib.hid (B_1.out.trans (o_.below G_s.out B_1.out.size)); have d0 := (Ts_2.out.cell 0).trans HY0.out; have d1 := (Ts_2.out.cell 1).trans HY1.out; have d2 := (Ts_2.out.cell 2).trans HY2.out; have d9 := (Tm_2.out.cell 9).trans HC9.out; clear r_ o_ s_ Ts_1 B_1 Tm_1)
                  | (go_at_call 24; (with_reducible refine (HV.out v2).mono ?_); rintro e _ ⟨rfl, hq_⟩; obtain rfl := hq_.symm))
                go_ret
                exact ⟨ret_bool HE.out.symm, B_2.out⟩
              have hb1 : decide (0 ≤ bb) = true := decide_eq_true (by omega)
              have hb2 : decide (bb ≤ 512) = true := decide_eq_true (by omega)
              rw [hso, hb1, hb2] at HOK
              have hst : st = 0 ∨ st = 1 ∨ st = 2 ∨ st = 3 ∨ st = 4 ∨ st = 5 := by omega
              clear hb1 hb2 hso
              rcases hst with rfl | rfl | rfl | rfl | rfl | rfl
              · by_cases hv : vv = 0
                · subst hv
                  by_cases hb : bb = 0
                  · subst hb
                    have HG := Lib.hid (HJ.out (by rw [HOK.out]; rfl))
                    clear HJ HN HOK
                    go_wp2_with (first
                      | ((with_reducible refine wpLoadRK HRG.out 42 fits_rslot HYL.out ?_ ?_); rfl)
                      | ((with_reducible refine wpAllocK (w := wr) (Z) 42 HZ.out ?_ ?_); rfl; intro v1 r_ b_ s_; have N_m_s : Hid (w.heap.size ≠ wr.heap.size) := Lib.hid (by have := HM.out.lt; omega); have G_s : Hid (w.heap.size ≤ wr.heap.size) := Lib.hid (HBW.out.size); have Tm_1 := Lib.hid (HM.out.step b_); have B_1 : Hid (Below w.heap.size w v1) := Lib.hid (HBW.out.next b_); have Ts_1 := Lib.hid r_; clear r_ b_ s_ HM HBW)
                      | ((with_reducible refine Ts_1.out.wpStoreK 42 (Y) fits_rslot (HZL.out) (HYL.out) (HYO.out) ?_ ?_); rfl; intro v2 r_ o_ s_; have Tm_2 := Lib.hid (Tm_1.out.only o_ N_m_s.out); have Ts_2 := Lib.hid r_; have B_2 : Hid (Below w.heap.size w v2) := Lib.hid (B_1.out.trans (o_.below G_s.out B_1.out.size)); have d0 := (Ts_2.out.cell 0).trans HY0.out; have d1 := (Ts_2.out.cell 1).trans HY1.out; have d2 := (Ts_2.out.cell 2).trans HY2.out; have d9 := (Tm_2.out.cell 9).trans HC9.out; clear r_ o_ s_ Ts_1 B_1 Tm_1)
                      | (go_at_call 24; (with_reducible refine (HV.out v2).mono ?_); rintro e _ ⟨rfl, hq_⟩; obtain rfl := hq_.symm))
                    go_roundw
                    case rel => exact ⟨j + 1, by omega, by go_num, HG.out.1, HG.out.2.1, HG.out.2.2, Tm_2.out, B_2.out⟩
                    case measure => simp [intOf]; omega
                  · have e1bb0 : (bb != (0 : Int)) = true := by simp [hb]
                    have e2bb0 : (!(bb == (0 : Int))) = true := by simp [hb]
                    have e3bb0 : (bb == (0 : Int)) = false := by simp [hb]
                    have HE : Hid (R = false) := Lib.hid (HN.out (by rw [HOK.out]; simp [hb]))
                    clear HJ HN HOK
                    go_wp2_with (first
                      | ((with_reducible refine wpLoadRK HRG.out 42 fits_rslot HYL.out ?_ ?_); rfl)
                      | ((with_reducible refine wpAllocK (w := wr) (Z) 42 HZ.out ?_ ?_); rfl; intro v1 r_ b_ s_; have N_m_s : Hid (w.heap.size ≠ wr.heap.size) := Lib.hid (by have := HM.out.lt; omega); have G_s : Hid (w.heap.size ≤ wr.heap.size) := Lib.hid (HBW.out.size); have Tm_1 := Lib.hid (HM.out.step b_); have B_1 : Hid (Below w.heap.size w v1) := Lib.hid (HBW.out.next b_); have Ts_1 := Lib.hid r_; clear r_ b_ s_ HM HBW)
                      | ((with_reducible refine Ts_1.out.wpStoreK 42 (Y) fits_rslot (HZL.out) (HYL.out) (HYO.out) ?_ ?_); rfl; intro v2 r_ o_ s_; have Tm_2 := Lib.hid (Tm_1.out.only o_ N_m_s.out); have Ts_2 := Lib.hid r_; have B_2 : Hid (Below w.heap.size w v2) := Lib.hid (B_1.out.trans (o_.below G_s.out B_1.out.size)); have d0 := (Ts_2.out.cell 0).trans HY0.out; have d1 := (Ts_2.out.cell 1).trans HY1.out; have d2 := (Ts_2.out.cell 2).trans HY2.out; have d9 := (Tm_2.out.cell 9).trans HC9.out; clear r_ o_ s_ Ts_1 B_1 Tm_1)
                      | (go_at_call 24; (with_reducible refine (HV.out v2).mono ?_); rintro e _ ⟨rfl, hq_⟩; obtain rfl := hq_.symm))
                    go_ret
                    exact ⟨ret_bool HE.out.symm, B_2.out⟩
                · have e1vv0 : (vv != (0 : Int)) = true := by simp [hv]
                  have e2vv0 : (!(vv == (0 : Int))) = true := by simp [hv]
                  have e3vv0 : (vv == (0 : Int)) = false := by simp [hv]
                  have HE : Hid (R = false) := Lib.hid (HN.out (by rw [HOK.out]; simp [hv]))
                  clear HJ HN HOK
                  go_wp2_with (first
                    | ((with_reducible refine wpLoadRK HRG.out 42 fits_rslot HYL.out ?_ ?_); rfl)
                    | ((with_reducible refine wpAllocK (w := wr) (Z) 42 HZ.out ?_ ?_); rfl; intro v1 r_ b_ s_; have N_m_s : Hid (w.heap.size ≠ wr.heap.size) := Lib.hid (by have := HM.out.lt; omega); have G_s : Hid (w.heap.size ≤ wr.heap.size) := Lib.hid (HBW.out.size); have Tm_1 := Lib.hid (HM.out.step b_); have B_1 : Hid (Below w.heap.size w v1) := Lib.hid (HBW.out.next b_); have Ts_1 := Lib.hid r_; clear r_ b_ s_ HM HBW)
                    | ((with_reducible refine Ts_1.out.wpStoreK 42 (Y) fits_rslot (HZL.out) (HYL.out) (HYO.out) ?_ ?_); rfl; intro v2 r_ o_ s_; have Tm_2 := Lib.hid (Tm_1.out.only o_ N_m_s.out); have Ts_2 := Lib.hid r_; have B_2 : Hid (Below w.heap.size w v2) := Lib.hid (B_1.out.trans (o_.below G_s.out B_1.out.size)); have d0 := (Ts_2.out.cell 0).trans HY0.out; have d1 := (Ts_2.out.cell 1).trans HY1.out; have d2 := (Ts_2.out.cell 2).trans HY2.out; have d9 := (Tm_2.out.cell 9).trans HC9.out; clear r_ o_ s_ Ts_1 B_1 Tm_1)
                    | (go_at_call 24; (with_reducible refine (HV.out v2).mono ?_); rintro e _ ⟨rfl, hq_⟩; obtain rfl := hq_.symm))
                  go_ret
                  exact ⟨ret_bool HE.out.symm, B_2.out⟩
              · by_cases hv : vv = 0
                · subst hv
                  by_cases hb : bb = 0
                  · subst hb
                    have HG := Lib.hid (HJ.out (by rw [HOK.out]; rfl))
                    clear HJ HN HOK
                    go_wp2_with (first
                      | ((with_reducible refine wpLoadRK HRG.out 42 fits_rslot HYL.out ?_ ?_); rfl)
                      | ((with_reducible refine wpAllocK (w := wr) (Z) 42 HZ.out ?_ ?_); rfl; intro v1 r_ b_ s_; have N_m_s : Hid (w.heap.size ≠ wr.heap.size) := Lib.hid (by have := HM.out.lt; omega); have G_s : Hid (w.heap.size ≤ wr.heap.size) := Lib.hid (HBW.out.size); have Tm_1 := Lib.hid (HM.out.step b_); have B_1 : Hid (Below w.heap.size w v1) := Lib.hid (HBW.out.next b_); have Ts_1 := Lib.hid r_; clear r_ b_ s_ HM HBW)
                      | ((with_reducible refine Ts_1.out.wpStoreK 42 (Y) fits_rslot (HZL.out) (HYL.out) (HYO.out) ?_ ?_); rfl; intro v2 r_ o_ s_; have Tm_2 := Lib.hid (Tm_1.out.only o_ N_m_s.out); have Ts_2 := Lib.hid r_; have B_2 : Hid (Below w.heap.size w v2) := Lib.hid (B_1.out.trans (o_.below G_s.out B_1.out.size)); have d0 := (Ts_2.out.cell 0).trans HY0.out; have d1 := (Ts_2.out.cell 1).trans HY1.out; have d2 := (Ts_2.out.cell 2).trans HY2.out; have d9 := (Tm_2.out.cell 9).trans HC9.out; clear r_ o_ s_ Ts_1 B_1 Tm_1)
                      | (go_at_call 24; (with_reducible refine (HV.out v2).mono ?_); rintro e _ ⟨rfl, hq_⟩; obtain rfl := hq_.symm))
                    go_roundw
                    case rel => exact ⟨j + 1, by omega, by go_num, HG.out.1, HG.out.2.1, HG.out.2.2, Tm_2.out, B_2.out⟩
                    case measure => simp [intOf]; omega
                  · have e1bb0 : (bb != (0 : Int)) = true := by simp [hb]
                    have e2bb0 : (!(bb == (0 : Int))) = true := by simp [hb]
                    have e3bb0 : (bb == (0 : Int)) = false := by simp [hb]
                    have HE : Hid (R = false) := Lib.hid (HN.out (by rw [HOK.out]; simp [hb]))
                    clear HJ HN HOK
                    go_wp2_with (first
                      | ((with_reducible refine wpLoadRK HRG.out 42 fits_rslot HYL.out ?_ ?_); rfl)
                      | ((with_reducible refine wpAllocK (w := wr) (Z) 42 HZ.out ?_ ?_); rfl; intro v1 r_ b_ s_; have N_m_s : Hid (w.heap.size ≠ wr.heap.size) := Lib.hid (by have := HM.out.lt; omega); have G_s : Hid (w.heap.size ≤ wr.heap.size) := Lib.hid (HBW.out.size); have Tm_1 := Lib.hid (HM.out.step b_); have B_1 : Hid (Below w.heap.size w v1) := Lib.hid (HBW.out.next b_); have Ts_1 := Lib.hid r_; clear r_ b_ s_ HM HBW)
                      | ((with_reducible refine Ts_1.out.wpStoreK 42 (Y) fits_rslot (HZL.out) (HYL.out) (HYO.out) ?_ ?_); rfl; intro v2 r_ o_ s_; have Tm_2 := Lib.hid (Tm_1.out.only o_ N_m_s.out); have Ts_2 := Lib.hid r_; have B_2 : Hid (Below w.heap.size w v2) := Lib.hid (B_1.out.trans (o_.below G_s.out B_1.out.size)); have d0 := (Ts_2.out.cell 0).trans HY0.out; have d1 := (Ts_2.out.cell 1).trans HY1.out; have d2 := (Ts_2.out.cell 2).trans HY2.out; have d9 := (Tm_2.out.cell 9).trans HC9.out; clear r_ o_ s_ Ts_1 B_1 Tm_1)
                      | (go_at_call 24; (with_reducible refine (HV.out v2).mono ?_); rintro e _ ⟨rfl, hq_⟩; obtain rfl := hq_.symm))
                    go_ret
                    exact ⟨ret_bool HE.out.symm, B_2.out⟩
                · have e1vv0 : (vv != (0 : Int)) = true := by simp [hv]
                  have e2vv0 : (!(vv == (0 : Int))) = true := by simp [hv]
                  have e3vv0 : (vv == (0 : Int)) = false := by simp [hv]
                  have HE : Hid (R = false) := Lib.hid (HN.out (by rw [HOK.out]; simp [hv]))
                  clear HJ HN HOK
                  go_wp2_with (first
                    | ((with_reducible refine wpLoadRK HRG.out 42 fits_rslot HYL.out ?_ ?_); rfl)
                    | ((with_reducible refine wpAllocK (w := wr) (Z) 42 HZ.out ?_ ?_); rfl; intro v1 r_ b_ s_; have N_m_s : Hid (w.heap.size ≠ wr.heap.size) := Lib.hid (by have := HM.out.lt; omega); have G_s : Hid (w.heap.size ≤ wr.heap.size) := Lib.hid (HBW.out.size); have Tm_1 := Lib.hid (HM.out.step b_); have B_1 : Hid (Below w.heap.size w v1) := Lib.hid (HBW.out.next b_); have Ts_1 := Lib.hid r_; clear r_ b_ s_ HM HBW)
                    | ((with_reducible refine Ts_1.out.wpStoreK 42 (Y) fits_rslot (HZL.out) (HYL.out) (HYO.out) ?_ ?_); rfl; intro v2 r_ o_ s_; have Tm_2 := Lib.hid (Tm_1.out.only o_ N_m_s.out); have Ts_2 := Lib.hid r_; have B_2 : Hid (Below w.heap.size w v2) := Lib.hid (B_1.out.trans (o_.below G_s.out B_1.out.size)); have d0 := (Ts_2.out.cell 0).trans HY0.out; have d1 := (Ts_2.out.cell 1).trans HY1.out; have d2 := (Ts_2.out.cell 2).trans HY2.out; have d9 := (Tm_2.out.cell 9).trans HC9.out; clear r_ o_ s_ Ts_1 B_1 Tm_1)
                    | (go_at_call 24; (with_reducible refine (HV.out v2).mono ?_); rintro e _ ⟨rfl, hq_⟩; obtain rfl := hq_.symm))
                  go_ret
                  exact ⟨ret_bool HE.out.symm, B_2.out⟩
              · by_cases hb : bb = 0
                · subst hb
                  have HG := Lib.hid (HJ.out (by rw [HOK.out]; simp))
                  clear HJ HN HOK
                  go_wp2_with (first
                    | ((with_reducible refine wpLoadRK HRG.out 42 fits_rslot HYL.out ?_ ?_); rfl)
                    | ((with_reducible refine wpAllocK (w := wr) (Z) 42 HZ.out ?_ ?_); rfl; intro v1 r_ b_ s_; have N_m_s : Hid (w.heap.size ≠ wr.heap.size) := Lib.hid (by have := HM.out.lt; omega); have G_s : Hid (w.heap.size ≤ wr.heap.size) := Lib.hid (HBW.out.size); have Tm_1 := Lib.hid (HM.out.step b_); have B_1 : Hid (Below w.heap.size w v1) := Lib.hid (HBW.out.next b_); have Ts_1 := Lib.hid r_; clear r_ b_ s_ HM HBW)
                    | ((with_reducible refine Ts_1.out.wpStoreK 42 (Y) fits_rslot (HZL.out) (HYL.out) (HYO.out) ?_ ?_); rfl; intro v2 r_ o_ s_; have Tm_2 := Lib.hid (Tm_1.out.only o_ N_m_s.out); have Ts_2 := Lib.hid r_; have B_2 : Hid (Below w.heap.size w v2) := Lib.hid (B_1.out.trans (o_.below G_s.out B_1.out.size)); have d0 := (Ts_2.out.cell 0).trans HY0.out; have d1 := (Ts_2.out.cell 1).trans HY1.out; have d2 := (Ts_2.out.cell 2).trans HY2.out; have d9 := (Tm_2.out.cell 9).trans HC9.out; clear r_ o_ s_ Ts_1 B_1 Tm_1)
                    | (go_at_call 24; (with_reducible refine (HV.out v2).mono ?_); rintro e _ ⟨rfl, hq_⟩; obtain rfl := hq_.symm))
                  go_roundw
                  case rel => exact ⟨j + 1, by omega, by go_num, HG.out.1, HG.out.2.1, HG.out.2.2, Tm_2.out, B_2.out⟩
                  case measure => simp [intOf]; omega
                · have e1bb0 : (bb != (0 : Int)) = true := by simp [hb]
                  have e2bb0 : (!(bb == (0 : Int))) = true := by simp [hb]
                  have e3bb0 : (bb == (0 : Int)) = false := by simp [hb]
                  have HE : Hid (R = false) := Lib.hid (HN.out (by rw [HOK.out]; simp [hb]))
                  clear HJ HN HOK
                  go_wp2_with (first
                    | ((with_reducible refine wpLoadRK HRG.out 42 fits_rslot HYL.out ?_ ?_); rfl)
                    | ((with_reducible refine wpAllocK (w := wr) (Z) 42 HZ.out ?_ ?_); rfl; intro v1 r_ b_ s_; have N_m_s : Hid (w.heap.size ≠ wr.heap.size) := Lib.hid (by have := HM.out.lt; omega); have G_s : Hid (w.heap.size ≤ wr.heap.size) := Lib.hid (HBW.out.size); have Tm_1 := Lib.hid (HM.out.step b_); have B_1 : Hid (Below w.heap.size w v1) := Lib.hid (HBW.out.next b_); have Ts_1 := Lib.hid r_; clear r_ b_ s_ HM HBW)
                    | ((with_reducible refine Ts_1.out.wpStoreK 42 (Y) fits_rslot (HZL.out) (HYL.out) (HYO.out) ?_ ?_); rfl; intro v2 r_ o_ s_; have Tm_2 := Lib.hid (Tm_1.out.only o_ N_m_s.out); have Ts_2 := Lib.hid r_; have B_2 : Hid (Below w.heap.size w v2) := Lib.hid (B_1.out.trans (o_.below G_s.out B_1.out.size)); have d0 := (Ts_2.out.cell 0).trans HY0.out; have d1 := (Ts_2.out.cell 1).trans HY1.out; have d2 := (Ts_2.out.cell 2).trans HY2.out; have d9 := (Tm_2.out.cell 9).trans HC9.out; clear r_ o_ s_ Ts_1 B_1 Tm_1)
                    | (go_at_call 24; (with_reducible refine (HV.out v2).mono ?_); rintro e _ ⟨rfl, hq_⟩; obtain rfl := hq_.symm))
                  go_ret
                  exact ⟨ret_bool HE.out.symm, B_2.out⟩
              · by_cases ha : ac = (j : Int)
                · subst ha
                  have HG := Lib.hid (HJ.out (by rw [HOK.out]; simp))
                  clear HJ HN HOK
                  go_wp2_with (first
                    | ((with_reducible refine wpLoadRK HRG.out 42 fits_rslot HYL.out ?_ ?_); rfl)
                    | ((with_reducible refine wpAllocK (w := wr) (Z) 42 HZ.out ?_ ?_); rfl; intro v1 r_ b_ s_; have N_m_s : Hid (w.heap.size ≠ wr.heap.size) := Lib.hid (by have := HM.out.lt; omega); have G_s : Hid (w.heap.size ≤ wr.heap.size) := Lib.hid (HBW.out.size); have Tm_1 := Lib.hid (HM.out.step b_); have B_1 : Hid (Below w.heap.size w v1) := Lib.hid (HBW.out.next b_); have Ts_1 := Lib.hid r_; clear r_ b_ s_ HM HBW)
                    | ((with_reducible refine Ts_1.out.wpStoreK 42 (Y) fits_rslot (HZL.out) (HYL.out) (HYO.out) ?_ ?_); rfl; intro v2 r_ o_ s_; have Tm_2 := Lib.hid (Tm_1.out.only o_ N_m_s.out); have Ts_2 := Lib.hid r_; have B_2 : Hid (Below w.heap.size w v2) := Lib.hid (B_1.out.trans (o_.below G_s.out B_1.out.size)); have d0 := (Ts_2.out.cell 0).trans HY0.out; have d1 := (Ts_2.out.cell 1).trans HY1.out; have d2 := (Ts_2.out.cell 2).trans HY2.out; have d9 := (Tm_2.out.cell 9).trans HC9.out; clear r_ o_ s_ Ts_1 B_1 Tm_1)
                    | (go_at_call 24; (with_reducible refine (HV.out v2).mono ?_); rintro e _ ⟨rfl, hq_⟩; obtain rfl := hq_.symm))
                  go_roundw
                  case rel => exact ⟨j + 1, by omega, by go_num, HG.out.1, HG.out.2.1, HG.out.2.2, Tm_2.out, B_2.out⟩
                  case measure => simp [intOf]; omega
                · have e1acj : (ac != (j : Int)) = true := by simp [ha]
                  have e2acj : (!(ac == (j : Int))) = true := by simp [ha]
                  have e3acj : (ac == (j : Int)) = false := by simp [ha]
                  have e4 : ((j : Int) != ac) = true := by simp [bne_iff_ne, Ne.symm ha]
                  have e5 : (!((j : Int) == ac)) = true := by rw [← bne]; exact e4
                  have HE : Hid (R = false) := Lib.hid (HN.out (by rw [HOK.out]; simp [ha]))
                  clear HJ HN HOK
                  go_wp2_with (first
                    | ((with_reducible refine wpLoadRK HRG.out 42 fits_rslot HYL.out ?_ ?_); rfl)
                    | ((with_reducible refine wpAllocK (w := wr) (Z) 42 HZ.out ?_ ?_); rfl; intro v1 r_ b_ s_; have N_m_s : Hid (w.heap.size ≠ wr.heap.size) := Lib.hid (by have := HM.out.lt; omega); have G_s : Hid (w.heap.size ≤ wr.heap.size) := Lib.hid (HBW.out.size); have Tm_1 := Lib.hid (HM.out.step b_); have B_1 : Hid (Below w.heap.size w v1) := Lib.hid (HBW.out.next b_); have Ts_1 := Lib.hid r_; clear r_ b_ s_ HM HBW)
                    | ((with_reducible refine Ts_1.out.wpStoreK 42 (Y) fits_rslot (HZL.out) (HYL.out) (HYO.out) ?_ ?_); rfl; intro v2 r_ o_ s_; have Tm_2 := Lib.hid (Tm_1.out.only o_ N_m_s.out); have Ts_2 := Lib.hid r_; have B_2 : Hid (Below w.heap.size w v2) := Lib.hid (B_1.out.trans (o_.below G_s.out B_1.out.size)); have d0 := (Ts_2.out.cell 0).trans HY0.out; have d1 := (Ts_2.out.cell 1).trans HY1.out; have d2 := (Ts_2.out.cell 2).trans HY2.out; have d9 := (Tm_2.out.cell 9).trans HC9.out; clear r_ o_ s_ Ts_1 B_1 Tm_1)
                    | (go_at_call 24; (with_reducible refine (HV.out v2).mono ?_); rintro e _ ⟨rfl, hq_⟩; obtain rfl := hq_.symm))
                  go_ret
                  exact ⟨ret_bool HE.out.symm, B_2.out⟩
              · by_cases hb : bb = 0
                · subst hb
                  have HG := Lib.hid (HJ.out (by rw [HOK.out]; simp))
                  clear HJ HN HOK
                  go_wp2_with (first
                    | ((with_reducible refine wpLoadRK HRG.out 42 fits_rslot HYL.out ?_ ?_); rfl)
                    | ((with_reducible refine wpAllocK (w := wr) (Z) 42 HZ.out ?_ ?_); rfl; intro v1 r_ b_ s_; have N_m_s : Hid (w.heap.size ≠ wr.heap.size) := Lib.hid (by have := HM.out.lt; omega); have G_s : Hid (w.heap.size ≤ wr.heap.size) := Lib.hid (HBW.out.size); have Tm_1 := Lib.hid (HM.out.step b_); have B_1 : Hid (Below w.heap.size w v1) := Lib.hid (HBW.out.next b_); have Ts_1 := Lib.hid r_; clear r_ b_ s_ HM HBW)
                    | ((with_reducible refine Ts_1.out.wpStoreK 42 (Y) fits_rslot (HZL.out) (HYL.out) (HYO.out) ?_ ?_); rfl; intro v2 r_ o_ s_; have Tm_2 := Lib.hid (Tm_1.out.only o_ N_m_s.out); have Ts_2 := Lib.hid r_; have B_2 : Hid (Below w.heap.size w v2) := Lib.hid (B_1.out.trans (o_.below G_s.out B_1.out.size)); have d0 := (Ts_2.out.cell 0).trans HY0.out; have d1 := (Ts_2.out.cell 1).trans HY1.out; have d2 := (Ts_2.out.cell 2).trans HY2.out; have d9 := (Tm_2.out.cell 9).trans HC9.out; clear r_ o_ s_ Ts_1 B_1 Tm_1)
                    | (go_at_call 24; (with_reducible refine (HV.out v2).mono ?_); rintro e _ ⟨rfl, hq_⟩; obtain rfl := hq_.symm))
                  go_roundw
                  case rel => exact ⟨j + 1, by omega, by go_num, HG.out.1, HG.out.2.1, HG.out.2.2, Tm_2.out, B_2.out⟩
                  case measure => simp [intOf]; omega
                · have e1bb0 : (bb != (0 : Int)) = true := by simp [hb]
                  have e2bb0 : (!(bb == (0 : Int))) = true := by simp [hb]
                  have e3bb0 : (bb == (0 : Int)) = false := by simp [hb]
                  have HE : Hid (R = false) := Lib.hid (HN.out (by rw [HOK.out]; simp [hb]))
                  clear HJ HN HOK
                  go_wp2_with (first
                    | ((with_reducible refine wpLoadRK HRG.out 42 fits_rslot HYL.out ?_ ?_); rfl)
                    | ((with_reducible refine wpAllocK (w := wr) (Z) 42 HZ.out ?_ ?_); rfl; intro v1 r_ b_ s_; have N_m_s : Hid (w.heap.size ≠ wr.heap.size) := Lib.hid (by have := HM.out.lt; omega); have G_s : Hid (w.heap.size ≤ wr.heap.size) := Lib.hid (HBW.out.size); have Tm_1 := Lib.hid (HM.out.step b_); have B_1 : Hid (Below w.heap.size w v1) := Lib.hid (HBW.out.next b_); have Ts_1 := Lib.hid r_; clear r_ b_ s_ HM HBW)
                    | ((with_reducible refine Ts_1.out.wpStoreK 42 (Y) fits_rslot (HZL.out) (HYL.out) (HYO.out) ?_ ?_); rfl; intro v2 r_ o_ s_; have Tm_2 := Lib.hid (Tm_1.out.only o_ N_m_s.out); have Ts_2 := Lib.hid r_; have B_2 : Hid (Below w.heap.size w v2) := Lib.hid (B_1.out.trans (o_.below G_s.out B_1.out.size)); have d0 := (Ts_2.out.cell 0).trans HY0.out; have d1 := (Ts_2.out.cell 1).trans HY1.out; have d2 := (Ts_2.out.cell 2).trans HY2.out; have d9 := (Tm_2.out.cell 9).trans HC9.out; clear r_ o_ s_ Ts_1 B_1 Tm_1)
                    | (go_at_call 24; (with_reducible refine (HV.out v2).mono ?_); rintro e _ ⟨rfl, hq_⟩; obtain rfl := hq_.symm))
                  go_ret
                  exact ⟨ret_bool HE.out.symm, B_2.out⟩
              · by_cases hv : vv = 0
                · subst hv
                  by_cases hb : bb = 0
                  · subst hb
                    have HG := Lib.hid (HJ.out (by rw [HOK.out]; rfl))
                    clear HJ HN HOK
                    go_wp2_with (first
                      | ((with_reducible refine wpLoadRK HRG.out 42 fits_rslot HYL.out ?_ ?_); rfl)
                      | ((with_reducible refine wpAllocK (w := wr) (Z) 42 HZ.out ?_ ?_); rfl; intro v1 r_ b_ s_; have N_m_s : Hid (w.heap.size ≠ wr.heap.size) := Lib.hid (by have := HM.out.lt; omega); have G_s : Hid (w.heap.size ≤ wr.heap.size) := Lib.hid (HBW.out.size); have Tm_1 := Lib.hid (HM.out.step b_); have B_1 : Hid (Below w.heap.size w v1) := Lib.hid (HBW.out.next b_); have Ts_1 := Lib.hid r_; clear r_ b_ s_ HM HBW)
                      | ((with_reducible refine Ts_1.out.wpStoreK 42 (Y) fits_rslot (HZL.out) (HYL.out) (HYO.out) ?_ ?_); rfl; intro v2 r_ o_ s_; have Tm_2 := Lib.hid (Tm_1.out.only o_ N_m_s.out); have Ts_2 := Lib.hid r_; have B_2 : Hid (Below w.heap.size w v2) := Lib.hid (B_1.out.trans (o_.below G_s.out B_1.out.size)); have d0 := (Ts_2.out.cell 0).trans HY0.out; have d1 := (Ts_2.out.cell 1).trans HY1.out; have d2 := (Ts_2.out.cell 2).trans HY2.out; have d9 := (Tm_2.out.cell 9).trans HC9.out; clear r_ o_ s_ Ts_1 B_1 Tm_1)
                      | (go_at_call 24; (with_reducible refine (HV.out v2).mono ?_); rintro e _ ⟨rfl, hq_⟩; obtain rfl := hq_.symm))
                    go_roundw
                    case rel => exact ⟨j + 1, by omega, by go_num, HG.out.1, HG.out.2.1, HG.out.2.2, Tm_2.out, B_2.out⟩
                    case measure => simp [intOf]; omega
                  · have e1bb0 : (bb != (0 : Int)) = true := by simp [hb]
                    have e2bb0 : (!(bb == (0 : Int))) = true := by simp [hb]
                    have e3bb0 : (bb == (0 : Int)) = false := by simp [hb]
                    have HE : Hid (R = false) := Lib.hid (HN.out (by rw [HOK.out]; simp [hb]))
                    clear HJ HN HOK
                    go_wp2_with (first
                      | ((with_reducible refine wpLoadRK HRG.out 42 fits_rslot HYL.out ?_ ?_); rfl)
                      | ((with_reducible refine wpAllocK (w := wr) (Z) 42 HZ.out ?_ ?_); rfl; intro v1 r_ b_ s_; have N_m_s : Hid (w.heap.size ≠ wr.heap.size) := Lib.hid (by have := HM.out.lt; omega); have G_s : Hid (w.heap.size ≤ wr.heap.size) := Lib.hid (HBW.out.size); have Tm_1 := Lib.hid (HM.out.step b_); have B_1 : Hid (Below w.heap.size w v1) := Lib.hid (HBW.out.next b_); have Ts_1 := Lib.hid r_; clear r_ b_ s_ HM HBW)
                      | ((with_reducible refine Ts_1.out.wpStoreK 42 (Y) fits_rslot (HZL.out) (HYL.out) (HYO.out) ?_ ?_); rfl; intro v2 r_ o_ s_; have Tm_2 := Lib.hid (Tm_1.out.only o_ N_m_s.out); have Ts_2 := Lib.hid r_; have B_2 : Hid (Below w.heap.size w v2) := Lib.hid (B_1.out.trans (o_.below G_s.out B_1.out.size)); have d0 := (Ts_2.out.cell 0).trans HY0.out; have d1 := (Ts_2.out.cell 1).trans HY1.out; have d2 := (Ts_2.out.cell 2).trans HY2.out; have d9 := (Tm_2.out.cell 9).trans HC9.out; clear r_ o_ s_ Ts_1 B_1 Tm_1)
                      | (go_at_call 24; (with_reducible refine (HV.out v2).mono ?_); rintro e _ ⟨rfl, hq_⟩; obtain rfl := hq_.symm))
                    go_ret
                    exact ⟨ret_bool HE.out.symm, B_2.out⟩
                · have e1vv0 : (vv != (0 : Int)) = true := by simp [hv]
                  have e2vv0 : (!(vv == (0 : Int))) = true := by simp [hv]
                  have e3vv0 : (vv == (0 : Int)) = false := by simp [hv]
                  have HE : Hid (R = false) := Lib.hid (HN.out (by rw [HOK.out]; simp [hv]))
                  clear HJ HN HOK
                  go_wp2_with (first
                    | ((with_reducible refine wpLoadRK HRG.out 42 fits_rslot HYL.out ?_ ?_); rfl)
                    | ((with_reducible refine wpAllocK (w := wr) (Z) 42 HZ.out ?_ ?_); rfl; intro v1 r_ b_ s_; have N_m_s : Hid (w.heap.size ≠ wr.heap.size) := Lib.hid (by have := HM.out.lt; omega); have G_s : Hid (w.heap.size ≤ wr.heap.size) := Lib.hid (HBW.out.size); have Tm_1 := Lib.hid (HM.out.step b_); have B_1 : Hid (Below w.heap.size w v1) := Lib.hid (HBW.out.next b_); have Ts_1 := Lib.hid r_; clear r_ b_ s_ HM HBW)
                    | ((with_reducible refine Ts_1.out.wpStoreK 42 (Y) fits_rslot (HZL.out) (HYL.out) (HYO.out) ?_ ?_); rfl; intro v2 r_ o_ s_; have Tm_2 := Lib.hid (Tm_1.out.only o_ N_m_s.out); have Ts_2 := Lib.hid r_; have B_2 : Hid (Below w.heap.size w v2) := Lib.hid (B_1.out.trans (o_.below G_s.out B_1.out.size)); have d0 := (Ts_2.out.cell 0).trans HY0.out; have d1 := (Ts_2.out.cell 1).trans HY1.out; have d2 := (Ts_2.out.cell 2).trans HY2.out; have d9 := (Tm_2.out.cell 9).trans HC9.out; clear r_ o_ s_ Ts_1 B_1 Tm_1)
                    | (go_at_call 24; (with_reducible refine (HV.out v2).mono ?_); rintro e _ ⟨rfl, hq_⟩; obtain rfl := hq_.symm))
                  go_ret
                  exact ⟨ret_bool HE.out.symm, B_2.out⟩
          · have hj3 : j = 3 := by omega
            subst hj3
            have HALL : Hid (R = ((m.get ac).s == 4 || (m.get ac).s == 3)) := Lib.hid (by rw [HRES.out, J0.out (by omega), J1.out (by omega), J2.out (by omega)]; rfl)
            have b9 := HM.out.cell 9
            rw [HC9.out] at b9
            rcases isS_is.1 hs1 with rfl | rfl | rfl
            · obtain ⟨sa, hsa⟩ : ∃ x, m.a.s = x := ⟨_, rfl⟩
              have b1 := HM.out.cell 0
              rw [show M[0]? = some (.int .i64 sa) by rw [← HMM.out, ← hsa]; rfl] at b1
              rw [show (m.get 0).s = sa from hsa] at HALL
              clear hsa hs1
              by_cases h5 : sa = 4
              · subst h5
                have HE : Hid (R = true) := Lib.hid (by rw [HALL.out]; rfl)
                go_wp2
                go_ret
                exact ⟨ret_bool HE.out.symm, HBW.out⟩
              · by_cases h6 : sa = 3
                · subst h6
                  have HE : Hid (R = true) := Lib.hid (by rw [HALL.out]; rfl)
                  go_wp2
                  go_ret
                  exact ⟨ret_bool HE.out.symm, HBW.out⟩
                · have e5 : (sa == (4 : Int)) = false := by simp [h5]
                  have e6 : (sa == (3 : Int)) = false := by simp [h6]
                  have HE : Hid (R = false) := Lib.hid (by rw [HALL.out]; rw [e5, e6]; rfl)
                  go_wp2
                  go_ret
                  exact ⟨ret_bool HE.out.symm, HBW.out⟩
            · obtain ⟨sa, hsa⟩ : ∃ x, m.b.s = x := ⟨_, rfl⟩
              have b1 := HM.out.cell 3
              rw [show M[3]? = some (.int .i64 sa) by rw [← HMM.out, ← hsa]; rfl] at b1
              rw [show (m.get 1).s = sa from hsa] at HALL
              clear hsa hs1
              by_cases h5 : sa = 4
              · subst h5
                have HE : Hid (R = true) := Lib.hid (by rw [HALL.out]; rfl)
                go_wp2
                go_ret
                exact ⟨ret_bool HE.out.symm, HBW.out⟩
              · by_cases h6 : sa = 3
                · subst h6
                  have HE : Hid (R = true) := Lib.hid (by rw [HALL.out]; rfl)
                  go_wp2
                  go_ret
                  exact ⟨ret_bool HE.out.symm, HBW.out⟩
                · have e5 : (sa == (4 : Int)) = false := by simp [h5]
                  have e6 : (sa == (3 : Int)) = false := by simp [h6]
                  have HE : Hid (R = false) := Lib.hid (by rw [HALL.out]; rw [e5, e6]; rfl)
                  go_wp2
                  go_ret
                  exact ⟨ret_bool HE.out.symm, HBW.out⟩
            · obtain ⟨sa, hsa⟩ : ∃ x, m.c.s = x := ⟨_, rfl⟩
              have b1 := HM.out.cell 6
              rw [show M[6]? = some (.int .i64 sa) by rw [← HMM.out, ← hsa]; rfl] at b1
              rw [show (m.get 2).s = sa from hsa] at HALL
              clear hsa hs1
              by_cases h5 : sa = 4
              · subst h5
                have HE : Hid (R = true) := Lib.hid (by rw [HALL.out]; rfl)
                go_wp2
                go_ret
                exact ⟨ret_bool HE.out.symm, HBW.out⟩
              · by_cases h6 : sa = 3
                · subst h6
                  have HE : Hid (R = true) := Lib.hid (by rw [HALL.out]; rfl)
                  go_wp2
                  go_ret
                  exact ⟨ret_bool HE.out.symm, HBW.out⟩
                · have e5 : (sa == (4 : Int)) = false := by simp [h5]
                  have e6 : (sa == (3 : Int)) = false := by simp [h6]
                  have HE : Hid (R = false) := Lib.hid (by rw [HALL.out]; rw [e5, e6]; rfl)
                  go_wp2
                  go_ret
                  exact ⟨ret_bool HE.out.symm, HBW.out⟩
end Go.Proofs.Ytbpdnaiackfdmaa
