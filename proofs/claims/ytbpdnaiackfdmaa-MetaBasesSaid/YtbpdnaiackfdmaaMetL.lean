/- Right. -/
import Derived.Test.YtbpdnaiackfdmaaMetK
namespace Go.Proofs.Ytbpdnaiackfdmaa
open Go.RowKit MetMath
set_option linter.unusedVariables false
set_option maxRecDepth 100000

theorem met_within_three (M x y z : Int) (r : Bool) (h : (win M x && win M y && win M z) = r) (u : World) : Calls Try.prog 20 #[.int .i64 M, .slice (some ⟨u.heap.size, 0, none⟩) 3 3] (u.alloc (.cells #[.int .i64 x, .int .i64 y, .int .i64 z] 3)) fun e w' => e = .returned (.bool r) ∧ Below u.heap.size u w' := by
  have := met_within_any M (some ⟨u.heap.size, 0, none⟩) 3 3 [x, y, z] _ rfl (by omega) (Lies.new (ints [x, y, z]) u 3)
  refine this.mono fun e w' hh => ⟨?_, ?_⟩
  · rw [hh.1, ← h]; simp [Bool.and_assoc]
  · rw [hh.2]; exact alloc_below u _
/-- Slot j may be so. -/
def okS (x : Sl) (act j : Int) : Bool := x.right && (x.s != 3 || act == j)
theorem right_parts (m : Mt) : m.right = (isS m.act && (val m.flo && val m.cur && val m.int) && (okS m.a m.act 0 && okS m.b m.act 1 && okS m.c m.act 2) && m.a.s == 4 && ((m.get m.act).s == 4 || (m.get m.act).s == 3)) := by
  unfold Mt.right okS
  simp only [Bool.and_assoc]
set_option maxHeartbeats 4000000 in
theorem met_right_any (m : Mt) (w : World) : Calls Try.prog 9 #[.agg (mcs m).toArray] w fun e w' => e = .returned (.bool m.right) ∧ Below w.heap.size w w' := by
  have HRES := Lib.hid (right_parts m)
  obtain ⟨R, hR⟩ : ∃ R, m.right = R := ⟨_, rfl⟩
  rw [hR] at HRES ⊢
  obtain ⟨s1, hs1⟩ : ∃ x, isS m.act = x := ⟨_, rfl⟩
  have HS1 := Lib.hid hs1
  obtain ⟨rv, hrv⟩ : ∃ r, (val m.flo && val m.cur && val m.int) = r := ⟨_, rfl⟩
  have HW := Lib.hid (met_within_three 281474976710655 m.flo m.cur m.int rv hrv)
  rw [hs1, hrv] at HRES
  have HIS : Hid (∀ u, Calls Try.prog 18 #[.int .i64 m.act] u fun e w' => e = .returned (.bool s1) ∧ w' = u) := Lib.hid fun u => by rw [← hs1]; exact met_isSlot_any m.act u
  obtain ⟨Z, hZ⟩ : ∃ Z, slc ⟨0, 0, 0⟩ = Z := ⟨_, rfl⟩
  have HZ : Hid (∀ u, (zeroValue 25).run Try.prog u = .ok (.agg Z.toArray) u) := Lib.hid (by rw [← hZ]; exact zero_slot)
  have HZL : Hid (Z.length = 3) := Lib.hid (by rw [← hZ]; rfl)
  obtain ⟨S, hS⟩ : ∃ S, slots m = S := ⟨_, rfl⟩
  have HSL : Hid (S.length = 9) := Lib.hid (by rw [← hS]; rfl)
  have HI : Hid (∀ u, (Instr.index 26 (.agg S.toArray) (.int .i64 0)).run Try.prog u = .ok (.agg (slc m.a).toArray) u ∧ (Instr.index 26 (.agg S.toArray) (.int .i64 1)).run Try.prog u = .ok (.agg (slc m.b).toArray) u
      ∧ (Instr.index 26 (.agg S.toArray) (.int .i64 2)).run Try.prog u = .ok (.agg (slc m.c).toArray) u) := Lib.hid fun u => by rw [← hS]; exact slots_index m.a m.b m.c u
  obtain ⟨R4, hR4⟩ : ∃ R4, rest4 m = R4 := ⟨_, rfl⟩
  obtain ⟨M, hM⟩ : ∃ M, mcs m = M := ⟨_, rfl⟩
  have HP : Hid (M = [] ++ S ++ R4) := Lib.hid (by rw [← hS, ← hR4, ← hM]; exact mcs_parts m)
  have HMM := Lib.hid hM
  rw [hM]
  obtain ⟨ac, hac⟩ : ∃ x, m.act = x := ⟨_, rfl⟩
  have HAC := Lib.hid hac
  have HC9 : Hid (M[9]? = some (.int .i64 ac)) := Lib.hid (by rw [← hM, ← hac]; rfl)
  have HC10 : Hid (M[10]? = some (.int .i64 m.flo)) := Lib.hid (by rw [← hM]; rfl)
  have HC11 : Hid (M[11]? = some (.int .i64 m.cur)) := Lib.hid (by rw [← hM]; rfl)
  have HC12 : Hid (M[12]? = some (.int .i64 m.int)) := Lib.hid (by rw [← hM]; rfl)
  rw [hac] at HIS HRES
  rw [hac] at hs1
  clear hR hrv hZ hS hR4 hM hac HS1
  cases s1 with
  | false =>
    have HE : Hid (R = false) := Lib.hid (by rw [HRES.out]; rfl)
    clear HRES hs1
    go_enter Try.func9, Try.ntmps9
    go_wp2_with (first
      | ((with_reducible refine wpBoxK (w := w) (M) 28 ?_ ?_); rfl; intro ww1 r_ b_ s_; have G_m : Hid (w.heap.size ≤ w.heap.size) := Lib.hid (Nat.le_refl _); have B_1 : Hid (Below w.heap.size w ww1) := Lib.hid (b_); have Tm_1 := Lib.hid r_; have c90 := (Tm_1.out.cell 9).trans HC9.out; have c100 := (Tm_1.out.cell 10).trans HC10.out; have c110 := (Tm_1.out.cell 11).trans HC11.out; have c120 := (Tm_1.out.cell 12).trans HC12.out; clear r_ b_ s_)
      | (go_at_call 18; (with_reducible refine (HIS.out ww1).mono ?_); rintro e _ ⟨rfl, hq_⟩; obtain rfl := hq_.symm))
    go_ret
    exact ⟨ret_bool HE.out.symm, B_1.out⟩
  | true =>
    cases rv with
    | false =>
      have HE : Hid (R = false) := Lib.hid (by rw [HRES.out]; rfl)
      clear HRES hs1
      go_enter Try.func9, Try.ntmps9
      go_wp2_with (first
        | ((with_reducible refine wpBoxK (w := w) (M) 28 ?_ ?_); rfl; intro ww1 r_ b_ s_; have G_m : Hid (w.heap.size ≤ w.heap.size) := Lib.hid (Nat.le_refl _); have B_1 : Hid (Below w.heap.size w ww1) := Lib.hid (b_); have Tm_1 := Lib.hid r_; have c90 := (Tm_1.out.cell 9).trans HC9.out; have c100 := (Tm_1.out.cell 10).trans HC10.out; have c110 := (Tm_1.out.cell 11).trans HC11.out; have c120 := (Tm_1.out.cell 12).trans HC12.out; clear r_ b_ s_)
        | (go_at_call 18; (with_reducible refine (HIS.out ww1).mono ?_); rintro e _ ⟨rfl, hq_⟩; obtain rfl := hq_.symm)
        | (go_at_call 20; (with_reducible refine (HW.out ww1).mono ?_); rintro e ww2 ⟨rfl, b_⟩; have Tm_2 := Lib.hid (Tm_1.out.step b_); have B_2 : Hid (Below w.heap.size w ww2) := Lib.hid (B_1.out.next b_); clear b_ Tm_1 B_1))
      go_ret
      exact ⟨ret_bool HE.out.symm, B_2.out⟩
    | true =>
      go_enter Try.func9, Try.ntmps9
      go_wp2_with (first
        | ((with_reducible refine wpBoxK (w := w) (M) 28 ?_ ?_); rfl; intro ww1 r_ b_ s_; have G_m : Hid (w.heap.size ≤ w.heap.size) := Lib.hid (Nat.le_refl _); have B_1 : Hid (Below w.heap.size w ww1) := Lib.hid (b_); have Tm_1 := Lib.hid r_; have c90 := (Tm_1.out.cell 9).trans HC9.out; have c100 := (Tm_1.out.cell 10).trans HC10.out; have c110 := (Tm_1.out.cell 11).trans HC11.out; have c120 := (Tm_1.out.cell 12).trans HC12.out; clear r_ b_ s_)
        | (go_at_call 18; (with_reducible refine (HIS.out ww1).mono ?_); rintro e _ ⟨rfl, hq_⟩; obtain rfl := hq_.symm)
        | (go_at_call 20; (with_reducible refine (HW.out ww1).mono ?_); rintro e ww2 ⟨rfl, b_⟩; have Tm_2 := Lib.hid (Tm_1.out.step b_); have B_2 : Hid (Below w.heap.size w ww2) := Lib.hid (B_1.out.next b_); clear b_ Tm_1 B_1)
        | ((with_reducible refine (show Row ww2 w.heap.size 28 ([] ++ S ++ R4) by rw [← HP.out]; exact Tm_2.out).wpLoadMidK 0 rfl 26 fits_slots HSL.out ?_ ?_); rfl))
      go_loopw [23] (fun i wr => ∃ j : Nat, j ≤ 3 ∧ i = .int .i64 (j : Int) ∧ (1 ≤ j → okS m.a ac 0 = true) ∧ (2 ≤ j → okS m.b ac 1 = true) ∧ (3 ≤ j → okS m.c ac 2 = true) ∧ Row wr (w.heap.size) 28 M ∧ Below w.heap.size w wr) (fun i _ => 3 - (intOf i).toNat)
      case atStart => exact ⟨0, by omega, rfl, by omega, by omega, by omega, Tm_2.out, B_2.out⟩
      case round =>
        obtain ⟨j, hj, rfl, hj0, hj1, hj2, hm, hbw⟩ := hrel
        have HM := Lib.hid hm
        have HBW := Lib.hid hbw
        have J0 := Lib.hid hj0
        have J1 := Lib.hid hj1
        have J2 := Lib.hid hj2
        have c9 := hm.cell 9
        rw [HC9.out] at c9
        have hj3 : j = 0 ∨ j = 1 ∨ j = 2 ∨ j = 3 := by omega
        clear hm hbw hj0 hj1 hj2
        rcases hj3 with rfl | rfl | rfl | rfl
        · obtain ⟨sr, hsr⟩ : ∃ b, m.a.right = b := ⟨_, rfl⟩
          obtain ⟨st, hst⟩ : ∃ b, m.a.s = b := ⟨_, rfl⟩
          have HOK : Hid (okS m.a ac 0 = (sr && (st != 3 || ac == 0))) := Lib.hid (by unfold okS; rw [hsr, hst])
          obtain ⟨Y, hY⟩ : ∃ Y, slc m.a = Y := ⟨_, rfl⟩
          have HYL : Hid (Y.length = 3) := Lib.hid (by rw [← hY]; rfl)
          have HYO : Hid (Y.all (·.oneCell') = true) := Lib.hid (by rw [← hY]; rfl)
          have HY0 : Hid (Y[0]? = some (.int .i64 st)) := Lib.hid (by rw [← hY, ← hst]; rfl)
          have hix : ∀ u, (Instr.index 26 (.agg S.toArray) (.int .i64 0)).run Try.prog u = .ok (.agg Y.toArray) u := fun u => by rw [← hY]; exact (HI.out u).1
          have HSR : Hid (∀ u, Calls Try.prog 21 #[.agg Y.toArray] u fun e w' => e = .returned (.bool sr) ∧ Below u.heap.size u w') := Lib.hid fun u => by rw [← hY, ← hsr]; exact met_sright_any m.a u
          have G_m : Hid (w.heap.size ≤ w.heap.size) := Lib.hid G_m.out
          clear hsr hst hY
          cases sr with
          | false =>
            have HE : Hid (R = false) := Lib.hid (by rw [HRES.out, HOK.out]; simp)
            go_wp2_with (first
              | ((with_reducible refine wpAllocK (w := wr) (Z) 25 HZ.out ?_ ?_); rfl; intro v1 r_ b_ s_; have N_m_s : Hid (w.heap.size ≠ wr.heap.size) := Lib.hid (by have := HM.out.lt; omega); have G_s : Hid (w.heap.size ≤ wr.heap.size) := Lib.hid (HBW.out.size); have Tm_1 := Lib.hid (HM.out.step b_); have B_1 : Hid (Below w.heap.size w v1) := Lib.hid (HBW.out.next b_); have Ts_1 := Lib.hid r_; clear r_ b_ s_ HM HBW)
              | ((with_reducible refine Ts_1.out.wpStoreK 25 (Y) fits_slot (HZL.out) (HYL.out) (HYO.out) ?_ ?_); rfl; intro v2 r_ o_ s_; have Tm_2 := Lib.hid (Tm_1.out.only o_ N_m_s.out); have Ts_2 := Lib.hid r_; have B_2 : Hid (Below w.heap.size w v2) := Lib.hid (B_1.out.trans (o_.below G_s.out B_1.out.size)); clear r_ o_ s_ Ts_1 B_1 Tm_1)
              | ((with_reducible refine Ts_2.out.wpLoadK 25 fits_slot (HYL.out) ?_ ?_); rfl)
              | (go_at_call 21; (with_reducible refine (HSR.out v2).mono ?_); rintro e v3 ⟨rfl, b_⟩; have Tm_3 := Lib.hid (Tm_2.out.step b_); have Ts_3 := Lib.hid (Ts_2.out.step b_); have B_3 : Hid (Below w.heap.size w v3) := Lib.hid (B_2.out.next b_); have d0 := (Ts_3.out.cell 0).trans HY0.out; have d9 := (Tm_3.out.cell 9).trans HC9.out; clear b_ Tm_2 Ts_2 B_2))
            go_ret
            exact ⟨ret_bool HE.out.symm, B_3.out⟩
          | true =>
            by_cases h3 : st = 3
            · subst h3
              by_cases ha : ac = 0
              · subst ha
                have HG : Hid (okS m.a 0 0 = true) := Lib.hid (by rw [HOK.out]; rfl)
                go_wp2_with (first
                  | ((with_reducible refine wpAllocK (w := wr) (Z) 25 HZ.out ?_ ?_); rfl; intro v1 r_ b_ s_; have N_m_s : Hid (w.heap.size ≠ wr.heap.size) := Lib.hid (by have := HM.out.lt; omega); have G_s : Hid (w.heap.size ≤ wr.heap.size) := Lib.hid (HBW.out.size); have Tm_1 := Lib.hid (HM.out.step b_); have B_1 : Hid (Below w.heap.size w v1) := Lib.hid (HBW.out.next b_); have Ts_1 := Lib.hid r_; clear r_ b_ s_ HM HBW)
                  | ((with_reducible refine Ts_1.out.wpStoreK 25 (Y) fits_slot (HZL.out) (HYL.out) (HYO.out) ?_ ?_); rfl; intro v2 r_ o_ s_; have Tm_2 := Lib.hid (Tm_1.out.only o_ N_m_s.out); have Ts_2 := Lib.hid r_; have B_2 : Hid (Below w.heap.size w v2) := Lib.hid (B_1.out.trans (o_.below G_s.out B_1.out.size)); clear r_ o_ s_ Ts_1 B_1 Tm_1)
                  | ((with_reducible refine Ts_2.out.wpLoadK 25 fits_slot (HYL.out) ?_ ?_); rfl)
                  | (go_at_call 21; (with_reducible refine (HSR.out v2).mono ?_); rintro e v3 ⟨rfl, b_⟩; have Tm_3 := Lib.hid (Tm_2.out.step b_); have Ts_3 := Lib.hid (Ts_2.out.step b_); have B_3 : Hid (Below w.heap.size w v3) := Lib.hid (B_2.out.next b_); have d0 := (Ts_3.out.cell 0).trans HY0.out; have d9 := (Tm_3.out.cell 9).trans HC9.out; clear b_ Tm_2 Ts_2 B_2))
                go_roundw
                case rel => exact ⟨1, by omega, by go_num, fun _ => HG.out, by omega, by omega, Tm_3.out, B_3.out⟩
                case measure => simp [intOf]
              · have e1 : (ac != (0 : Int)) = true := by simp [ha]
                have e2 : (!(ac == (0 : Int))) = true := by simp [ha]
                have e3 : ((0 : Int) != ac) = true := by simp [bne_iff_ne, Ne.symm ha]
                have e4 : (!((0 : Int) == ac)) = true := by rw [← bne]; exact e3
                have HE : Hid (R = false) := Lib.hid (by rw [HRES.out, HOK.out]; simp [ha])
                go_wp2_with (first
                  | ((with_reducible refine wpAllocK (w := wr) (Z) 25 HZ.out ?_ ?_); rfl; intro v1 r_ b_ s_; have N_m_s : Hid (w.heap.size ≠ wr.heap.size) := Lib.hid (by have := HM.out.lt; omega); have G_s : Hid (w.heap.size ≤ wr.heap.size) := Lib.hid (HBW.out.size); have Tm_1 := Lib.hid (HM.out.step b_); have B_1 : Hid (Below w.heap.size w v1) := Lib.hid (HBW.out.next b_); have Ts_1 := Lib.hid r_; clear r_ b_ s_ HM HBW)
                  | ((with_reducible refine Ts_1.out.wpStoreK 25 (Y) fits_slot (HZL.out) (HYL.out) (HYO.out) ?_ ?_); rfl; intro v2 r_ o_ s_; have Tm_2 := Lib.hid (Tm_1.out.only o_ N_m_s.out); have Ts_2 := Lib.hid r_; have B_2 : Hid (Below w.heap.size w v2) := Lib.hid (B_1.out.trans (o_.below G_s.out B_1.out.size)); clear r_ o_ s_ Ts_1 B_1 Tm_1)
                  | ((with_reducible refine Ts_2.out.wpLoadK 25 fits_slot (HYL.out) ?_ ?_); rfl)
                  | (go_at_call 21; (with_reducible refine (HSR.out v2).mono ?_); rintro e v3 ⟨rfl, b_⟩; have Tm_3 := Lib.hid (Tm_2.out.step b_); have Ts_3 := Lib.hid (Ts_2.out.step b_); have B_3 : Hid (Below w.heap.size w v3) := Lib.hid (B_2.out.next b_); have d0 := (Ts_3.out.cell 0).trans HY0.out; have d9 := (Tm_3.out.cell 9).trans HC9.out; clear b_ Tm_2 Ts_2 B_2))
                go_ret
                exact ⟨ret_bool HE.out.symm, B_3.out⟩
            · have e1 : (st == (3 : Int)) = false := by simp [h3]
              have HG : Hid (okS m.a ac 0 = true) := Lib.hid (by rw [HOK.out]; simp [h3])
              go_wp2_with (first
                | ((with_reducible refine wpAllocK (w := wr) (Z) 25 HZ.out ?_ ?_); rfl; intro v1 r_ b_ s_; have N_m_s : Hid (w.heap.size ≠ wr.heap.size) := Lib.hid (by have := HM.out.lt; omega); have G_s : Hid (w.heap.size ≤ wr.heap.size) := Lib.hid (HBW.out.size); have Tm_1 := Lib.hid (HM.out.step b_); have B_1 : Hid (Below w.heap.size w v1) := Lib.hid (HBW.out.next b_); have Ts_1 := Lib.hid r_; clear r_ b_ s_ HM HBW)
                | ((with_reducible refine Ts_1.out.wpStoreK 25 (Y) fits_slot (HZL.out) (HYL.out) (HYO.out) ?_ ?_); rfl; intro v2 r_ o_ s_; have Tm_2 := Lib.hid (Tm_1.out.only o_ N_m_s.out); have Ts_2 := Lib.hid r_; have B_2 : Hid (Below w.heap.size w v2) := Lib.hid (B_1.out.trans (o_.below G_s.out B_1.out.size)); clear r_ o_ s_ Ts_1 B_1 Tm_1)
                | ((with_reducible refine Ts_2.out.wpLoadK 25 fits_slot (HYL.out) ?_ ?_); rfl)
                | (go_at_call 21; (with_reducible refine (HSR.out v2).mono ?_); rintro e v3 ⟨rfl, b_⟩; have Tm_3 := Lib.hid (Tm_2.out.step b_); have Ts_3 := Lib.hid (Ts_2.out.step b_); have B_3 : Hid (Below w.heap.size w v3) := Lib.hid (B_2.out.next b_); have d0 := (Ts_3.out.cell 0).trans HY0.out; have d9 := (Tm_3.out.cell 9).trans HC9.out; clear b_ Tm_2 Ts_2 B_2))
              go_roundw
              case rel => exact ⟨1, by omega, by go_num, fun _ => HG.out, by omega, by omega, Tm_3.out, B_3.out⟩
              case measure => simp [intOf]
        · obtain ⟨sr, hsr⟩ : ∃ b, m.b.right = b := ⟨_, rfl⟩
          obtain ⟨st, hst⟩ : ∃ b, m.b.s = b := ⟨_, rfl⟩
          have HOK : Hid (okS m.b ac 1 = (sr && (st != 3 || ac == 1))) := Lib.hid (by unfold okS; rw [hsr, hst])
          obtain ⟨Y, hY⟩ : ∃ Y, slc m.b = Y := ⟨_, rfl⟩
          have HYL : Hid (Y.length = 3) := Lib.hid (by rw [← hY]; rfl)
          have HYO : Hid (Y.all (·.oneCell') = true) := Lib.hid (by rw [← hY]; rfl)
          have HY0 : Hid (Y[0]? = some (.int .i64 st)) := Lib.hid (by rw [← hY, ← hst]; rfl)
          have hix : ∀ u, (Instr.index 26 (.agg S.toArray) (.int .i64 1)).run Try.prog u = .ok (.agg Y.toArray) u := fun u => by rw [← hY]; exact (HI.out u).2.1
          have HSR : Hid (∀ u, Calls Try.prog 21 #[.agg Y.toArray] u fun e w' => e = .returned (.bool sr) ∧ Below u.heap.size u w') := Lib.hid fun u => by rw [← hY, ← hsr]; exact met_sright_any m.b u
          have G_m : Hid (w.heap.size ≤ w.heap.size) := Lib.hid G_m.out
          clear hsr hst hY
          cases sr with
          | false =>
            have HE : Hid (R = false) := Lib.hid (by rw [HRES.out, HOK.out]; simp)
            go_wp2_with (first
              | ((with_reducible refine wpAllocK (w := wr) (Z) 25 HZ.out ?_ ?_); rfl; intro v1 r_ b_ s_; have N_m_s : Hid (w.heap.size ≠ wr.heap.size) := Lib.hid (by have := HM.out.lt; omega); have G_s : Hid (w.heap.size ≤ wr.heap.size) := Lib.hid (HBW.out.size); have Tm_1 := Lib.hid (HM.out.step b_); have B_1 : Hid (Below w.heap.size w v1) := Lib.hid (HBW.out.next b_); have Ts_1 := Lib.hid r_; clear r_ b_ s_ HM HBW)
              | ((with_reducible refine Ts_1.out.wpStoreK 25 (Y) fits_slot (HZL.out) (HYL.out) (HYO.out) ?_ ?_); rfl; intro v2 r_ o_ s_; have Tm_2 := Lib.hid (Tm_1.out.only o_ N_m_s.out); have Ts_2 := Lib.hid r_; have B_2 : Hid (Below w.heap.size w v2) := Lib.hid (B_1.out.trans (o_.below G_s.out B_1.out.size)); clear r_ o_ s_ Ts_1 B_1 Tm_1)
              | ((with_reducible refine Ts_2.out.wpLoadK 25 fits_slot (HYL.out) ?_ ?_); rfl)
              | (go_at_call 21; (with_reducible refine (HSR.out v2).mono ?_); rintro e v3 ⟨rfl, b_⟩; have Tm_3 := Lib.hid (Tm_2.out.step b_); have Ts_3 := Lib.hid (Ts_2.out.step b_); have B_3 : Hid (Below w.heap.size w v3) := Lib.hid (B_2.out.next b_); have d0 := (Ts_3.out.cell 0).trans HY0.out; have d9 := (Tm_3.out.cell 9).trans HC9.out; clear b_ Tm_2 Ts_2 B_2))
            go_ret
            exact ⟨ret_bool HE.out.symm, B_3.out⟩
          | true =>
            by_cases h3 : st = 3
            · subst h3
              by_cases ha : ac = 1
              · subst ha
                have HG : Hid (okS m.b 1 1 = true) := Lib.hid (by rw [HOK.out]; rfl)
                go_wp2_with (first
                  | ((with_reducible refine wpAllocK (w := wr) (Z) 25 HZ.out ?_ ?_); rfl; intro v1 r_ b_ s_; have N_m_s : Hid (w.heap.size ≠ wr.heap.size) := Lib.hid (by have := HM.out.lt; omega); have G_s : Hid (w.heap.size ≤ wr.heap.size) := Lib.hid (HBW.out.size); have Tm_1 := Lib.hid (HM.out.step b_); have B_1 : Hid (Below w.heap.size w v1) := Lib.hid (HBW.out.next b_); have Ts_1 := Lib.hid r_; clear r_ b_ s_ HM HBW)
                  | ((with_reducible refine Ts_1.out.wpStoreK 25 (Y) fits_slot (HZL.out) (HYL.out) (HYO.out) ?_ ?_); rfl; intro v2 r_ o_ s_; have Tm_2 := Lib.hid (Tm_1.out.only o_ N_m_s.out); have Ts_2 := Lib.hid r_; have B_2 : Hid (Below w.heap.size w v2) := Lib.hid (B_1.out.trans (o_.below G_s.out B_1.out.size)); clear r_ o_ s_ Ts_1 B_1 Tm_1)
                  | ((with_reducible refine Ts_2.out.wpLoadK 25 fits_slot (HYL.out) ?_ ?_); rfl)
                  | (go_at_call 21; (with_reducible refine (HSR.out v2).mono ?_); rintro e v3 ⟨rfl, b_⟩; have Tm_3 := Lib.hid (Tm_2.out.step b_); have Ts_3 := Lib.hid (Ts_2.out.step b_); have B_3 : Hid (Below w.heap.size w v3) := Lib.hid (B_2.out.next b_); have d0 := (Ts_3.out.cell 0).trans HY0.out; have d9 := (Tm_3.out.cell 9).trans HC9.out; clear b_ Tm_2 Ts_2 B_2))
                go_roundw
                case rel => exact ⟨2, by omega, by go_num, fun _ => J0.out (by omega), fun _ => HG.out, by omega, Tm_3.out, B_3.out⟩
                case measure => simp [intOf]
              · have e1 : (ac != (1 : Int)) = true := by simp [ha]
                have e2 : (!(ac == (1 : Int))) = true := by simp [ha]
                have e3 : ((1 : Int) != ac) = true := by simp [bne_iff_ne, Ne.symm ha]
                have e4 : (!((1 : Int) == ac)) = true := by rw [← bne]; exact e3
                have HE : Hid (R = false) := Lib.hid (by rw [HRES.out, HOK.out]; simp [ha])
                go_wp2_with (first
                  | ((with_reducible refine wpAllocK (w := wr) (Z) 25 HZ.out ?_ ?_); rfl; intro v1 r_ b_ s_; have N_m_s : Hid (w.heap.size ≠ wr.heap.size) := Lib.hid (by have := HM.out.lt; omega); have G_s : Hid (w.heap.size ≤ wr.heap.size) := Lib.hid (HBW.out.size); have Tm_1 := Lib.hid (HM.out.step b_); have B_1 : Hid (Below w.heap.size w v1) := Lib.hid (HBW.out.next b_); have Ts_1 := Lib.hid r_; clear r_ b_ s_ HM HBW)
                  | ((with_reducible refine Ts_1.out.wpStoreK 25 (Y) fits_slot (HZL.out) (HYL.out) (HYO.out) ?_ ?_); rfl; intro v2 r_ o_ s_; have Tm_2 := Lib.hid (Tm_1.out.only o_ N_m_s.out); have Ts_2 := Lib.hid r_; have B_2 : Hid (Below w.heap.size w v2) := Lib.hid (B_1.out.trans (o_.below G_s.out B_1.out.size)); clear r_ o_ s_ Ts_1 B_1 Tm_1)
                  | ((with_reducible refine Ts_2.out.wpLoadK 25 fits_slot (HYL.out) ?_ ?_); rfl)
                  | (go_at_call 21; (with_reducible refine (HSR.out v2).mono ?_); rintro e v3 ⟨rfl, b_⟩; have Tm_3 := Lib.hid (Tm_2.out.step b_); have Ts_3 := Lib.hid (Ts_2.out.step b_); have B_3 : Hid (Below w.heap.size w v3) := Lib.hid (B_2.out.next b_); have d0 := (Ts_3.out.cell 0).trans HY0.out; have d9 := (Tm_3.out.cell 9).trans HC9.out; clear b_ Tm_2 Ts_2 B_2))
                go_ret
                exact ⟨ret_bool HE.out.symm, B_3.out⟩
            · have e1 : (st == (3 : Int)) = false := by simp [h3]
              have HG : Hid (okS m.b ac 1 = true) := Lib.hid (by rw [HOK.out]; simp [h3])
              go_wp2_with (first
                | ((with_reducible refine wpAllocK (w := wr) (Z) 25 HZ.out ?_ ?_); rfl; intro v1 r_ b_ s_; have N_m_s : Hid (w.heap.size ≠ wr.heap.size) := Lib.hid (by have := HM.out.lt; omega); have G_s : Hid (w.heap.size ≤ wr.heap.size) := Lib.hid (HBW.out.size); have Tm_1 := Lib.hid (HM.out.step b_); have B_1 : Hid (Below w.heap.size w v1) := Lib.hid (HBW.out.next b_); have Ts_1 := Lib.hid r_; clear r_ b_ s_ HM HBW)
                | ((with_reducible refine Ts_1.out.wpStoreK 25 (Y) fits_slot (HZL.out) (HYL.out) (HYO.out) ?_ ?_); rfl; intro v2 r_ o_ s_; have Tm_2 := Lib.hid (Tm_1.out.only o_ N_m_s.out); have Ts_2 := Lib.hid r_; have B_2 : Hid (Below w.heap.size w v2) := Lib.hid (B_1.out.trans (o_.below G_s.out B_1.out.size)); clear r_ o_ s_ Ts_1 B_1 Tm_1)
                | ((with_reducible refine Ts_2.out.wpLoadK 25 fits_slot (HYL.out) ?_ ?_); rfl)
                | (go_at_call 21; (with_reducible refine (HSR.out v2).mono ?_); rintro e v3 ⟨rfl, b_⟩; have Tm_3 := Lib.hid (Tm_2.out.step b_); have Ts_3 := Lib.hid (Ts_2.out.step b_); have B_3 : Hid (Below w.heap.size w v3) := Lib.hid (B_2.out.next b_); have d0 := (Ts_3.out.cell 0).trans HY0.out; have d9 := (Tm_3.out.cell 9).trans HC9.out; clear b_ Tm_2 Ts_2 B_2))
              go_roundw
              case rel => exact ⟨2, by omega, by go_num, fun _ => J0.out (by omega), fun _ => HG.out, by omega, Tm_3.out, B_3.out⟩
              case measure => simp [intOf]
        · obtain ⟨sr, hsr⟩ : ∃ b, m.c.right = b := ⟨_, rfl⟩
          obtain ⟨st, hst⟩ : ∃ b, m.c.s = b := ⟨_, rfl⟩
          have HOK : Hid (okS m.c ac 2 = (sr && (st != 3 || ac == 2))) := Lib.hid (by unfold okS; rw [hsr, hst])
          obtain ⟨Y, hY⟩ : ∃ Y, slc m.c = Y := ⟨_, rfl⟩
          have HYL : Hid (Y.length = 3) := Lib.hid (by rw [← hY]; rfl)
          have HYO : Hid (Y.all (·.oneCell') = true) := Lib.hid (by rw [← hY]; rfl)
          have HY0 : Hid (Y[0]? = some (.int .i64 st)) := Lib.hid (by rw [← hY, ← hst]; rfl)
          have hix : ∀ u, (Instr.index 26 (.agg S.toArray) (.int .i64 2)).run Try.prog u = .ok (.agg Y.toArray) u := fun u => by rw [← hY]; exact (HI.out u).2.2
          have HSR : Hid (∀ u, Calls Try.prog 21 #[.agg Y.toArray] u fun e w' => e = .returned (.bool sr) ∧ Below u.heap.size u w') := Lib.hid fun u => by rw [← hY, ← hsr]; exact met_sright_any m.c u
          have G_m : Hid (w.heap.size ≤ w.heap.size) := Lib.hid G_m.out
          clear hsr hst hY
          cases sr with
          | false =>
            have HE : Hid (R = false) := Lib.hid (by rw [HRES.out, HOK.out]; simp)
            go_wp2_with (first
              | ((with_reducible refine wpAllocK (w := wr) (Z) 25 HZ.out ?_ ?_); rfl; intro v1 r_ b_ s_; have N_m_s : Hid (w.heap.size ≠ wr.heap.size) := Lib.hid (by have := HM.out.lt; omega); have G_s : Hid (w.heap.size ≤ wr.heap.size) := Lib.hid (HBW.out.size); have Tm_1 := Lib.hid (HM.out.step b_); have B_1 : Hid (Below w.heap.size w v1) := Lib.hid (HBW.out.next b_); have Ts_1 := Lib.hid r_; clear r_ b_ s_ HM HBW)
              | ((with_reducible refine Ts_1.out.wpStoreK 25 (Y) fits_slot (HZL.out) (HYL.out) (HYO.out) ?_ ?_); rfl; intro v2 r_ o_ s_; have Tm_2 := Lib.hid (Tm_1.out.only o_ N_m_s.out); have Ts_2 := Lib.hid r_; have B_2 : Hid (Below w.heap.size w v2) := Lib.hid (B_1.out.trans (o_.below G_s.out B_1.out.size)); clear r_ o_ s_ Ts_1 B_1 Tm_1)
              | ((with_reducible refine Ts_2.out.wpLoadK 25 fits_slot (HYL.out) ?_ ?_); rfl)
              | (go_at_call 21; (with_reducible refine (HSR.out v2).mono ?_); rintro e v3 ⟨rfl, b_⟩; have Tm_3 := Lib.hid (Tm_2.out.step b_); have Ts_3 := Lib.hid (Ts_2.out.step b_); have B_3 : Hid (Below w.heap.size w v3) := Lib.hid (B_2.out.next b_); have d0 := (Ts_3.out.cell 0).trans HY0.out; have d9 := (Tm_3.out.cell 9).trans HC9.out; clear b_ Tm_2 Ts_2 B_2))
            go_ret
            exact ⟨ret_bool HE.out.symm, B_3.out⟩
          | true =>
            by_cases h3 : st = 3
            · subst h3
              by_cases ha : ac = 2
              · subst ha
                have HG : Hid (okS m.c 2 2 = true) := Lib.hid (by rw [HOK.out]; rfl)
                go_wp2_with (first
                  | ((with_reducible refine wpAllocK (w := wr) (Z) 25 HZ.out ?_ ?_); rfl; intro v1 r_ b_ s_; have N_m_s : Hid (w.heap.size ≠ wr.heap.size) := Lib.hid (by have := HM.out.lt; omega); have G_s : Hid (w.heap.size ≤ wr.heap.size) := Lib.hid (HBW.out.size); have Tm_1 := Lib.hid (HM.out.step b_); have B_1 : Hid (Below w.heap.size w v1) := Lib.hid (HBW.out.next b_); have Ts_1 := Lib.hid r_; clear r_ b_ s_ HM HBW)
                  | ((with_reducible refine Ts_1.out.wpStoreK 25 (Y) fits_slot (HZL.out) (HYL.out) (HYO.out) ?_ ?_); rfl; intro v2 r_ o_ s_; have Tm_2 := Lib.hid (Tm_1.out.only o_ N_m_s.out); have Ts_2 := Lib.hid r_; have B_2 : Hid (Below w.heap.size w v2) := Lib.hid (B_1.out.trans (o_.below G_s.out B_1.out.size)); clear r_ o_ s_ Ts_1 B_1 Tm_1)
                  | ((with_reducible refine Ts_2.out.wpLoadK 25 fits_slot (HYL.out) ?_ ?_); rfl)
                  | (go_at_call 21; (with_reducible refine (HSR.out v2).mono ?_); rintro e v3 ⟨rfl, b_⟩; have Tm_3 := Lib.hid (Tm_2.out.step b_); have Ts_3 := Lib.hid (Ts_2.out.step b_); have B_3 : Hid (Below w.heap.size w v3) := Lib.hid (B_2.out.next b_); have d0 := (Ts_3.out.cell 0).trans HY0.out; have d9 := (Tm_3.out.cell 9).trans HC9.out; clear b_ Tm_2 Ts_2 B_2))
                go_roundw
                case rel => exact ⟨3, by omega, by go_num, fun _ => J0.out (by omega), fun _ => J1.out (by omega), fun _ => HG.out, Tm_3.out, B_3.out⟩
                case measure => simp [intOf]
              · have e1 : (ac != (2 : Int)) = true := by simp [ha]
                have e2 : (!(ac == (2 : Int))) = true := by simp [ha]
                have e3 : ((2 : Int) != ac) = true := by simp [bne_iff_ne, Ne.symm ha]
                have e4 : (!((2 : Int) == ac)) = true := by rw [← bne]; exact e3
                have HE : Hid (R = false) := Lib.hid (by rw [HRES.out, HOK.out]; simp [ha])
                go_wp2_with (first
                  | ((with_reducible refine wpAllocK (w := wr) (Z) 25 HZ.out ?_ ?_); rfl; intro v1 r_ b_ s_; have N_m_s : Hid (w.heap.size ≠ wr.heap.size) := Lib.hid (by have := HM.out.lt; omega); have G_s : Hid (w.heap.size ≤ wr.heap.size) := Lib.hid (HBW.out.size); have Tm_1 := Lib.hid (HM.out.step b_); have B_1 : Hid (Below w.heap.size w v1) := Lib.hid (HBW.out.next b_); have Ts_1 := Lib.hid r_; clear r_ b_ s_ HM HBW)
                  | ((with_reducible refine Ts_1.out.wpStoreK 25 (Y) fits_slot (HZL.out) (HYL.out) (HYO.out) ?_ ?_); rfl; intro v2 r_ o_ s_; have Tm_2 := Lib.hid (Tm_1.out.only o_ N_m_s.out); have Ts_2 := Lib.hid r_; have B_2 : Hid (Below w.heap.size w v2) := Lib.hid (B_1.out.trans (o_.below G_s.out B_1.out.size)); clear r_ o_ s_ Ts_1 B_1 Tm_1)
                  | ((with_reducible refine Ts_2.out.wpLoadK 25 fits_slot (HYL.out) ?_ ?_); rfl)
                  | (go_at_call 21; (with_reducible refine (HSR.out v2).mono ?_); rintro e v3 ⟨rfl, b_⟩; have Tm_3 := Lib.hid (Tm_2.out.step b_); have Ts_3 := Lib.hid (Ts_2.out.step b_); have B_3 : Hid (Below w.heap.size w v3) := Lib.hid (B_2.out.next b_); have d0 := (Ts_3.out.cell 0).trans HY0.out; have d9 := (Tm_3.out.cell 9).trans HC9.out; clear b_ Tm_2 Ts_2 B_2))
                go_ret
                exact ⟨ret_bool HE.out.symm, B_3.out⟩
            · have e1 : (st == (3 : Int)) = false := by simp [h3]
              have HG : Hid (okS m.c ac 2 = true) := Lib.hid (by rw [HOK.out]; simp [h3])
              go_wp2_with (first
                | ((with_reducible refine wpAllocK (w := wr) (Z) 25 HZ.out ?_ ?_); rfl; intro v1 r_ b_ s_; have N_m_s : Hid (w.heap.size ≠ wr.heap.size) := Lib.hid (by have := HM.out.lt; omega); have G_s : Hid (w.heap.size ≤ wr.heap.size) := Lib.hid (HBW.out.size); have Tm_1 := Lib.hid (HM.out.step b_); have B_1 : Hid (Below w.heap.size w v1) := Lib.hid (HBW.out.next b_); have Ts_1 := Lib.hid r_; clear r_ b_ s_ HM HBW)
                | ((with_reducible refine Ts_1.out.wpStoreK 25 (Y) fits_slot (HZL.out) (HYL.out) (HYO.out) ?_ ?_); rfl; intro v2 r_ o_ s_; have Tm_2 := Lib.hid (Tm_1.out.only o_ N_m_s.out); have Ts_2 := Lib.hid r_; have B_2 : Hid (Below w.heap.size w v2) := Lib.hid (B_1.out.trans (o_.below G_s.out B_1.out.size)); clear r_ o_ s_ Ts_1 B_1 Tm_1)
                | ((with_reducible refine Ts_2.out.wpLoadK 25 fits_slot (HYL.out) ?_ ?_); rfl)
                | (go_at_call 21; (with_reducible refine (HSR.out v2).mono ?_); rintro e v3 ⟨rfl, b_⟩; have Tm_3 := Lib.hid (Tm_2.out.step b_); have Ts_3 := Lib.hid (Ts_2.out.step b_); have B_3 : Hid (Below w.heap.size w v3) := Lib.hid (B_2.out.next b_); have d0 := (Ts_3.out.cell 0).trans HY0.out; have d9 := (Tm_3.out.cell 9).trans HC9.out; clear b_ Tm_2 Ts_2 B_2))
              go_roundw
              case rel => exact ⟨3, by omega, by go_num, fun _ => J0.out (by omega), fun _ => J1.out (by omega), fun _ => HG.out, Tm_3.out, B_3.out⟩
              case measure => simp [intOf]
        · have HALL : Hid (R = (m.a.s == 4 && ((m.get ac).s == 4 || (m.get ac).s == 3))) := Lib.hid (by rw [HRES.out, J0.out (by omega), J1.out (by omega), J2.out (by omega)]; simp)
          obtain ⟨s0, hs0⟩ : ∃ x, m.a.s = x := ⟨_, rfl⟩
          have b0 := HM.out.cell 0
          rw [show M[0]? = some (.int .i64 s0) by rw [← HMM.out, ← hs0]; rfl] at b0
          rw [hs0] at HALL
          rcases isS_is.1 hs1 with rfl | rfl | rfl
          · rw [show (m.get 0).s = s0 from hs0] at HALL
            clear hs0 hs1
            by_cases h4 : s0 = 4
            · subst h4
              have HE : Hid (R = true) := Lib.hid (by rw [HALL.out]; rfl)
              go_wp2
              go_ret
              exact ⟨ret_bool HE.out.symm, HBW.out⟩
            · have e4 : (s0 == (4 : Int)) = false := by simp [h4]
              have HE : Hid (R = false) := Lib.hid (by rw [HALL.out]; rw [e4]; rfl)
              go_wp2
              go_ret
              exact ⟨ret_bool HE.out.symm, HBW.out⟩
          · obtain ⟨sa, hsa⟩ : ∃ x, m.b.s = x := ⟨_, rfl⟩
            have b1 := HM.out.cell 3
            rw [show M[3]? = some (.int .i64 sa) by rw [← HMM.out, ← hsa]; rfl] at b1
            rw [show (m.get 1).s = sa from hsa] at HALL
            clear hsa
            clear hs0 hs1
            by_cases h4 : s0 = 4
            · subst h4
              by_cases h5 : sa = 4
              · subst h5
                have HE : Hid (R = true) := Lib.hid (by rw [HALL.out]; rfl)
                go_wp2
                go_ret
                exact ⟨ret_bool HE.out.symm, HBW.out⟩
              · by_cases h6 : sa = 3
                · subst h6
                  have HE : Hid (R = true) := Lib.hid (by rw [HALL.out]; rfl)
                  go_wp2
                  go_ret
                  exact ⟨ret_bool HE.out.symm, HBW.out⟩
                · have e5 : (sa == (4 : Int)) = false := by simp [h5]
                  have e6 : (sa == (3 : Int)) = false := by simp [h6]
                  have HE : Hid (R = false) := Lib.hid (by rw [HALL.out]; rw [e5, e6]; rfl)
                  go_wp2
                  go_ret
                  exact ⟨ret_bool HE.out.symm, HBW.out⟩
            · have e4 : (s0 == (4 : Int)) = false := by simp [h4]
              have HE : Hid (R = false) := Lib.hid (by rw [HALL.out]; rw [e4]; rfl)
              go_wp2
              go_ret
              exact ⟨ret_bool HE.out.symm, HBW.out⟩
          · obtain ⟨sa, hsa⟩ : ∃ x, m.c.s = x := ⟨_, rfl⟩
            have b1 := HM.out.cell 6
            rw [show M[6]? = some (.int .i64 sa) by rw [← HMM.out, ← hsa]; rfl] at b1
            rw [show (m.get 2).s = sa from hsa] at HALL
            clear hsa
            clear hs0 hs1
            by_cases h4 : s0 = 4
            · subst h4
              by_cases h5 : sa = 4
              · subst h5
                have HE : Hid (R = true) := Lib.hid (by rw [HALL.out]; rfl)
                go_wp2
                go_ret
                exact ⟨ret_bool HE.out.symm, HBW.out⟩
              · by_cases h6 : sa = 3
                · subst h6
                  have HE : Hid (R = true) := Lib.hid (by rw [HALL.out]; rfl)
                  go_wp2
                  go_ret
                  exact ⟨ret_bool HE.out.symm, HBW.out⟩
                · have e5 : (sa == (4 : Int)) = false := by simp [h5]
                  have e6 : (sa == (3 : Int)) = false := by simp [h6]
                  have HE : Hid (R = false) := Lib.hid (by rw [HALL.out]; rw [e5, e6]; rfl)
                  go_wp2
                  go_ret
                  exact ⟨ret_bool HE.out.symm, HBW.out⟩
            · have e4 : (s0 == (4 : Int)) = false := by simp [h4]
              have HE : Hid (R = false) := Lib.hid (by rw [HALL.out]; rw [e4]; rfl)
              go_wp2
              go_ret
              exact ⟨ret_bool HE.out.symm, HBW.out⟩
end Go.Proofs.Ytbpdnaiackfdmaa
