/- New, All; the example. -/
import Derived.Test.YtbpdnaiackfdmaaMetG
namespace Go.Proofs.Ytbpdnaiackfdmaa
open Go.RowKit MetMath
set_option linter.unusedVariables false
set_option maxRecDepth 100000

def zeroM : Mt := ⟨⟨0, 0, 0⟩, ⟨0, 0, 0⟩, ⟨0, 0, 0⟩, 0, 0, 0, 0⟩
def Rc.doo (m : Mt) (r : Rc) : Mt × Int := m.doo (rOk r.k r.s r.n r.v) r.k r.s r.v
/-- All records done, from m on. -/
def allF : Mt → List Rc → Mt × Int
  | m, [] => (m, 0)
  | m, r :: l => if (Rc.doo m r).2 = 0 then allF (Rc.doo m r).1 l else (zeroM, (Rc.doo m r).2)
theorem met_do_rc (m : Mt) (r : Rc) (x : Mt) (e : Int) (he : Rc.doo m r = (x, e)) (w : World) :
    Calls Try.prog 8 #[.agg (mcs m).toArray, .agg r.cells.toArray] w fun ee w' => ee = .returned (.tuple #[.agg (mcs x).toArray, .int .i64 e]) ∧ Below w.heap.size w w' := by
  have := met_do_any m r.k r.s r.n r.v w
  rw [show m.doo (rOk r.k r.s r.n r.v) r.k r.s r.v = (x, e) from he] at this
  exact this
theorem met_mcs_length (m : Mt) : (mcs m).length = 13 := rfl
theorem met_mcs_one (m : Mt) : (mcs m).all (·.oneCell') = true := rfl
theorem rc_length (r : Rc) : r.cells.length = 4 := rfl
theorem rc_one (r : Rc) : r.cells.all (·.oneCell') = true := rfl
theorem zero_rc : ∀ u, (zeroValue 31).run Try.prog u = .ok (.agg (⟨0, 0, 0, 0⟩ : Rc).cells.toArray) u := zero_rec
theorem built_new : (Value.agg (mcs Mt.new).toArray) = (Value.agg (mcs Mt.new).toArray) := rfl
theorem met_new_any (w : World) : Calls Try.prog 7 #[] w fun e w' => e = .returned (.agg (mcs Mt.new).toArray) ∧ Below w.heap.size w w' := by
  obtain ⟨Z, hZ⟩ : ∃ Z, mcs zeroM = Z := ⟨_, rfl⟩
  have HZ : Hid (∀ u, (zeroValue 28).run Try.prog u = .ok (.agg Z.toArray) u) := Lib.hid (by rw [← hZ]; exact zero_meta)
  have HZL : Hid (Z.length = 13) := Lib.hid (by rw [← hZ]; rfl)
  have HNL : Hid ((mcs Mt.new).length = 13) := Lib.hid rfl
  have HNO : Hid ((mcs Mt.new).all (·.oneCell') = true) := Lib.hid rfl
  clear hZ
  go_enter Try.func7, Try.ntmps7
  go_wp2_with (first
    | ((with_reducible refine wpAllocK (w := w) (Z) 28 HZ.out ?_ ?_); rfl; intro u1 r_ b_ s_; have G_r : Hid (w.heap.size ≤ w.heap.size) := Lib.hid (Nat.le_refl _); have B_1 : Hid (Below w.heap.size w u1) := Lib.hid (b_); have Tr_1 := Lib.hid r_; clear r_ b_ s_)
    | ((with_reducible refine Tr_1.out.wpStoreK 28 (mcs Mt.new) fits_meta (HZL.out) (HNL.out) (HNO.out) ?_ ?_); rfl; intro u2 r_ o_ s_; have Tr_2 := Lib.hid r_; have B_2 : Hid (Below w.heap.size w u2) := Lib.hid (B_1.out.trans (o_.below G_r.out B_1.out.size)); clear r_ o_ s_ Tr_1 B_1))
  exact bodyPost_ret (Tr_2.out.result rfl _ _ rfl Try.underlying28 rfl fits_meta.size) rfl ⟨rfl, B_2.out⟩

set_option maxHeartbeats 2000000 in
theorem met_all_any (a : Option Addr) (n cap : Nat) (L : List Rc) (w : World) (hn : L.length = n) (hl : n ≤ 100000) (hr : Lies w w.heap.size a (rcs L)) :
    Calls Try.prog 14 #[.slice a n cap] w fun e w' => e = .returned (.tuple #[.agg (mcs (allF Mt.new L).1).toArray, .int .i64 (allF Mt.new L).2]) ∧ Below w.heap.size w w' := by
  obtain ⟨FM, FE, hF⟩ : ∃ x e, allF Mt.new L = (x, e) := ⟨_, _, rfl⟩
  have HF := Lib.hid hF
  rw [hF]
  show Calls _ _ _ _ fun e w' => e = .returned (.tuple #[.agg (mcs FM).toArray, .int .i64 FE]) ∧ _
  obtain ⟨Z, hZ⟩ : ∃ Z, mcs zeroM = Z := ⟨_, rfl⟩
  have HZZ := Lib.hid hZ
  have HZ : Hid (∀ u, (zeroValue 28).run Try.prog u = .ok (.agg Z.toArray) u) := Lib.hid (by rw [← hZ]; exact zero_meta)
  have HB0 : Hid (Try.prog.built 28 [] = some Z.toArray) := Lib.hid (by rw [← hZ]; kernel_rfl)
  have HZL : Hid (Z.length = 13) := Lib.hid (by rw [← hZ]; rfl)
  have HZO : Hid (Z.all (·.oneCell') = true) := Lib.hid (by rw [← hZ]; rfl)
  obtain ⟨N, hN⟩ : ∃ N, mcs Mt.new = N := ⟨_, rfl⟩
  have HNL : Hid (N.length = 13) := Lib.hid (by rw [← hN]; rfl)
  have HNO : Hid (N.all (·.oneCell') = true) := Lib.hid (by rw [← hN]; rfl)
  have HNEW : Hid (∀ u, Calls Try.prog 7 #[] u fun e w' => e = .returned (.agg N.toArray) ∧ Below u.heap.size u w') := Lib.hid (by rw [← hN]; exact met_new_any)
  have HNN := Lib.hid hN
  obtain ⟨RZ, hRZ⟩ : ∃ Z, (⟨0, 0, 0, 0⟩ : Rc).cells = Z := ⟨_, rfl⟩
  have HRZ : Hid (∀ u, (zeroValue 31).run Try.prog u = .ok (.agg RZ.toArray) u) := Lib.hid (by rw [← hRZ]; exact zero_rc)
  have HRZL : Hid (RZ.length = 4) := Lib.hid (by rw [← hRZ]; rfl)
  have HR := Lib.hid hr
  have HNL2 := Lib.hid hn
  clear hF hZ hN hr hRZ hn
  go_enter Try.func14, Try.ntmps14
  go_wp2_with (first
    | ((with_reducible refine wpAllocK (w := w) (Z) 28 HZ.out ?_ ?_); rfl; intro u1 r_ b_ s_; have G_r : Hid (w.heap.size ≤ w.heap.size) := Lib.hid (Nat.le_refl _); have B_1 : Hid (Below w.heap.size w u1) := Lib.hid (b_); have Tr_1 := Lib.hid r_; clear r_ b_ s_)
    | (go_at_call 7; (with_reducible refine (HNEW.out u1).mono ?_); rintro e u2 ⟨rfl, b_⟩; have Tr_2 := Lib.hid (Tr_1.out.step b_); have B_2 : Hid (Below w.heap.size w u2) := Lib.hid (B_1.out.next b_); clear b_ Tr_1 B_1)
    | ((with_reducible refine wpAllocK (w := u2) (Z) 28 HZ.out ?_ ?_); rfl; intro u3 r_ b_ s_; have N_r_m : Hid (w.heap.size ≠ u2.heap.size) := Lib.hid (by have := Tr_2.out.lt; omega); have G_m : Hid (w.heap.size ≤ u2.heap.size) := Lib.hid (B_2.out.size); have Tr_3 := Lib.hid (Tr_2.out.step b_); have B_3 : Hid (Below w.heap.size w u3) := Lib.hid (B_2.out.next b_); have Tm_3 := Lib.hid r_; clear r_ b_ s_ Tr_2 B_2)
    | ((with_reducible refine Tm_3.out.wpStoreK 28 (N) fits_meta (HZL.out) (HNL.out) (HNO.out) ?_ ?_); rfl; intro u4 r_ o_ s_; have Tr_4 := Lib.hid (Tr_3.out.only o_ N_r_m.out); have Tm_4 := Lib.hid r_; have B_4 : Hid (Below w.heap.size w u4) := Lib.hid (B_3.out.trans (o_.below G_m.out B_3.out.size)); clear r_ o_ s_ Tm_3 B_3 Tr_3))
  go_loopw [11] (fun i wr => ∃ (k : Nat) (m : Mt), k ≤ n ∧ i = .int .i64 (k : Int) ∧ allF m (L.drop k) = (FM, FE) ∧ Row wr (u2.heap.size) 28 (mcs m) ∧ Row wr (w.heap.size) 28 Z ∧ Below w.heap.size w wr) (fun i _ => n - (intOf i).toNat)
  case atStart => exact ⟨0, Mt.new, Nat.zero_le _, rfl, HF.out, by rw [HNN.out]; exact Tm_4.out, Tr_4.out, B_4.out⟩
  case round =>
    obtain ⟨k, m, hk, rfl, hall, hm, hz, hbw⟩ := hrel
    have HM := Lib.hid hm
    have HRW := Lib.hid hz
    have HBW := Lib.hid hbw
    have HAL := Lib.hid hall
    obtain ⟨M, hM⟩ : ∃ M, mcs m = M := ⟨_, rfl⟩
    rw [hM] at HM
    have HML : Hid (M.length = 13) := Lib.hid (by rw [← hM]; rfl)
    have HMO : Hid (M.all (·.oneCell') = true) := Lib.hid (by rw [← hM]; rfl)
    have HMM := Lib.hid hM
    have NRM : Hid (w.heap.size ≠ u2.heap.size) := Lib.hid N_r_m.out
    have GM : Hid (w.heap.size ≤ u2.heap.size) := Lib.hid G_m.out
    have GR : Hid (w.heap.size ≤ w.heap.size) := Lib.hid G_r.out
    clear hall hm hz hbw hM
    by_cases hlt : k < n
    · have hkl : k < L.length := by rw [HNL2.out]; exact hlt
      obtain ⟨bl, off, rfl, hbb, hc⟩ := HR.out (by rw [rcs_length]; omega)
      obtain ⟨r, hr⟩ : ∃ r, L[k] = r := ⟨_, rfl⟩
      obtain ⟨C, hC⟩ : ∃ C, r.cells = C := ⟨_, rfl⟩
      have HRG : Hid (wr.rangeAt bl (off + k * 4) C) := Lib.hid (by
        have := rcs_at (w := wr) (fun j u hj => (HBW.out.cell (p := ⟨bl, off + j, none⟩) hbb).trans (hc j u hj)) k hkl
        rw [hr, hC] at this
        exact this)
      have HCL : Hid (C.length = 4) := Lib.hid (by rw [← hC]; rfl)
      have HCO : Hid (C.all (·.oneCell') = true) := Lib.hid (by rw [← hC]; rfl)
      obtain ⟨x, e, hx⟩ : ∃ x e, Rc.doo m r = (x, e) := ⟨_, _, rfl⟩
      have HST : Hid (allF m (L.drop k) = if e = 0 then allF x (L.drop (k + 1)) else (zeroM, e)) := Lib.hid (by
        rw [List.drop_eq_getElem_cons hkl, hr, allF, hx])
      obtain ⟨X, hX⟩ : ∃ X, mcs x = X := ⟨_, rfl⟩
      have HXL : Hid (X.length = 13) := Lib.hid (by rw [← hX]; rfl)
      have HXO : Hid (X.all (·.oneCell') = true) := Lib.hid (by rw [← hX]; rfl)
      have HXX := Lib.hid hX
      have HDO : Hid (∀ u, Calls Try.prog 8 #[.agg M.toArray, .agg C.toArray] u fun ee w' => ee = .returned (.tuple #[.agg X.toArray, .int .i64 e]) ∧ Below u.heap.size u w') := Lib.hid fun u => by
        rw [← HMM.out, ← hC, ← hX]; exact met_do_rc m r x e hx u
      clear hc hr hC hx hX
      by_cases he : e = 0
      · subst he
        have N_m_r : Hid (u2.heap.size ≠ w.heap.size) := Lib.hid NRM.out.symm
        have G_m : Hid (w.heap.size ≤ u2.heap.size) := GM
        have G_r : Hid (w.heap.size ≤ w.heap.size) := GR
        go_wp2_with (first
          | ((with_reducible refine wpLoadRK HRG.out 31 fits_rec HCL.out ?_ ?_); rfl)
          | ((with_reducible refine wpAllocK (w := wr) (RZ) 31 HRZ.out ?_ ?_); rfl; intro v1 r_ b_ s_; have N_m_c : Hid (u2.heap.size ≠ wr.heap.size) := Lib.hid (by have := HM.out.lt; omega); have N_r_c : Hid (w.heap.size ≠ wr.heap.size) := Lib.hid (by have := HRW.out.lt; omega); have G_c : Hid (w.heap.size ≤ wr.heap.size) := Lib.hid (HBW.out.size); have Tm_1 := Lib.hid (HM.out.step b_); have Tr_1 := Lib.hid (HRW.out.step b_); have B_1 : Hid (Below w.heap.size w v1) := Lib.hid (HBW.out.next b_); have Tc_1 := Lib.hid r_; clear r_ b_ s_ HM HRW HBW)
          | ((with_reducible refine Tc_1.out.wpStoreK 31 (C) fits_rec (HRZL.out) (HCL.out) (HCO.out) ?_ ?_); rfl; intro v2 r_ o_ s_; have Tm_2 := Lib.hid (Tm_1.out.only o_ N_m_c.out); have Tr_2 := Lib.hid (Tr_1.out.only o_ N_r_c.out); have Tc_2 := Lib.hid r_; have B_2 : Hid (Below w.heap.size w v2) := Lib.hid (B_1.out.trans (o_.below G_c.out B_1.out.size)); clear r_ o_ s_ Tc_1 B_1 Tm_1 Tr_1)
          | ((with_reducible refine Tm_2.out.wpLoadK 28 fits_meta (HML.out) ?_ ?_); rfl)
          | ((with_reducible refine Tc_2.out.wpLoadK 31 fits_rec (HCL.out) ?_ ?_); rfl)
          | (go_at_call 8; (with_reducible refine (HDO.out v2).mono ?_); rintro e v3 ⟨rfl, b_⟩; have Tm_3 := Lib.hid (Tm_2.out.step b_); have Tr_3 := Lib.hid (Tr_2.out.step b_); have Tc_3 := Lib.hid (Tc_2.out.step b_); have B_3 : Hid (Below w.heap.size w v3) := Lib.hid (B_2.out.next b_); clear b_ Tm_2 Tr_2 Tc_2 B_2)
          | ((with_reducible refine Tm_3.out.wpStoreK 28 (X) fits_meta (HML.out) (HXL.out) (HXO.out) ?_ ?_); rfl; intro v4 r_ o_ s_; have Tr_4 := Lib.hid (Tr_3.out.only o_ N_m_r.out.symm); have Tc_4 := Lib.hid (Tc_3.out.only o_ N_m_c.out.symm); have Tm_4 := Lib.hid r_; have B_4 : Hid (Below w.heap.size w v4) := Lib.hid (B_3.out.trans (o_.below G_m.out B_3.out.size)); clear r_ o_ s_ Tm_3 B_3 Tr_3 Tc_3))
        go_roundw
        case rel => exact ⟨k + 1, x, by omega, by go_num, by have h1 := HST.out; simp only [if_true] at h1; rw [← h1]; exact HAL.out, by rw [HXX.out]; exact Tm_4.out, Tr_4.out, B_4.out⟩
        case measure => simp [intOf]; omega
      · have e1 : (e == (0 : Int)) = false := by simp [he]
        have e2 : (!(e == (0 : Int))) = true := by simp [he]
        have e3 : (e != (0 : Int)) = true := by simp [he]
        have HEQ : Hid (FM = zeroM ∧ FE = e) := Lib.hid (by have h1 := HST.out; rw [if_neg he, HAL.out] at h1; simp at h1; exact h1)
        clear he
        have N_m_r : Hid (u2.heap.size ≠ w.heap.size) := Lib.hid NRM.out.symm
        have G_m : Hid (w.heap.size ≤ u2.heap.size) := GM
        have G_r : Hid (w.heap.size ≤ w.heap.size) := GR
        go_wp2_with (first
          | ((with_reducible refine wpLoadRK HRG.out 31 fits_rec HCL.out ?_ ?_); rfl)
          | ((with_reducible refine wpAllocK (w := wr) (RZ) 31 HRZ.out ?_ ?_); rfl; intro v1 r_ b_ s_; have N_m_c : Hid (u2.heap.size ≠ wr.heap.size) := Lib.hid (by have := HM.out.lt; omega); have N_r_c : Hid (w.heap.size ≠ wr.heap.size) := Lib.hid (by have := HRW.out.lt; omega); have G_c : Hid (w.heap.size ≤ wr.heap.size) := Lib.hid (HBW.out.size); have Tm_1 := Lib.hid (HM.out.step b_); have Tr_1 := Lib.hid (HRW.out.step b_); have B_1 : Hid (Below w.heap.size w v1) := Lib.hid (HBW.out.next b_); have Tc_1 := Lib.hid r_; clear r_ b_ s_ HM HRW HBW)
          | ((with_reducible refine Tc_1.out.wpStoreK 31 (C) fits_rec (HRZL.out) (HCL.out) (HCO.out) ?_ ?_); rfl; intro v2 r_ o_ s_; have Tm_2 := Lib.hid (Tm_1.out.only o_ N_m_c.out); have Tr_2 := Lib.hid (Tr_1.out.only o_ N_r_c.out); have Tc_2 := Lib.hid r_; have B_2 : Hid (Below w.heap.size w v2) := Lib.hid (B_1.out.trans (o_.below G_c.out B_1.out.size)); clear r_ o_ s_ Tc_1 B_1 Tm_1 Tr_1)
          | ((with_reducible refine Tm_2.out.wpLoadK 28 fits_meta (HML.out) ?_ ?_); rfl)
          | ((with_reducible refine Tc_2.out.wpLoadK 31 fits_rec (HCL.out) ?_ ?_); rfl)
          | (go_at_call 8; (with_reducible refine (HDO.out v2).mono ?_); rintro e v3 ⟨rfl, b_⟩; have Tm_3 := Lib.hid (Tm_2.out.step b_); have Tr_3 := Lib.hid (Tr_2.out.step b_); have Tc_3 := Lib.hid (Tc_2.out.step b_); have B_3 : Hid (Below w.heap.size w v3) := Lib.hid (B_2.out.next b_); clear b_ Tm_2 Tr_2 Tc_2 B_2)
          | ((with_reducible refine Tm_3.out.wpStoreK 28 (X) fits_meta (HML.out) (HXL.out) (HXO.out) ?_ ?_); rfl; intro v4 r_ o_ s_; have Tr_4 := Lib.hid (Tr_3.out.only o_ N_m_r.out.symm); have Tc_4 := Lib.hid (Tc_3.out.only o_ N_m_c.out.symm); have Tm_4 := Lib.hid r_; have B_4 : Hid (Below w.heap.size w v4) := Lib.hid (B_3.out.trans (o_.below G_m.out B_3.out.size)); clear r_ o_ s_ Tm_3 B_3 Tr_3 Tc_3)
          | ((with_reducible refine wpBuildZeroK Z 28 HB0.out ?_ ?_); rfl)
          | ((with_reducible refine Tr_4.out.wpStoreK 28 (Z) fits_meta (HZL.out) (HZL.out) (HZO.out) ?_ ?_); rfl; intro v5 r_ o_ s_; have Tm_5 := Lib.hid (Tm_4.out.only o_ N_m_r.out); have Tc_5 := Lib.hid (Tc_4.out.only o_ N_r_c.out.symm); have Tr_5 := Lib.hid r_; have B_5 : Hid (Below w.heap.size w v5) := Lib.hid (B_4.out.trans (o_.below G_r.out B_4.out.size)); clear r_ o_ s_ Tr_4 B_4 Tm_4 Tc_4))
        exact bodyPost_ret (Tr_5.out.resultT rfl _ _ rfl Try.underlying28 rfl (by rw [HZL.out]; exact fits_meta.size)) rfl ⟨by rw [HEQ.out.1, HEQ.out.2, HZZ.out]; rfl, B_5.out⟩
    · have HEQ : Hid (m = FM ∧ FE = 0) := Lib.hid (by have h1 := HAL.out; rw [List.drop_eq_nil_of_le (by rw [HNL2.out]; omega), allF] at h1; simp at h1; exact ⟨h1.1, h1.2.symm⟩)
      have N_m_r : Hid (u2.heap.size ≠ w.heap.size) := Lib.hid NRM.out.symm
      have G_m : Hid (w.heap.size ≤ u2.heap.size) := GM
      have G_r : Hid (w.heap.size ≤ w.heap.size) := GR
      go_wp2_with (first
        | ((with_reducible refine HM.out.wpLoadK 28 fits_meta (HML.out) ?_ ?_); rfl)
        | ((with_reducible refine HRW.out.wpStoreK 28 (M) fits_meta (HZL.out) (HML.out) (HMO.out) ?_ ?_); rfl; intro v1 r_ o_ s_; have Tm_1 := Lib.hid (HM.out.only o_ N_m_r.out); have Tr_1 := Lib.hid r_; have B_1 : Hid (Below w.heap.size w v1) := Lib.hid (HBW.out.trans (o_.below G_r.out HBW.out.size)); clear r_ o_ s_ HRW HBW HM))
      exact bodyPost_ret (Tr_1.out.resultT rfl _ _ rfl Try.underlying28 rfl (by rw [HML.out]; exact fits_meta.size)) rfl ⟨by rw [← HEQ.out.1, HEQ.out.2, HMM.out]; rfl, B_1.out⟩
end Go.Proofs.Ytbpdnaiackfdmaa
