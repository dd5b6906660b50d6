/- MetaPaths. -/
import Derived.Test.YtbpdnaiackfdmaaMetI
import Derived.Test.YtbpdnaiackfdmaaMetMath2
namespace Go.Proofs.Ytbpdnaiackfdmaa
open Go.RowKit MetMath
set_option linter.unusedVariables false
set_option maxRecDepth 100000

theorem Row.drewAt {w : World} {g : Nat} {t : TypeId} {l : List Value} (h : Row w g t l) (d : Nat) : Row (w.drewN d) g t l := h.drewN d
set_option maxHeartbeats 800000 in
theorem metaPaths_walk (a : Option Addr) (n cap : Nat) (L : List Rc) (w : World) (hn : L.length = n) (hr : Lies w w.heap.size a (rcs L)) :
    Calls Try.prog 5 #[.slice a n cap] w fun e w' => e = .returned (.bool true) ∧ Below w.heap.size w w' := by
  by_cases hbig : 200 < n
  · have HA := Lib.hid (met_awake_any)
    clear hr
    go_enter Try.func5, Try.ntmps5
    go_wp2_with (go_at_call 6; (with_reducible refine (HA.out w).mono ?_); rintro e u1 ⟨rfl, b1⟩; have B1 := Lib.hid b1; clear b1)
    go_ret
    exact ⟨rfl, B1.out⟩
  have hl : n ≤ 200 := by omega
  obtain ⟨Z, hZ⟩ : ∃ Z, mcs zeroM = Z := ⟨_, rfl⟩
  have HZ : Hid (∀ u, (zeroValue 28).run Try.prog u = .ok (.agg Z.toArray) u) := Lib.hid (by rw [← hZ]; exact zero_meta)
  have HZL : Hid (Z.length = 13) := Lib.hid (by rw [← hZ]; rfl)
  obtain ⟨N, hN⟩ : ∃ N, mcs Mt.new = N := ⟨_, rfl⟩
  have HNL : Hid (N.length = 13) := Lib.hid (by rw [← hN]; rfl)
  have HNO : Hid (N.all (·.oneCell') = true) := Lib.hid (by rw [← hN]; rfl)
  have HNEW : Hid (∀ u, Calls Try.prog 7 #[] u fun e w' => e = .returned (.agg N.toArray) ∧ Below u.heap.size u w') := Lib.hid (by rw [← hN]; exact met_new_any)
  have HNN := Lib.hid hN
  obtain ⟨RZ, hRZ⟩ : ∃ Z, (⟨0, 0, 0, 0⟩ : Rc).cells = Z := ⟨_, rfl⟩
  have HRZ : Hid (∀ u, (zeroValue 31).run Try.prog u = .ok (.agg RZ.toArray) u) := Lib.hid (by rw [← hRZ]; exact zero_rc)
  have HRZL : Hid (RZ.length = 4) := Lib.hid (by rw [← hRZ]; rfl)
  have HR := Lib.hid hr
  have HNL2 := Lib.hid hn
  clear hZ hN hr hRZ hn hbig
  go_enter Try.func5, Try.ntmps5
  go_wp2_with (first
    | (go_at_call 6; (with_reducible refine (met_awake_any w).mono ?_); rintro e ww1 ⟨rfl, b_⟩; have B_1 : Hid (Below w.heap.size w ww1) := Lib.hid (b_); clear b_)
    | (go_at_call 7; (with_reducible refine (HNEW.out ww1).mono ?_); rintro e ww2 ⟨rfl, b_⟩; have B_2 : Hid (Below w.heap.size w ww2) := Lib.hid (B_1.out.next b_); clear b_ B_1)
    | ((with_reducible refine wpAllocK (w := ww2) (Z) 28 HZ.out ?_ ?_); rfl; intro ww3 r_ b_ s_; have G_m : Hid (w.heap.size ≤ ww2.heap.size) := Lib.hid (B_2.out.size); have B_3 : Hid (Below w.heap.size w ww3) := Lib.hid (B_2.out.next b_); have Tm_3 := Lib.hid r_; clear r_ b_ s_ B_2)
    | ((with_reducible refine Tm_3.out.wpStoreK 28 (N) fits_meta (HZL.out) (HNL.out) (HNO.out) ?_ ?_); rfl; intro ww4 r_ o_ s_; have Tm_4 := Lib.hid r_; have B_4 : Hid (Below w.heap.size w ww4) := Lib.hid (B_3.out.trans (o_.below G_m.out B_3.out.size)); clear r_ o_ s_ Tm_3 B_3))
  go_loopw [20] (fun i wr => ∃ (k : Nat) (m : Mt), k ≤ n ∧ i = .int .i64 (k : Int) ∧ m.a.s = 4 ∧ Row wr (ww2.heap.size) 28 (mcs m) ∧ Below w.heap.size w wr) (fun i _ => n - (intOf i).toNat)
  case atStart => exact ⟨0, Mt.new, Nat.zero_le _, rfl, rfl, by rw [HNN.out]; exact Tm_4.out, B_4.out⟩
  case round =>
    rename World => wo
    obtain ⟨k, m, hk, rfl, hgold, hm, hbw⟩ := hrel
    have HM := Lib.hid hm
    have HBW := Lib.hid hbw
    obtain ⟨M, hM⟩ : ∃ M, mcs m = M := ⟨_, rfl⟩
    rw [hM] at HM
    have HML : Hid (M.length = 13) := Lib.hid (by rw [← hM]; rfl)
    have HMM := Lib.hid hM
    have GM : Hid (w.heap.size ≤ ww2.heap.size) := Lib.hid G_m.out
    clear hm hbw hM
    by_cases hlt : k < n
    · have hkl : k < L.length := by rw [HNL2.out]; exact hlt
      obtain ⟨bl, off, rfl, hbb, hc⟩ := HR.out (by rw [rcs_length]; omega)
      obtain ⟨r, hr⟩ : ∃ r, L[k] = r := ⟨_, rfl⟩
      obtain ⟨C, hC⟩ : ∃ C, r.cells = C := ⟨_, rfl⟩
      have HRG : Hid (wo.rangeAt bl (off + k * 4) C) := Lib.hid (by
        have := rcs_at (w := wo) (fun j u hj => (HBW.out.cell (p := ⟨bl, off + j, none⟩) hbb).trans (hc j u hj)) k hkl
        rw [hr, hC] at this
        exact this)
      have HCL : Hid (C.length = 4) := Lib.hid (by rw [← hC]; rfl)
      have HCO : Hid (C.all (·.oneCell') = true) := Lib.hid (by rw [← hC]; rfl)
      obtain ⟨kd, hkd⟩ : ∃ x, r.k = x := ⟨_, rfl⟩
      have HC0 : Hid (C[0]? = some (.int .i64 kd)) := Lib.hid (by rw [← hC, ← hkd]; rfl)
      have G_m : Hid (w.heap.size ≤ ww2.heap.size) := GM
      by_cases hbk : 13 < kd
      · have HGO := Lib.hid hgold
        clear hc hr hC hkd hgold
        go_wp2_with (first
          | ((with_reducible refine wpLoadRK HRG.out 31 fits_rec HCL.out ?_ ?_); rfl)
          | ((with_reducible refine wpAllocK (w := wo) (RZ) 31 HRZ.out ?_ ?_); rfl; intro v1 r_ b_ s_; have N_m_c : Hid (ww2.heap.size ≠ wo.heap.size) := Lib.hid (by have := HM.out.lt; omega); have G_c : Hid (w.heap.size ≤ wo.heap.size) := Lib.hid (HBW.out.size); have Tm_1 := Lib.hid (HM.out.step b_); have B_1 : Hid (Below w.heap.size w v1) := Lib.hid (HBW.out.next b_); have Tc_1 := Lib.hid r_; clear r_ b_ s_ HM HBW)
          | ((with_reducible refine Tc_1.out.wpStoreK 31 (C) fits_rec (HRZL.out) (HCL.out) (HCO.out) ?_ ?_); rfl; intro v2 r_ o_ s_; have Tm_2 := Lib.hid (Tm_1.out.only o_ N_m_c.out); have Tc_2 := Lib.hid r_; have B_2 : Hid (Below w.heap.size w v2) := Lib.hid (B_1.out.trans (o_.below G_c.out B_1.out.size)); have c0 := (Tc_2.out.cell 0).trans HC0.out; clear r_ o_ s_ Tc_1 B_1 Tm_1))
        go_roundw
        case rel => exact ⟨k + 1, m, by omega, by go_num, HGO.out, by rw [HMM.out]; exact Tm_2.out, B_2.out⟩
        case measure => simp [intOf]; omega
      · obtain ⟨x, e, hx⟩ : ∃ x e, Rc.doo m r = (x, e) := ⟨_, _, rfl⟩
        have HPA : Hid (Paths m x kd) := Lib.hid (by
          have := doo_path m (rOk r.k r.s r.n r.v) r.k r.s r.v (by omega) hgold
          rw [show m.doo (rOk r.k r.s r.n r.v) r.k r.s r.v = (x, e) from hx, hkd] at this
          exact this)
        obtain ⟨X, hX⟩ : ∃ X, mcs x = X := ⟨_, rfl⟩
        have HXL : Hid (X.length = 13) := Lib.hid (by rw [← hX]; rfl)
        have HXO : Hid (X.all (·.oneCell') = true) := Lib.hid (by rw [← hX]; rfl)
        have HXX := Lib.hid hX
        have HDO : Hid (∀ u, Calls Try.prog 8 #[.agg M.toArray, .agg C.toArray] u fun ee w' => ee = .returned (.tuple #[.agg X.toArray, .int .i64 e]) ∧ Below u.heap.size u w') := Lib.hid fun u => by
          rw [← HMM.out, ← hC, ← hX]; exact met_do_rc m r x e hx u
        clear hc hr hC hx hX hkd hgold
        go_wp2_with (first
          | ((with_reducible refine wpLoadRK HRG.out 31 fits_rec HCL.out ?_ ?_); rfl)
          | ((with_reducible refine wpAllocK (w := wo) (RZ) 31 HRZ.out ?_ ?_); rfl; intro v1 r_ b_ s_; have N_m_c : Hid (ww2.heap.size ≠ wo.heap.size) := Lib.hid (by have := HM.out.lt; omega); have G_c : Hid (w.heap.size ≤ wo.heap.size) := Lib.hid (HBW.out.size); have Tm_1 := Lib.hid (HM.out.step b_); have B_1 : Hid (Below w.heap.size w v1) := Lib.hid (HBW.out.next b_); have Tc_1 := Lib.hid r_; clear r_ b_ s_ HM HBW)
          | ((with_reducible refine Tc_1.out.wpStoreK 31 (C) fits_rec (HRZL.out) (HCL.out) (HCO.out) ?_ ?_); rfl; intro v2 r_ o_ s_; have Tm_2 := Lib.hid (Tm_1.out.only o_ N_m_c.out); have Tc_2 := Lib.hid r_; have B_2 : Hid (Below w.heap.size w v2) := Lib.hid (B_1.out.trans (o_.below G_c.out B_1.out.size)); have c0 := (Tc_2.out.cell 0).trans HC0.out; clear r_ o_ s_ Tc_1 B_1 Tm_1)
          | ((with_reducible refine Tm_2.out.wpLoadK 28 fits_meta (HML.out) ?_ ?_); rfl)
          | ((with_reducible refine Tc_2.out.wpLoadK 31 fits_rec (HCL.out) ?_ ?_); rfl)
          | (go_at_call 8; (with_reducible refine (HDO.out v2).mono ?_); rintro e v3 ⟨rfl, b_⟩; have Tm_3 := Lib.hid (Tm_2.out.step b_); have Tc_3 := Lib.hid (Tc_2.out.step b_); have B_3 : Hid (Below w.heap.size w v3) := Lib.hid (B_2.out.next b_); clear b_ Tm_2 Tc_2 B_2)
          | ((with_reducible refine wpAllocK (w := v3) (Z) 28 HZ.out ?_ ?_); rfl; intro v4 r_ b_ s_; have N_m_x : Hid (ww2.heap.size ≠ v3.heap.size) := Lib.hid (by have := Tm_3.out.lt; omega); have N_c_x : Hid (wo.heap.size ≠ v3.heap.size) := Lib.hid (by have := Tc_3.out.lt; omega); have G_x : Hid (w.heap.size ≤ v3.heap.size) := Lib.hid (B_3.out.size); have Tm_4 := Lib.hid (Tm_3.out.step b_); have Tc_4 := Lib.hid (Tc_3.out.step b_); have B_4 : Hid (Below w.heap.size w v4) := Lib.hid (B_3.out.next b_); have Tx_4 := Lib.hid r_; clear r_ b_ s_ Tm_3 Tc_3 B_3)
          | ((with_reducible refine Tx_4.out.wpStoreK 28 (X) fits_meta (HZL.out) (HXL.out) (HXO.out) ?_ ?_); rfl; intro v5 r_ o_ s_; have Tm_5 := Lib.hid (Tm_4.out.only o_ N_m_x.out); have Tc_5 := Lib.hid (Tc_4.out.only o_ N_c_x.out); have Tx_5 := Lib.hid r_; have B_5 : Hid (Below w.heap.size w v5) := Lib.hid (B_4.out.trans (o_.below G_x.out B_4.out.size)); clear r_ o_ s_ Tx_4 B_4 Tm_4 Tc_4))
        go_loopw [33] (fun i wi => ∃ j : Nat, j ≤ 3 ∧ i = .int .i64 (j : Int) ∧ Row wi (ww2.heap.size) 28 M ∧ Row wi (v3.heap.size) 28 X ∧ Row wi (wo.heap.size) 31 C ∧ Below w.heap.size w wi) (fun i _ => 3 - (intOf i).toNat)
        case atStart => exact ⟨0, by omega, rfl, Tm_5.out, Tx_5.out, Tc_5.out, B_5.out⟩
        case round =>
          obtain ⟨j, hj, rfl, hm, hx, hc, hbi⟩ := hrel
          have HMI := Lib.hid hm
          have HXI := Lib.hid hx
          have HCI := Lib.hid hc
          have HBI := Lib.hid hbi
          have NMX : Hid (ww2.heap.size ≠ v3.heap.size) := Lib.hid N_m_x.out
          have GMI : Hid (w.heap.size ≤ ww2.heap.size) := Lib.hid G_m.out
          clear hm hx hc hbi
          have hj3 : j = 0 ∨ j = 1 ∨ j = 2 ∨ j = 3 := by omega
          rcases hj3 with rfl | rfl | rfl | rfl
          · obtain ⟨sa, hsa⟩ : ∃ y, m.a.s = y := ⟨_, rfl⟩
            obtain ⟨sb, hsb⟩ : ∃ y, x.a.s = y := ⟨_, rfl⟩
            obtain ⟨vb, hvb⟩ : ∃ y, x.a.v = y := ⟨_, rfl⟩
            obtain ⟨ac, hac⟩ : ∃ y, x.act = y := ⟨_, rfl⟩
            have hp : Path kd ac 0 sa sb vb := by rw [← hsa, ← hsb, ← hvb, ← hac]; exact HPA.out.2.1
            have qa : wr.cell? ⟨ww2.heap.size, 0, none⟩ = some (.int .i64 sa) := (HMI.out.cell 0).trans (by rw [← HMM.out, ← hsa]; rfl)
            have qb : wr.cell? ⟨v3.heap.size, 0, none⟩ = some (.int .i64 sb) := (HXI.out.cell 0).trans (by rw [← HXX.out, ← hsb]; rfl)
            have qv : wr.cell? ⟨v3.heap.size, 1, none⟩ = some (.int .i64 vb) := (HXI.out.cell 1).trans (by rw [← HXX.out, ← hvb]; rfl)
            have qt : wr.cell? ⟨v3.heap.size, 9, none⟩ = some (.int .i64 ac) := (HXI.out.cell 9).trans (by rw [← HXX.out, ← hac]; rfl)
            have qk : wr.cell? ⟨wo.heap.size, 0, none⟩ = some (.int .i64 kd) := (HCI.out.cell 0).trans HC0.out
            clear hsa hsb hvb hac
            by_cases hab : sa = sb
            · subst hab
              clear hp
              go_wp2
              go_quiet (fail)
              go_wp2
              go_roundw
              case rel => exact ⟨1, by omega, by go_num, HMI.out.drewAt _, HXI.out.drewAt _, HCI.out.drewAt _, HBI.out.drewN _⟩
              case measure => simp [intOf]
            · have hp2 : (sb = 2 ∧ sa = 1) ∨ (sb = 3 ∧ sa = 2 ∧ ac = 0) ∨ (sb = 4 ∧ sa = 3) ∨ (sb = 4 ∧ kd = 12 ∧ sa = 1) ∨ (sb = 4 ∧ kd = 12 ∧ sa = 5) ∨ (sb = 1 ∧ vb = 0 ∧ ac ≠ 0) ∨ (sb = 0 ∧ vb = 0 ∧ ac ≠ 0) ∨ (sb = 5 ∧ vb = 0 ∧ ac ≠ 0) := hp.ways hab
              have eab : (sa == sb) = false := by simp [hab]
              clear hp
              rcases hp2 with ⟨rfl, rfl⟩ | ⟨rfl, rfl, rfl⟩ | ⟨rfl, rfl⟩ | ⟨rfl, rfl, rfl⟩ | ⟨rfl, rfl, rfl⟩ | ⟨rfl, rfl, hac⟩ | ⟨rfl, rfl, hac⟩ | ⟨rfl, rfl, hac⟩
              · clear hab eab
                go_wp2
                go_quiet (fail)
                go_wp2
                go_roundw
                case rel => exact ⟨1, by omega, by go_num, HMI.out.drewAt _, HXI.out.drewAt _, HCI.out.drewAt _, HBI.out.drewN _⟩
                case measure => simp [intOf]
              · clear hab eab
                go_wp2
                go_quiet (fail)
                go_wp2
                go_roundw
                case rel => exact ⟨1, by omega, by go_num, HMI.out.drewAt _, HXI.out.drewAt _, HCI.out.drewAt _, HBI.out.drewN _⟩
                case measure => simp [intOf]
              · clear hab eab
                go_wp2
                go_quiet (fail)
                go_wp2
                go_roundw
                case rel => exact ⟨1, by omega, by go_num, HMI.out.drewAt _, HXI.out.drewAt _, HCI.out.drewAt _, HBI.out.drewN _⟩
                case measure => simp [intOf]
              · clear hab eab
                go_wp2
                go_quiet (fail)
                go_wp2
                go_roundw
                case rel => exact ⟨1, by omega, by go_num, HMI.out.drewAt _, HXI.out.drewAt _, HCI.out.drewAt _, HBI.out.drewN _⟩
                case measure => simp [intOf]
              · clear hab eab
                go_wp2
                go_quiet (fail)
                go_wp2
                go_roundw
                case rel => exact ⟨1, by omega, by go_num, HMI.out.drewAt _, HXI.out.drewAt _, HCI.out.drewAt _, HBI.out.drewN _⟩
                case measure => simp [intOf]
              · have e1 : (ac != (0 : Int)) = true := by simp [hac]
                have e2 : (!(ac == (0 : Int))) = true := by simp [hac]
                clear hab hac
                go_wp2
                go_quiet (fail)
                go_wp2
                go_roundw
                case rel => exact ⟨1, by omega, by go_num, HMI.out.drewAt _, HXI.out.drewAt _, HCI.out.drewAt _, HBI.out.drewN _⟩
                case measure => simp [intOf]
              · have e1 : (ac != (0 : Int)) = true := by simp [hac]
                have e2 : (!(ac == (0 : Int))) = true := by simp [hac]
                clear hab hac
                go_wp2
                go_quiet (fail)
                go_wp2
                go_roundw
                case rel => exact ⟨1, by omega, by go_num, HMI.out.drewAt _, HXI.out.drewAt _, HCI.out.drewAt _, HBI.out.drewN _⟩
                case measure => simp [intOf]
              · have e1 : (ac != (0 : Int)) = true := by simp [hac]
                have e2 : (!(ac == (0 : Int))) = true := by simp [hac]
                clear hab hac
                go_wp2
                go_quiet (fail)
                go_wp2
                go_roundw
                case rel => exact ⟨1, by omega, by go_num, HMI.out.drewAt _, HXI.out.drewAt _, HCI.out.drewAt _, HBI.out.drewN _⟩
                case measure => simp [intOf]
          · obtain ⟨sa, hsa⟩ : ∃ y, m.b.s = y := ⟨_, rfl⟩
            obtain ⟨sb, hsb⟩ : ∃ y, x.b.s = y := ⟨_, rfl⟩
            obtain ⟨vb, hvb⟩ : ∃ y, x.b.v = y := ⟨_, rfl⟩
            obtain ⟨ac, hac⟩ : ∃ y, x.act = y := ⟨_, rfl⟩
            have hp : Path kd ac 1 sa sb vb := by rw [← hsa, ← hsb, ← hvb, ← hac]; exact HPA.out.2.2.1
            have qa : wr.cell? ⟨ww2.heap.size, 3, none⟩ = some (.int .i64 sa) := (HMI.out.cell 3).trans (by rw [← HMM.out, ← hsa]; rfl)
            have qb : wr.cell? ⟨v3.heap.size, 3, none⟩ = some (.int .i64 sb) := (HXI.out.cell 3).trans (by rw [← HXX.out, ← hsb]; rfl)
            have qv : wr.cell? ⟨v3.heap.size, 4, none⟩ = some (.int .i64 vb) := (HXI.out.cell 4).trans (by rw [← HXX.out, ← hvb]; rfl)
            have qt : wr.cell? ⟨v3.heap.size, 9, none⟩ = some (.int .i64 ac) := (HXI.out.cell 9).trans (by rw [← HXX.out, ← hac]; rfl)
            have qk : wr.cell? ⟨wo.heap.size, 0, none⟩ = some (.int .i64 kd) := (HCI.out.cell 0).trans HC0.out
            clear hsa hsb hvb hac
            by_cases hab : sa = sb
            · subst hab
              clear hp
              go_wp2
              go_quiet (fail)
              go_wp2
              go_roundw
              case rel => exact ⟨2, by omega, by go_num, HMI.out.drewAt _, HXI.out.drewAt _, HCI.out.drewAt _, HBI.out.drewN _⟩
              case measure => simp [intOf]
            · have hp2 : (sb = 2 ∧ sa = 1) ∨ (sb = 3 ∧ sa = 2 ∧ ac = 1) ∨ (sb = 4 ∧ sa = 3) ∨ (sb = 4 ∧ kd = 12 ∧ sa = 1) ∨ (sb = 4 ∧ kd = 12 ∧ sa = 5) ∨ (sb = 1 ∧ vb = 0 ∧ ac ≠ 1) ∨ (sb = 0 ∧ vb = 0 ∧ ac ≠ 1) ∨ (sb = 5 ∧ vb = 0 ∧ ac ≠ 1) := hp.ways hab
              have eab : (sa == sb) = false := by simp [hab]
              clear hp
              rcases hp2 with ⟨rfl, rfl⟩ | ⟨rfl, rfl, rfl⟩ | ⟨rfl, rfl⟩ | ⟨rfl, rfl, rfl⟩ | ⟨rfl, rfl, rfl⟩ | ⟨rfl, rfl, hac⟩ | ⟨rfl, rfl, hac⟩ | ⟨rfl, rfl, hac⟩
              · clear hab eab
                go_wp2
                go_quiet (fail)
                go_wp2
                go_roundw
                case rel => exact ⟨2, by omega, by go_num, HMI.out.drewAt _, HXI.out.drewAt _, HCI.out.drewAt _, HBI.out.drewN _⟩
                case measure => simp [intOf]
              · clear hab eab
                go_wp2
                go_quiet (fail)
                go_wp2
                go_roundw
                case rel => exact ⟨2, by omega, by go_num, HMI.out.drewAt _, HXI.out.drewAt _, HCI.out.drewAt _, HBI.out.drewN _⟩
                case measure => simp [intOf]
              · clear hab eab
                go_wp2
                go_quiet (fail)
                go_wp2
                go_roundw
                case rel => exact ⟨2, by omega, by go_num, HMI.out.drewAt _, HXI.out.drewAt _, HCI.out.drewAt _, HBI.out.drewN _⟩
                case measure => simp [intOf]
              · clear hab eab
                go_wp2
                go_quiet (fail)
                go_wp2
                go_roundw
                case rel => exact ⟨2, by omega, by go_num, HMI.out.drewAt _, HXI.out.drewAt _, HCI.out.drewAt _, HBI.out.drewN _⟩
                case measure => simp [intOf]
              · clear hab eab
                go_wp2
                go_quiet (fail)
                go_wp2
                go_roundw
                case rel => exact ⟨2, by omega, by go_num, HMI.out.drewAt _, HXI.out.drewAt _, HCI.out.drewAt _, HBI.out.drewN _⟩
                case measure => simp [intOf]
              · have e1 : (ac != (1 : Int)) = true := by simp [hac]
                have e2 : (!(ac == (1 : Int))) = true := by simp [hac]
                clear hab hac
                go_wp2
                go_quiet (fail)
                go_wp2
                go_roundw
                case rel => exact ⟨2, by omega, by go_num, HMI.out.drewAt _, HXI.out.drewAt _, HCI.out.drewAt _, HBI.out.drewN _⟩
                case measure => simp [intOf]
              · have e1 : (ac != (1 : Int)) = true := by simp [hac]
                have e2 : (!(ac == (1 : Int))) = true := by simp [hac]
                clear hab hac
                go_wp2
                go_quiet (fail)
                go_wp2
                go_roundw
                case rel => exact ⟨2, by omega, by go_num, HMI.out.drewAt _, HXI.out.drewAt _, HCI.out.drewAt _, HBI.out.drewN _⟩
                case measure => simp [intOf]
              · have e1 : (ac != (1 : Int)) = true := by simp [hac]
                have e2 : (!(ac == (1 : Int))) = true := by simp [hac]
                clear hab hac
                go_wp2
                go_quiet (fail)
                go_wp2
                go_roundw
                case rel => exact ⟨2, by omega, by go_num, HMI.out.drewAt _, HXI.out.drewAt _, HCI.out.drewAt _, HBI.out.drewN _⟩
                case measure => simp [intOf]
          · obtain ⟨sa, hsa⟩ : ∃ y, m.c.s = y := ⟨_, rfl⟩
            obtain ⟨sb, hsb⟩ : ∃ y, x.c.s = y := ⟨_, rfl⟩
            obtain ⟨vb, hvb⟩ : ∃ y, x.c.v = y := ⟨_, rfl⟩
            obtain ⟨ac, hac⟩ : ∃ y, x.act = y := ⟨_, rfl⟩
            have hp : Path kd ac 2 sa sb vb := by rw [← hsa, ← hsb, ← hvb, ← hac]; exact HPA.out.2.2.2
            have qa : wr.cell? ⟨ww2.heap.size, 6, none⟩ = some (.int .i64 sa) := (HMI.out.cell 6).trans (by rw [← HMM.out, ← hsa]; rfl)
            have qb : wr.cell? ⟨v3.heap.size, 6, none⟩ = some (.int .i64 sb) := (HXI.out.cell 6).trans (by rw [← HXX.out, ← hsb]; rfl)
            have qv : wr.cell? ⟨v3.heap.size, 7, none⟩ = some (.int .i64 vb) := (HXI.out.cell 7).trans (by rw [← HXX.out, ← hvb]; rfl)
            have qt : wr.cell? ⟨v3.heap.size, 9, none⟩ = some (.int .i64 ac) := (HXI.out.cell 9).trans (by rw [← HXX.out, ← hac]; rfl)
            have qk : wr.cell? ⟨wo.heap.size, 0, none⟩ = some (.int .i64 kd) := (HCI.out.cell 0).trans HC0.out
            clear hsa hsb hvb hac
            by_cases hab : sa = sb
            · subst hab
              clear hp
              go_wp2
              go_quiet (fail)
              go_wp2
              go_roundw
              case rel => exact ⟨3, by omega, by go_num, HMI.out.drewAt _, HXI.out.drewAt _, HCI.out.drewAt _, HBI.out.drewN _⟩
              case measure => simp [intOf]
            · have hp2 : (sb = 2 ∧ sa = 1) ∨ (sb = 3 ∧ sa = 2 ∧ ac = 2) ∨ (sb = 4 ∧ sa = 3) ∨ (sb = 4 ∧ kd = 12 ∧ sa = 1) ∨ (sb = 4 ∧ kd = 12 ∧ sa = 5) ∨ (sb = 1 ∧ vb = 0 ∧ ac ≠ 2) ∨ (sb = 0 ∧ vb = 0 ∧ ac ≠ 2) ∨ (sb = 5 ∧ vb = 0 ∧ ac ≠ 2) := hp.ways hab
              have eab : (sa == sb) = false := by simp [hab]
              clear hp
              rcases hp2 with ⟨rfl, rfl⟩ | ⟨rfl, rfl, rfl⟩ | ⟨rfl, rfl⟩ | ⟨rfl, rfl, rfl⟩ | ⟨rfl, rfl, rfl⟩ | ⟨rfl, rfl, hac⟩ | ⟨rfl, rfl, hac⟩ | ⟨rfl, rfl, hac⟩
              · clear hab eab
                go_wp2
                go_quiet (fail)
                go_wp2
                go_roundw
                case rel => exact ⟨3, by omega, by go_num, HMI.out.drewAt _, HXI.out.drewAt _, HCI.out.drewAt _, HBI.out.drewN _⟩
                case measure => simp [intOf]
              · clear hab eab
                go_wp2
                go_quiet (fail)
                go_wp2
                go_roundw
                case rel => exact ⟨3, by omega, by go_num, HMI.out.drewAt _, HXI.out.drewAt _, HCI.out.drewAt _, HBI.out.drewN _⟩
                case measure => simp [intOf]
              · clear hab eab
                go_wp2
                go_quiet (fail)
                go_wp2
                go_roundw
                case rel => exact ⟨3, by omega, by go_num, HMI.out.drewAt _, HXI.out.drewAt _, HCI.out.drewAt _, HBI.out.drewN _⟩
                case measure => simp [intOf]
              · clear hab eab
                go_wp2
                go_quiet (fail)
                go_wp2
                go_roundw
                case rel => exact ⟨3, by omega, by go_num, HMI.out.drewAt _, HXI.out.drewAt _, HCI.out.drewAt _, HBI.out.drewN _⟩
                case measure => simp [intOf]
              · clear hab eab
                go_wp2
                go_quiet (fail)
                go_wp2
                go_roundw
                case rel => exact ⟨3, by omega, by go_num, HMI.out.drewAt _, HXI.out.drewAt _, HCI.out.drewAt _, HBI.out.drewN _⟩
                case measure => simp [intOf]
              · have e1 : (ac != (2 : Int)) = true := by simp [hac]
                have e2 : (!(ac == (2 : Int))) = true := by simp [hac]
                clear hab hac
                go_wp2
                go_quiet (fail)
                go_wp2
                go_roundw
                case rel => exact ⟨3, by omega, by go_num, HMI.out.drewAt _, HXI.out.drewAt _, HCI.out.drewAt _, HBI.out.drewN _⟩
                case measure => simp [intOf]
              · have e1 : (ac != (2 : Int)) = true := by simp [hac]
                have e2 : (!(ac == (2 : Int))) = true := by simp [hac]
                clear hab hac
                go_wp2
                go_quiet (fail)
                go_wp2
                go_roundw
                case rel => exact ⟨3, by omega, by go_num, HMI.out.drewAt _, HXI.out.drewAt _, HCI.out.drewAt _, HBI.out.drewN _⟩
                case measure => simp [intOf]
              · have e1 : (ac != (2 : Int)) = true := by simp [hac]
                have e2 : (!(ac == (2 : Int))) = true := by simp [hac]
                clear hab hac
                go_wp2
                go_quiet (fail)
                go_wp2
                go_roundw
                case rel => exact ⟨3, by omega, by go_num, HMI.out.drewAt _, HXI.out.drewAt _, HCI.out.drewAt _, HBI.out.drewN _⟩
                case measure => simp [intOf]
          · have N_m_x : Hid (ww2.heap.size ≠ v3.heap.size) := NMX
            have G_m : Hid (w.heap.size ≤ ww2.heap.size) := GMI
            go_wp2_with (first
              | ((with_reducible refine HXI.out.wpLoadK 28 fits_meta (HXL.out) ?_ ?_); rfl)
              | ((with_reducible refine HMI.out.wpStoreK 28 (X) fits_meta (HML.out) (HXL.out) (HXO.out) ?_ ?_); rfl; intro y1 r_ o_ s_; have Tx_1 := Lib.hid (HXI.out.only o_ N_m_x.out.symm); have Tm_1 := Lib.hid r_; have B_1 : Hid (Below w.heap.size w y1) := Lib.hid (HBI.out.trans (o_.below G_m.out HBI.out.size)); clear r_ o_ s_ HMI HBI HXI))
            go_roundw
            case rel => exact ⟨k + 1, x, by omega, by go_num, HPA.out.1, by rw [HXX.out]; exact Tm_1.out, B_1.out⟩
            case measure => simp [intOf]; omega
    · go_wp2
      go_ret
      exact ⟨rfl, HBW.out⟩
end Go.Proofs.Ytbpdnaiackfdmaa
