/- MetaBases. -/
import Derived.Test.YtbpdnaiackfdmaaMetMath4
import Derived.Test.YtbpdnaiackfdmaaMetQ
import Derived.Test.YtbpdnaiackfdmaaMetI
import Derived.Test.YtbpdnaiackfdmaaMetEq
import Derived.Test.YtbpdnaiackfdmaaRecRR
namespace Go.Proofs.Ytbpdnaiackfdmaa
open Go.RowKit MetMath
set_option linter.unusedVariables false
set_option linter.unusedSimpArgs false
set_option maxRecDepth 100000

/-- Records lie at an address. -/
structure RecsAt (w : World) (b off : Nat) (xs : List Value) : Prop where
  lt : b < w.heap.size
  c : ∀ j u, xs[j]? = some u → w.cell? ⟨b, off + j, none⟩ = some u
theorem RecsAt.step {w w' : World} {b off : Nat} {xs : List Value} (h : RecsAt w b off xs) (hb : Below w.heap.size w w') : RecsAt w' b off xs :=
  ⟨Nat.lt_of_lt_of_le h.lt hb.size, fun j u hj => (hb.cell (p := ⟨b, off + j, none⟩) h.lt).trans (h.c j u hj)⟩
theorem RecsAt.only {w w' : World} {b off g : Nat} {xs : List Value} (h : RecsAt w b off xs) (ho : Only g w w') (hn : b ≠ g) : RecsAt w' b off xs :=
  ⟨Nat.lt_of_lt_of_le h.lt ho.size, fun j u hj => (World.cell?_of_block (a := ⟨b, off + j, none⟩) (ho.2.2.2.2 b h.lt hn)).trans (h.c j u hj)⟩
theorem RecsAt.lies {w : World} {b off : Nat} {xs : List Value} (h : RecsAt w b off xs) : Lies w w.heap.size (some ⟨b, off, none⟩) xs := fun _ => ⟨b, off, rfl, h.lt, h.c⟩
theorem own_recs {w : World} {base n : Nat} {v : Value} {xs : List Value} {e : TypeId} (h : w.ownsRow base e 4 v n xs) (h0 : 0 < n) : ∃ g cap, v = .slice (some ⟨g, 0, none⟩) n cap ∧ base ≤ g ∧ RecsAt w g 0 xs := by
  rcases h.2 with ⟨rfl, rfl⟩ | ⟨g, cap, cur, rfl, hb, hh, hr⟩
  · exact absurd h0 (Nat.lt_irrefl _)
  · refine ⟨g, cap, rfl, hb, (Array.getElem?_eq_some_iff.1 hh).1, fun j u hu => ?_⟩
    have := h.cells (g := g) rfl j u hu
    rwa [Addr.add_lit] at this
theorem base_pos (m : Mt) : 0 < (baseL m).length := by simp only [baseL, List.length_append, List.length_cons, List.length_nil]; omega
theorem two_range {w : World} {g : Nat} {t : TypeId} {x y : Mt} {X Y : List Value} (hx : mcs x = X) (hy : mcs y = Y) (h : Row w g t [X, Y].flatten) (j : Nat) (hj : j < 2) : w.rangeAt g (j * 13) (mcs (if j = 0 then x else y)) := by
  subst hx
  subst hy
  have hr : Row w g t (mcs x ++ mcs y) := by simpa using h
  have hj2 : j = 0 ∨ j = 1 := by omega
  rcases hj2 with rfl | rfl
  · exact Row.mid (x := []) (z := mcs y) hr 0 rfl
  · exact Row.mid (x := mcs x) (z := []) (by simpa using hr) 13 rfl
theorem met_built_meta : (Try.prog.info? 28).map (fun i => (i.size, i.zero.isSome)) = some (13, true) := by kernel_rfl
set_option maxHeartbeats 8000000 in
theorem metaBases_walk (m0 : Mt) (a : Option Addr) (n cap : Nat) (L : List Rc) (w : World) (hn : L.length = n) (hr : Lies w w.heap.size a (rcs L)) :
    Calls Try.prog 4 #[.agg (mcs m0).toArray, .slice a n cap] w fun e w' => e = .returned (.bool true) ∧ Below w.heap.size w w' := by
  obtain ⟨M0, hM0⟩ : ∃ X, mcs m0 = X := ⟨_, rfl⟩
  have HM0 := Lib.hid hM0
  have HM0L : Hid (M0.length = 13) := Lib.hid (by rw [← hM0]; rfl)
  have HM0O : Hid (M0.all (·.oneCell') = true) := Lib.hid (by rw [← hM0]; rfl)
  rw [hM0]
  clear hM0
  by_cases hbig : 200 < n
  · have HA := Lib.hid (met_awake_any)
    clear hr
    go_enter Try.func4, Try.ntmps4
    go_wp2_with (first
      | ((with_reducible refine wpBoxK M0 28 ?_ ?_); rfl; intro u1 r1 b1 s1; have B1 := Lib.hid b1; clear r1 b1 s1)
      | (go_at_call 6; (with_reducible refine (HA.out u1).mono ?_); rintro e u2 ⟨rfl, b2⟩; have B2 := Lib.hid (B1.out.next b2); clear b2))
    go_ret
    exact ⟨rfl, B2.out⟩
  have hl : n ≤ 200 := by omega
  obtain ⟨Z, hZ⟩ : ∃ Z, mcs zeroM = Z := ⟨_, rfl⟩
  have HZ : Hid (∀ u, (zeroValue 28).run Try.prog u = .ok (.agg Z.toArray) u) := Lib.hid (by rw [← hZ]; exact zero_meta)
  have HZL : Hid (Z.length = 13) := Lib.hid (by rw [← hZ]; rfl)
  obtain ⟨N, hN⟩ : ∃ N, mcs Mt.new = N := ⟨_, rfl⟩
  have HNL : Hid (N.length = 13) := Lib.hid (by rw [← hN]; rfl)
  have HNO : Hid (N.all (·.oneCell') = true) := Lib.hid (by rw [← hN]; rfl)
  have HNEW : Hid (∀ u, Calls Try.prog 7 #[] u fun e w' => e = .returned (.agg N.toArray) ∧ Below u.heap.size u w') := Lib.hid (by rw [← hN]; exact met_new_any)
  have HNN := Lib.hid hN
  obtain ⟨RZ, hRZ⟩ : ∃ Z, (⟨0, 0, 0, 0⟩ : Rc).cells = Z := ⟨_, rfl⟩
  have HRZ : Hid (∀ u, (zeroValue 31).run Try.prog u = .ok (.agg RZ.toArray) u) := Lib.hid (by rw [← hRZ]; exact zero_rc)
  have HRZL : Hid (RZ.length = 4) := Lib.hid (by rw [← hRZ]; rfl)
  have HR := Lib.hid hr
  have HNL2 := Lib.hid hn
  clear hZ hN hr hRZ hn hbig
  go_enter Try.func4, Try.ntmps4
  go_wp2_with (first
    | ((with_reducible refine wpBoxK (w := w) (M0) 28 ?_ ?_); rfl; intro ww1 r_ b_ s_; have G_p : Hid (w.heap.size ≤ w.heap.size) := Lib.hid (Nat.le_refl _); have B_1 : Hid (Below w.heap.size w ww1) := Lib.hid (b_); have Tp_1 := Lib.hid r_; clear r_ b_ s_)
    | (go_at_call 6; (with_reducible refine (met_awake_any ww1).mono ?_); rintro e ww2 ⟨rfl, b_⟩; have Tp_2 := Lib.hid (Tp_1.out.step b_); have B_2 : Hid (Below w.heap.size w ww2) := Lib.hid (B_1.out.next b_); clear b_ Tp_1 B_1)
    | (go_at_call 7; (with_reducible refine (HNEW.out ww2).mono ?_); rintro e ww3 ⟨rfl, b_⟩; have Tp_3 := Lib.hid (Tp_2.out.step b_); have B_3 : Hid (Below w.heap.size w ww3) := Lib.hid (B_2.out.next b_); clear b_ Tp_2 B_2)
    | ((with_reducible refine wpAllocK (w := ww3) (Z) 28 HZ.out ?_ ?_); rfl; intro ww4 r_ b_ s_; have N_p_m : Hid (w.heap.size ≠ ww3.heap.size) := Lib.hid (by have := Tp_3.out.lt; omega); have G_m : Hid (w.heap.size ≤ ww3.heap.size) := Lib.hid (B_3.out.size); have Tp_4 := Lib.hid (Tp_3.out.step b_); have B_4 : Hid (Below w.heap.size w ww4) := Lib.hid (B_3.out.next b_); have Tm_4 := Lib.hid r_; clear r_ b_ s_ Tp_3 B_3)
    | ((with_reducible refine Tm_4.out.wpStoreK 28 (N) fits_meta (HZL.out) (HNL.out) (HNO.out) ?_ ?_); rfl; intro ww5 r_ o_ s_; have Tp_5 := Lib.hid (Tp_4.out.only o_ N_p_m.out); have Tm_5 := Lib.hid r_; have B_5 : Hid (Below w.heap.size w ww5) := Lib.hid (B_4.out.trans (o_.below G_m.out B_4.out.size)); clear r_ o_ s_ Tm_4 B_4 Tp_4))
  go_loopw [23] (fun i wr => ∃ (k : Nat) (m : Mt), k ≤ n ∧ i = .int .i64 (k : Int) ∧ Row wr (ww3.heap.size) 28 (mcs m) ∧ Row wr (w.heap.size) 28 M0 ∧ Below w.heap.size w wr) (fun i _ => n - (intOf i).toNat)
  case atStart => exact ⟨0, Mt.new, Nat.zero_le _, rfl, by rw [HNN.out]; exact Tm_5.out, Tp_5.out, B_5.out⟩
  case round =>
    rename World => wo
    obtain ⟨k, m, hk, rfl, hm, hp, hbw⟩ := hrel
    have HM := Lib.hid hm
    have HPB := Lib.hid hp
    have HBW := Lib.hid hbw
    obtain ⟨M, hM⟩ : ∃ M, mcs m = M := ⟨_, rfl⟩
    rw [hM] at HM
    have HML : Hid (M.length = 13) := Lib.hid (by rw [← hM]; rfl)
    have HMO : Hid (M.all (·.oneCell') = true) := Lib.hid (by rw [← hM]; rfl)
    have HMM := Lib.hid hM
    have N_p_m : Hid (w.heap.size ≠ ww3.heap.size) := Lib.hid N_p_m.out
    have G_m : Hid (w.heap.size ≤ ww3.heap.size) := Lib.hid G_m.out
    have G_p : Hid (w.heap.size ≤ w.heap.size) := Lib.hid G_p.out
    clear hm hp hbw hM
    by_cases hlt : k < n
    · have hkl : k < L.length := by rw [HNL2.out]; exact hlt
      obtain ⟨bl, off, rfl, hbb, hc⟩ := HR.out (by rw [rcs_length]; omega)
      obtain ⟨r, hr⟩ : ∃ r, L[k] = r := ⟨_, rfl⟩
      obtain ⟨C, hC⟩ : ∃ C, r.cells = C := ⟨_, rfl⟩
      have HRG : Hid (wo.rangeAt bl (off + k * 4) C) := Lib.hid (by
        have := rcs_at (w := wo) (fun j u hj => (HBW.out.cell (p := ⟨bl, off + j, none⟩) hbb).trans (hc j u hj)) k hkl
        rw [hr, hC] at this
        exact this)
      have HCL : Hid (C.length = 4) := Lib.hid (by rw [← hC]; rfl)
      have HCO : Hid (C.all (·.oneCell') = true) := Lib.hid (by rw [← hC]; rfl)
      obtain ⟨x, e, hx⟩ : ∃ x e, Rc.doo m r = (x, e) := ⟨_, _, rfl⟩
      obtain ⟨X, hX⟩ : ∃ X, mcs x = X := ⟨_, rfl⟩
      have HXL : Hid (X.length = 13) := Lib.hid (by rw [← hX]; rfl)
      have HXO : Hid (X.all (·.oneCell') = true) := Lib.hid (by rw [← hX]; rfl)
      have HXX := Lib.hid hX
      have HDO : Hid (∀ u, Calls Try.prog 8 #[.agg M.toArray, .agg C.toArray] u fun ee w' => ee = .returned (.tuple #[.agg X.toArray, .int .i64 e]) ∧ Below u.heap.size u w') := Lib.hid fun u => by
        rw [← HMM.out, ← hC, ← hX]; exact met_do_rc m r x e hx u
      clear hc hr hC hx hX
      go_wp2_with (first
        | ((with_reducible refine wpLoadRK HRG.out 31 fits_rec HCL.out ?_ ?_); rfl)
        | ((with_reducible refine wpAllocK (w := wo) (RZ) 31 HRZ.out ?_ ?_); rfl; intro v1 r_ b_ s_; have N_p_c : Hid (w.heap.size ≠ wo.heap.size) := Lib.hid (by have := HPB.out.lt; omega); have N_m_c : Hid (ww3.heap.size ≠ wo.heap.size) := Lib.hid (by have := HM.out.lt; omega); have G_c : Hid (w.heap.size ≤ wo.heap.size) := Lib.hid (HBW.out.size); have Tp_1 := Lib.hid (HPB.out.step b_); have Tm_1 := Lib.hid (HM.out.step b_); have B_1 : Hid (Below w.heap.size w v1) := Lib.hid (HBW.out.next b_); have Tc_1 := Lib.hid r_; clear r_ b_ s_ HPB HM HBW)
        | ((with_reducible refine Tc_1.out.wpStoreK 31 (C) fits_rec (HRZL.out) (HCL.out) (HCO.out) ?_ ?_); rfl; intro v2 r_ o_ s_; have Tp_2 := Lib.hid (Tp_1.out.only o_ N_p_c.out); have Tm_2 := Lib.hid (Tm_1.out.only o_ N_m_c.out); have Tc_2 := Lib.hid r_; have B_2 : Hid (Below w.heap.size w v2) := Lib.hid (B_1.out.trans (o_.below G_c.out B_1.out.size)); clear r_ o_ s_ Tc_1 B_1 Tp_1 Tm_1)
        | ((with_reducible refine Tm_2.out.wpLoadK 28 fits_meta (HML.out) ?_ ?_); rfl)
        | ((with_reducible refine Tc_2.out.wpLoadK 31 fits_rec (HCL.out) ?_ ?_); rfl)
        | (go_at_call 8; (with_reducible refine (HDO.out v2).mono ?_); rintro e v3 ⟨rfl, b_⟩; have Tp_3 := Lib.hid (Tp_2.out.step b_); have Tm_3 := Lib.hid (Tm_2.out.step b_); have Tc_3 := Lib.hid (Tc_2.out.step b_); have B_3 : Hid (Below w.heap.size w v3) := Lib.hid (B_2.out.next b_); clear b_ Tp_2 Tm_2 Tc_2 B_2)
        | ((with_reducible refine Tm_3.out.wpStoreK 28 (X) fits_meta (HML.out) (HXL.out) (HXO.out) ?_ ?_); rfl; intro v4 r_ o_ s_; have Tp_4 := Lib.hid (Tp_3.out.only o_ N_p_m.out); have Tc_4 := Lib.hid (Tc_3.out.only o_ N_m_c.out.symm); have Tm_4 := Lib.hid r_; have B_4 : Hid (Below w.heap.size w v4) := Lib.hid (B_3.out.trans (o_.below G_m.out B_3.out.size)); clear r_ o_ s_ Tm_3 B_3 Tp_3 Tc_3))
      go_roundw
      case rel => exact ⟨k + 1, x, by omega, by go_num, by rw [HXX.out]; exact Tm_4.out, Tp_4.out, B_4.out⟩
      case measure => simp [intOf]; omega
    · have HVS : Hid (∀ l ∈ [M0, M], l.length = 13) := Lib.hid fun l hl => by
        rcases List.mem_cons.1 hl with rfl | hl
        · exact HM0L.out
        · rw [List.mem_singleton.1 hl]; exact HML.out
      have HP1 : Hid (0 < [M0, M].length) := Lib.hid (by show 0 < 2; omega)
      have HP13 : Hid (0 < 13) := Lib.hid (by omega)
      have HSM : Hid ([M0, M].length * 13 ≤ 2 ^ 24) := Lib.hid (by show 2 * 13 ≤ _; omega)
      go_wp2_with (first
        | ((with_reducible refine HPB.out.wpLoadK 28 fits_meta (HM0L.out) ?_ ?_); rfl)
        | ((with_reducible refine HM.out.wpLoadK 28 fits_meta (HML.out) ?_ ?_); rfl)
        | ((with_reducible refine wpBuildBK (w := wo) [M0, M] 13 39 28 Try.underlying39 met_built_meta HP13.out HVS.out HP1.out HSM.out ?_ ?_); rfl; intro v1 r_ b_ s_; have N_p_t : Hid (w.heap.size ≠ wo.heap.size) := Lib.hid (by have := HPB.out.lt; omega); have N_m_t : Hid (ww3.heap.size ≠ wo.heap.size) := Lib.hid (by have := HM.out.lt; omega); have G_t : Hid (w.heap.size ≤ wo.heap.size) := Lib.hid (HBW.out.size); have Tp_1 := Lib.hid (HPB.out.step b_); have Tm_1 := Lib.hid (HM.out.step b_); have B_1 : Hid (Below w.heap.size w v1) := Lib.hid (HBW.out.next b_); have Tt_1 := Lib.hid r_; clear r_ b_ s_ HPB HM HBW))
      go_loopw [38] (fun i wr => ∃ j : Nat, j ≤ 2 ∧ i = .int .i64 (j : Int) ∧ Row wr (wo.heap.size) 28 [M0, M].flatten ∧ Below w.heap.size w wr) (fun i _ => 2 - (intOf i).toNat)
      case atStart => exact ⟨0, by omega, rfl, Tt_1.out, B_1.out⟩
      case round =>
        rename World => wi
        obtain ⟨j, hj, rfl, ht, hbi⟩ := hrel
        have HTB := Lib.hid ht
        have HBI := Lib.hid hbi
        clear ht hbi
        by_cases hlt2 : j < 2
        · obtain ⟨y, hy⟩ : ∃ y, (if j = 0 then m0 else m) = y := ⟨_, rfl⟩
          have HRG := Lib.hid (two_range HM0.out HMM.out HTB.out j hlt2)
          rw [hy] at HRG
          obtain ⟨Y, hY⟩ : ∃ Y, mcs y = Y := ⟨_, rfl⟩
          rw [hY] at HRG
          have HYL : Hid (Y.length = 13) := Lib.hid (by rw [← hY]; rfl)
          have HYO : Hid (Y.all (·.oneCell') = true) := Lib.hid (by rw [← hY]; rfl)
          obtain ⟨q, hq⟩ : ∃ b, y.right = b := ⟨_, rfl⟩
          have HRI : Hid (∀ u, Calls Try.prog 9 #[.agg Y.toArray] u fun e w' => e = .returned (.bool q) ∧ Below u.heap.size u w') := Lib.hid fun u => by rw [← hY, ← hq]; exact met_right_any y u
          have HRR : Hid (∀ u, Calls Try.prog 12 #[.agg Y.toArray] u fun e w' => e = .returned (.bool q) ∧ Below u.heap.size u w') := Lib.hid fun u => by rw [← hY, ← hq]; exact met_rright_any y u
          have HPL : Hid (∀ u, Calls Try.prog 13 #[.agg Y.toArray] u fun e w' => e = .returned (.agg Y.toArray) ∧ Below u.heap.size u w') := Lib.hid fun u => by rw [← hY]; exact met_plain_any y u
          clear hy
          cases q with
          | false =>
            have HBA : Hid (∀ u, Calls Try.prog 11 #[.agg Y.toArray] u fun e w' => e = .returned (.slice none 0 0) ∧ Below u.heap.size u w') := Lib.hid fun u => by rw [← hY]; exact met_base_bad y u hq
            clear hY hq
            go_wp2_with (first
              | ((with_reducible refine wpLoadRK HRG.out 28 fits_meta HYL.out ?_ ?_); rfl)
              | ((with_reducible refine wpAllocK (w := wi) (Z) 28 HZ.out ?_ ?_); rfl; intro y1 r_ b_ s_; have N_t_y : Hid (wo.heap.size ≠ wi.heap.size) := Lib.hid (by have := HTB.out.lt; omega); have G_y : Hid (w.heap.size ≤ wi.heap.size) := Lib.hid (HBI.out.size); have Tt_1 := Lib.hid (HTB.out.step b_); have B_1 : Hid (Below w.heap.size w y1) := Lib.hid (HBI.out.next b_); have Ty_1 := Lib.hid r_; clear r_ b_ s_ HTB HBI)
              | ((with_reducible refine Ty_1.out.wpStoreK 28 (Y) fits_meta (HZL.out) (HYL.out) (HYO.out) ?_ ?_); rfl; intro y2 r_ o_ s_; have Tt_2 := Lib.hid (Tt_1.out.only o_ N_t_y.out); have Ty_2 := Lib.hid r_; have B_2 : Hid (Below w.heap.size w y2) := Lib.hid (B_1.out.trans (o_.below G_y.out B_1.out.size)); clear r_ o_ s_ Ty_1 B_1 Tt_1)
              | ((with_reducible refine Ty_2.out.wpLoadK 28 fits_meta (HYL.out) ?_ ?_); rfl)
              | (go_at_call 11; (with_reducible refine (HBA.out y2).mono ?_); rintro e y3 ⟨rfl, b_⟩; have Tt_3 := Lib.hid (Tt_2.out.step b_); have Ty_3 := Lib.hid (Ty_2.out.step b_); have B_3 : Hid (Below w.heap.size w y3) := Lib.hid (B_2.out.next b_); clear b_ Tt_2 Ty_2 B_2)
              | ((with_reducible refine Ty_3.out.wpLoadK 28 fits_meta (HYL.out) ?_ ?_); rfl)
              | (go_at_call 13; (with_reducible refine (HPL.out y3).mono ?_); rintro e y4 ⟨rfl, b_⟩; have Tt_4 := Lib.hid (Tt_3.out.step b_); have Ty_4 := Lib.hid (Ty_3.out.step b_); have B_4 : Hid (Below w.heap.size w y4) := Lib.hid (B_3.out.next b_); clear b_ Tt_3 Ty_3 B_3)
              | (go_at_call 12; (with_reducible refine (HRR.out y4).mono ?_); rintro e y5 ⟨rfl, b_⟩; have Tt_5 := Lib.hid (Tt_4.out.step b_); have Ty_5 := Lib.hid (Ty_4.out.step b_); have B_5 : Hid (Below w.heap.size w y5) := Lib.hid (B_4.out.next b_); clear b_ Tt_4 Ty_4 B_4)
              | ((with_reducible refine Ty_5.out.wpLoadG 28 fits_meta (HYL.out) ?_ ?_); rfl)
              | (go_at_call 9; (with_reducible refine (HRI.out y5).mono ?_); rintro e y6 ⟨rfl, b_⟩; have Tt_6 := Lib.hid (Tt_5.out.step b_); have Ty_6 := Lib.hid (Ty_5.out.step b_); have B_6 : Hid (Below w.heap.size w y6) := Lib.hid (B_5.out.next b_); clear b_ Tt_5 Ty_5 B_5))
            go_roundw
            case rel => exact ⟨j + 1, by omega, by go_num, Tt_6.out, B_6.out⟩
            case measure => simp [intOf]; omega
          | true =>
            obtain ⟨B, hB⟩ : ∃ B, baseL y = B := ⟨_, rfl⟩
            have h9 : B.length ≤ 9 := by rw [← hB]; exact base_length hq
            have HRE : Hid (∀ r ∈ B, rOk r.k r.s r.n r.v = true ∧ r.k ≤ 125) := Lib.hid (by rw [← hB]; exact base_recs hq)
            obtain ⟨nb, hnb⟩ : ∃ q, B.length = q := ⟨_, rfl⟩
            rw [hnb] at h9
            have HNB := Lib.hid hnb
            have h9d : decide ((9 : Int) < (nb : Int)) = false := decide_eq_false (by omega)
            have HBA : Hid (∀ u, Calls Try.prog 11 #[.agg Y.toArray] u fun e w' => ∃ g cp, e = .returned (.slice (some ⟨g, 0, none⟩) nb cp) ∧ u.heap.size ≤ g ∧ RecsAt w' g 0 (rcs B) ∧ Below u.heap.size u w') := Lib.hid fun u => by
              rw [← hY]
              refine (met_base_any y u hq).mono ?_
              rintro e w' ⟨v, base, rfl, h1, h2, h3⟩
              obtain ⟨g, cp, rfl, h4, h5⟩ := own_recs h2 (base_pos y)
              rw [hB] at h5
              exact ⟨g, cp, by rw [hB, hnb], Nat.le_trans h1 h4, h5, h3⟩
            have HAL : Hid (∀ u g cp, RecsAt u g 0 (rcs B) → Calls Try.prog 14 #[.slice (some ⟨g, 0, none⟩) nb cp] u fun e w' => e = .returned (.tuple #[.agg Y.toArray, .int .i64 0]) ∧ Below u.heap.size u w') := Lib.hid fun u g cp hg => by
              have := met_all_any (some ⟨g, 0, none⟩) nb cp B u hnb (by omega) hg.lies
              rw [← hB, base_all hq, hY] at this
              exact this
            have hem : ∀ u, (Op.equalIn 10000 28 (.agg Y.toArray) (.agg Y.toArray)).run Try.prog u = .ok true u := by rw [← hY]; exact met_eq_meta y
            clear hY hq hB hnb
            go_wp2_with (first
              | ((with_reducible refine wpLoadRK HRG.out 28 fits_meta HYL.out ?_ ?_); rfl)
              | ((with_reducible refine wpAllocK (w := wi) (Z) 28 HZ.out ?_ ?_); rfl; intro y1 r_ b_ s_; have N_t_y : Hid (wo.heap.size ≠ wi.heap.size) := Lib.hid (by have := HTB.out.lt; omega); have G_y : Hid (w.heap.size ≤ wi.heap.size) := Lib.hid (HBI.out.size); have Tt_1 := Lib.hid (HTB.out.step b_); have B_1 : Hid (Below w.heap.size w y1) := Lib.hid (HBI.out.next b_); have Ty_1 := Lib.hid r_; clear r_ b_ s_ HTB HBI)
              | ((with_reducible refine Ty_1.out.wpStoreK 28 (Y) fits_meta (HZL.out) (HYL.out) (HYO.out) ?_ ?_); rfl; intro y2 r_ o_ s_; have Tt_2 := Lib.hid (Tt_1.out.only o_ N_t_y.out); have Ty_2 := Lib.hid r_; have B_2 : Hid (Below w.heap.size w y2) := Lib.hid (B_1.out.trans (o_.below G_y.out B_1.out.size)); clear r_ o_ s_ Ty_1 B_1 Tt_1)
              | ((with_reducible refine Ty_2.out.wpLoadK 28 fits_meta (HYL.out) ?_ ?_); rfl)
              | (go_at_call 11; (with_reducible refine (HBA.out y2).mono ?_); rintro e y3 ⟨g, cp, rfl, ge_l, tl, b_⟩; have N_t_l : Hid (wo.heap.size ≠ g) := Lib.hid (by have := Tt_2.out.lt; have := ge_l; omega); have N_y_l : Hid (wi.heap.size ≠ g) := Lib.hid (by have := Ty_2.out.lt; have := ge_l; omega); have G_l : Hid (w.heap.size ≤ g) := Lib.hid (Nat.le_trans B_2.out.size ge_l); have Tt_3 := Lib.hid (Tt_2.out.step b_); have Ty_3 := Lib.hid (Ty_2.out.step b_); have B_3 : Hid (Below w.heap.size w y3) := Lib.hid (B_2.out.next b_); have Tl_3 := Lib.hid tl; clear b_ Tt_2 Ty_2 B_2 tl ge_l)
              | ((with_reducible refine Ty_3.out.wpLoadK 28 fits_meta (HYL.out) ?_ ?_); rfl)
              | (go_at_call 13; (with_reducible refine (HPL.out y3).mono ?_); rintro e y4 ⟨rfl, b_⟩; have Tt_4 := Lib.hid (Tt_3.out.step b_); have Ty_4 := Lib.hid (Ty_3.out.step b_); have Tl_4 := Lib.hid (Tl_3.out.step b_); have B_4 : Hid (Below w.heap.size w y4) := Lib.hid (B_3.out.next b_); clear b_ Tt_3 Ty_3 Tl_3 B_3)
              | (go_at_call 12; (with_reducible refine (HRR.out y4).mono ?_); rintro e y5 ⟨rfl, b_⟩; have Tt_5 := Lib.hid (Tt_4.out.step b_); have Ty_5 := Lib.hid (Ty_4.out.step b_); have Tl_5 := Lib.hid (Tl_4.out.step b_); have B_5 : Hid (Below w.heap.size w y5) := Lib.hid (B_4.out.next b_); clear b_ Tt_4 Ty_4 Tl_4 B_4)
              | (go_at_call 14; (with_reducible refine (HAL.out y5 _ _ Tl_5.out).mono ?_); rintro e y6 ⟨rfl, b_⟩; have Tt_6 := Lib.hid (Tt_5.out.step b_); have Ty_6 := Lib.hid (Ty_5.out.step b_); have Tl_6 := Lib.hid (Tl_5.out.step b_); have B_6 : Hid (Below w.heap.size w y6) := Lib.hid (B_5.out.next b_); clear b_ Tt_5 Ty_5 Tl_5 B_5)
              | ((with_reducible refine wpAllocK (w := y6) (Z) 28 HZ.out ?_ ?_); rfl; intro y7 r_ b_ s_; have N_t_z : Hid (wo.heap.size ≠ y6.heap.size) := Lib.hid (by have := Tt_6.out.lt; omega); have N_y_z : Hid (wi.heap.size ≠ y6.heap.size) := Lib.hid (by have := Ty_6.out.lt; omega); have N_l_z : Hid (g ≠ y6.heap.size) := Lib.hid (by have := Tl_6.out.lt; omega); have G_z : Hid (w.heap.size ≤ y6.heap.size) := Lib.hid (B_6.out.size); have Tt_7 := Lib.hid (Tt_6.out.step b_); have Ty_7 := Lib.hid (Ty_6.out.step b_); have Tl_7 := Lib.hid (Tl_6.out.step b_); have B_7 : Hid (Below w.heap.size w y7) := Lib.hid (B_6.out.next b_); have Tz_7 := Lib.hid r_; clear r_ b_ s_ Tt_6 Ty_6 Tl_6 B_6)
              | ((with_reducible refine Tz_7.out.wpStoreK 28 (Y) fits_meta (HZL.out) (HYL.out) (HYO.out) ?_ ?_); rfl; intro y8 r_ o_ s_; have Tt_8 := Lib.hid (Tt_7.out.only o_ N_t_z.out); have Ty_8 := Lib.hid (Ty_7.out.only o_ N_y_z.out); have Tl_8 := Lib.hid (Tl_7.out.only o_ N_l_z.out); have Tz_8 := Lib.hid r_; have B_8 : Hid (Below w.heap.size w y8) := Lib.hid (B_7.out.trans (o_.below G_z.out B_7.out.size)); clear r_ o_ s_ Tz_7 B_7 Tt_7 Ty_7 Tl_7)
              | ((with_reducible refine Tz_8.out.wpLoadG 28 fits_meta (HYL.out) ?_ ?_); rfl)
              | ((with_reducible refine Ty_8.out.wpLoadG 28 fits_meta (HYL.out) ?_ ?_); rfl)
              | (go_at_call 9; (with_reducible refine (HRI.out y8).mono ?_); rintro e y9 ⟨rfl, b_⟩; have Tt_9 := Lib.hid (Tt_8.out.step b_); have Ty_9 := Lib.hid (Ty_8.out.step b_); have Tl_9 := Lib.hid (Tl_8.out.step b_); have Tz_9 := Lib.hid (Tz_8.out.step b_); have B_9 : Hid (Below w.heap.size w y9) := Lib.hid (B_8.out.next b_); clear b_ Tt_8 Ty_8 Tl_8 Tz_8 B_8))
            go_loopw [79] (fun i wr => ∃ q : Nat, q ≤ nb ∧ i = .int .i64 (q : Int) ∧ RecsAt wr g 0 (rcs B) ∧ Row wr (wo.heap.size) 28 [M0, M].flatten ∧ Below w.heap.size w wr) (fun i _ => nb - (intOf i).toNat)
            case atStart => exact ⟨0, Nat.zero_le _, rfl, Tl_9.out, Tt_9.out, B_9.out⟩
            case round =>
              rename World => wq
              obtain ⟨q, hq, rfl, hl3, ht3, hb3⟩ := hrel
              have HL3 := Lib.hid hl3
              have HT3 := Lib.hid ht3
              have HB3 := Lib.hid hb3
              clear hl3 ht3 hb3
              by_cases hlt3 : q < nb
              · have hqb : q < B.length := by rw [HNB.out]; exact hlt3
                obtain ⟨r, hr⟩ : ∃ r, B[q] = r := ⟨_, rfl⟩
                obtain ⟨C, hC⟩ : ∃ C, r.cells = C := ⟨_, rfl⟩
                have hre := HRE.out r (by rw [← hr]; exact List.getElem_mem hqb)
                have HRQ : Hid (wq.rangeAt g (q * 4) C) := Lib.hid (by
                  have := rcs_at HL3.out.c q hqb
                  rw [hr, hC, Nat.zero_add] at this
                  exact this)
                have HCL : Hid (C.length = 4) := Lib.hid (by rw [← hC]; rfl)
                have HCO : Hid (C.all (·.oneCell') = true) := Lib.hid (by rw [← hC]; rfl)
                obtain ⟨kd, hkd⟩ : ∃ x, r.k = x := ⟨_, rfl⟩
                have HC0 : Hid (C[0]? = some (.int .i64 kd)) := Lib.hid (by rw [← hC, ← hkd]; rfl)
                have hk125 : kd ≤ 125 := by rw [← hkd]; exact hre.2
                have HR14 : Hid (∀ u, Calls Try.prog 15 #[.agg C.toArray] u fun e w' => e = .returned (.bool true) ∧ Below u.heap.size u w') := Lib.hid fun u => by
                  have := rref_right_any r.k r.s r.n r.v u
                  rw [hre.1] at this
                  rw [← hC]
                  exact this
                clear hr hC hre hkd
                go_wp2_with (first
                  | ((with_reducible refine wpLoadRK HRQ.out 31 fits_rec HCL.out ?_ ?_); rfl)
                  | ((with_reducible refine wpAllocK (w := wq) (RZ) 31 HRZ.out ?_ ?_); rfl; intro z1 r_ b_ s_; have N_l_c : Hid (g ≠ wq.heap.size) := Lib.hid (by have := HL3.out.lt; omega); have N_t_c : Hid (wo.heap.size ≠ wq.heap.size) := Lib.hid (by have := HT3.out.lt; omega); have G_c : Hid (w.heap.size ≤ wq.heap.size) := Lib.hid (HB3.out.size); have Tl_1 := Lib.hid (HL3.out.step b_); have Tt_1 := Lib.hid (HT3.out.step b_); have B_1 : Hid (Below w.heap.size w z1) := Lib.hid (HB3.out.next b_); have Tc_1 := Lib.hid r_; clear r_ b_ s_ HL3 HT3 HB3)
                  | ((with_reducible refine Tc_1.out.wpStoreK 31 (C) fits_rec (HRZL.out) (HCL.out) (HCO.out) ?_ ?_); rfl; intro z2 r_ o_ s_; have Tl_2 := Lib.hid (Tl_1.out.only o_ N_l_c.out); have Tt_2 := Lib.hid (Tt_1.out.only o_ N_t_c.out); have Tc_2 := Lib.hid r_; have B_2 : Hid (Below w.heap.size w z2) := Lib.hid (B_1.out.trans (o_.below G_c.out B_1.out.size)); clear r_ o_ s_ Tc_1 B_1 Tl_1 Tt_1)
                  | ((with_reducible refine Tc_2.out.wpLoadK 31 fits_rec (HCL.out) ?_ ?_); rfl)
                  | (go_at_call 15; (with_reducible refine (HR14.out z2).mono ?_); rintro e z3 ⟨rfl, b_⟩; have Tl_3 := Lib.hid (Tl_2.out.step b_); have Tt_3 := Lib.hid (Tt_2.out.step b_); have Tc_3 := Lib.hid (Tc_2.out.step b_); have B_3 : Hid (Below w.heap.size w z3) := Lib.hid (B_2.out.next b_); have c0 := (Tc_3.out.cell 0).trans HC0.out; clear b_ Tl_2 Tt_2 Tc_2 B_2))
                go_roundw
                case rel => exact ⟨q + 1, by omega, by go_num, Tl_3.out, Tt_3.out, B_3.out⟩
                case measure => simp [intOf]; omega
              · go_wp2
                go_roundw
                case rel => exact ⟨j + 1, by omega, by go_num, HT3.out, HB3.out⟩
                case measure => simp [intOf]; omega
        · go_wp2
          go_ret
          exact ⟨rfl, HBI.out⟩
end Go.Proofs.Ytbpdnaiackfdmaa
