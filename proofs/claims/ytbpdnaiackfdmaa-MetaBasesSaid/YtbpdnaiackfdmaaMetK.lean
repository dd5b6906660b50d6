/- Right. -/
import Derived.Test.YtbpdnaiackfdmaaMetH
namespace Go.Proofs.Ytbpdnaiackfdmaa
open Go.RowKit MetMath
set_option linter.unusedVariables false
set_option maxRecDepth 100000

def win (m x : Int) : Bool := decide (0 ≤ x) && decide (x ≤ m)
theorem win_val (x : Int) : win 281474976710655 x = val x := rfl
set_option maxHeartbeats 1000000 in
theorem met_within_any (m : Int) (a : Option Addr) (n cap : Nat) (l : List Int) (w : World) (hn : l.length = n) (hl : n ≤ 100000) (hr : Lies w w.heap.size a (ints l)) :
    Calls Try.prog 20 #[.int .i64 m, .slice a n cap] w fun e w' => e = .returned (.bool (l.all (win m))) ∧ w' = w := by
  have HR := Lib.hid hr
  have HN := Lib.hid hn
  clear hr hn
  go_enter Try.func20, Try.ntmps20
  go_wp2
  go_loopw [9] (fun i wr => ∃ k : Nat, k ≤ n ∧ i = .int .i64 k ∧ (l.take k).all (win m) = true ∧ wr = w) (fun i _ => n - (intOf i).toNat)
  case atStart => exact ⟨0, by omega, rfl, rfl, rfl⟩
  case round =>
    obtain ⟨k, hk, rfl, hall, rfl⟩ := hrel
    by_cases hlt : k < n
    · have hkl : k < l.length := by rw [HN.out]; exact hlt
      obtain ⟨bl, off, rfl, hbb, hc⟩ := HR.out (by rw [ints_length]; omega)
      obtain ⟨x, hx⟩ : ∃ x, l[k] = x := ⟨_, rfl⟩
      have HT : Hid (l.take (k + 1) = l.take k ++ [x]) := Lib.hid (by rw [take_snoc l k hkl, hx])
      have hcell := hc k _ (ints_get l k hkl)
      rw [hx] at hcell
      have HA := Lib.hid hall
      clear hc hall hx
      by_cases h0 : x < 0
      · have HF : Hid (l.all (win m) = false) := Lib.hid (by
          rw [← List.take_append_drop (k + 1) l, List.all_append, HT.out, List.all_append]
          simp [win]
          intro _ h; omega)
        go_wp2
        go_ret
        exact ⟨ret_bool HF.out.symm, rfl⟩
      · by_cases h1 : x ≤ m
        · go_wp2
          go_roundw
          case rel => exact ⟨k + 1, by omega, by go_num, by rw [HT.out, List.all_append, HA.out]; simp [win, h1]; omega, by first | rfl | trivial⟩
          case measure => simp [intOf]; omega
        · have HF : Hid (l.all (win m) = false) := Lib.hid (by
            rw [← List.take_append_drop (k + 1) l, List.all_append, HT.out, List.all_append]
            simp [win, h1])
          go_wp2
          go_ret
          exact ⟨ret_bool HF.out.symm, rfl⟩
    · have HF : Hid (l.all (win m) = true) := Lib.hid (by rw [← hall, List.take_of_length_le (by rw [HN.out]; omega)])
      go_wp2
      go_ret
      exact ⟨ret_bool HF.out.symm, rfl⟩

theorem met_within_one (M v : Int) (r : Bool) (h : win M v = r) (u : World) : Calls Try.prog 20 #[.int .i64 M, .slice (some ⟨u.heap.size, 0, none⟩) 1 1] (u.alloc (.cells #[.int .i64 v] 3)) fun e w' => e = .returned (.bool r) ∧ Below u.heap.size u w' := by
  have := met_within_any M (some ⟨u.heap.size, 0, none⟩) 1 1 [v] _ rfl (by omega) (Lies.new (ints [v]) u 3)
  refine this.mono fun e w' hh => ⟨?_, ?_⟩
  · rw [hh.1]; simp [h]
  · rw [hh.2]; exact alloc_below u _
set_option maxHeartbeats 2000000 in
theorem met_sright_any (x : Sl) (w : World) : Calls Try.prog 21 #[.agg (slc x).toArray] w fun e w' => e = .returned (.bool x.right) ∧ Below w.heap.size w w' := by
  obtain ⟨s, v, b⟩ := x
  obtain ⟨q, hq⟩ : ∃ q, stOk s = q := ⟨_, rfl⟩
  obtain ⟨N, hN⟩ : ∃ N, stName s = N := ⟨_, rfl⟩
  have he : N.toList.isEmpty = !q := by rw [← hN, stName_empty, hq]
  have HS : Hid (∀ u, Calls Try.prog 45 #[.int .i64 s] u fun e w' => e = .returned (.string N) ∧ Below u.heap.size u w') := Lib.hid fun u => by rw [← hN]; exact met_state_any s u
  obtain ⟨rv, hrv⟩ : ∃ r, win 281474976710655 v = r := ⟨_, rfl⟩
  obtain ⟨rb, hrb⟩ : ∃ r, win 512 b = r := ⟨_, rfl⟩
  have HV := Lib.hid (met_within_one 281474976710655 v rv hrv)
  have HB := Lib.hid (met_within_one 512 b rb hrb)
  have HRES : Hid ((⟨s, v, b⟩ : Sl).right = (q && rv && rb && (b == 0 || s == 3) && (v == 0 || s == 2 || s == 3 || s == 4))) := Lib.hid (by rw [← hq, ← hrv, ← hrb]; rfl)
  obtain ⟨R, hR⟩ : ∃ R, (⟨s, v, b⟩ : Sl).right = R := ⟨_, rfl⟩
  rw [hR] at HRES ⊢
  obtain ⟨X, hX⟩ : ∃ X, slc ⟨s, v, b⟩ = X := ⟨_, rfl⟩
  have HX0 : Hid (X[0]? = some (.int .i64 s)) := Lib.hid (by rw [← hX]; rfl)
  have HX1 : Hid (X[1]? = some (.int .i64 v)) := Lib.hid (by rw [← hX]; rfl)
  have HX2 : Hid (X[2]? = some (.int .i64 b)) := Lib.hid (by rw [← hX]; rfl)
  rw [hX]
  clear hq hN hrv hrb hR hX
  cases q with
  | false =>
    have HE : Hid (R = false) := Lib.hid (by rw [HRES.out]; rfl)
    clear HRES
    go_enter Try.func21, Try.ntmps21
    go_wp2_with (first
      | ((with_reducible refine wpBoxK (w := w) (X) 25 ?_ ?_); rfl; intro ww1 r_ b_ s_; have G_x : Hid (w.heap.size ≤ w.heap.size) := Lib.hid (Nat.le_refl _); have B_1 : Hid (Below w.heap.size w ww1) := Lib.hid (b_); have Tx_1 := Lib.hid r_; have c00 := (Tx_1.out.cell 0).trans HX0.out; have c10 := (Tx_1.out.cell 1).trans HX1.out; have c20 := (Tx_1.out.cell 2).trans HX2.out; clear r_ b_ s_)
      | (go_at_call 45; (with_reducible refine (HS.out ww1).mono ?_); rintro e ww2 ⟨rfl, b_⟩; have Tx_2 := Lib.hid (Tx_1.out.step b_); have B_2 : Hid (Below w.heap.size w ww2) := Lib.hid (B_1.out.next b_); have c01 := (Tx_2.out.cell 0).trans HX0.out; have c11 := (Tx_2.out.cell 1).trans HX1.out; have c21 := (Tx_2.out.cell 2).trans HX2.out; clear b_ Tx_1 B_1))
    go_ret
    exact ⟨ret_bool HE.out.symm, B_2.out⟩
  | true =>
    cases rv with
    | false =>
      have HE : Hid (R = false) := Lib.hid (by rw [HRES.out]; rfl)
      clear HRES
      go_enter Try.func21, Try.ntmps21
      go_wp2_with (first
        | ((with_reducible refine wpBoxK (w := w) (X) 25 ?_ ?_); rfl; intro ww1 r_ b_ s_; have G_x : Hid (w.heap.size ≤ w.heap.size) := Lib.hid (Nat.le_refl _); have B_1 : Hid (Below w.heap.size w ww1) := Lib.hid (b_); have Tx_1 := Lib.hid r_; have c00 := (Tx_1.out.cell 0).trans HX0.out; have c10 := (Tx_1.out.cell 1).trans HX1.out; have c20 := (Tx_1.out.cell 2).trans HX2.out; clear r_ b_ s_)
        | (go_at_call 45; (with_reducible refine (HS.out ww1).mono ?_); rintro e ww2 ⟨rfl, b_⟩; have Tx_2 := Lib.hid (Tx_1.out.step b_); have B_2 : Hid (Below w.heap.size w ww2) := Lib.hid (B_1.out.next b_); have c01 := (Tx_2.out.cell 0).trans HX0.out; have c11 := (Tx_2.out.cell 1).trans HX1.out; have c21 := (Tx_2.out.cell 2).trans HX2.out; clear b_ Tx_1 B_1)
        | (go_at_call 20; (with_reducible refine (HV.out ww2).mono ?_); rintro e ww3 ⟨rfl, b_⟩; have Tx_3 := Lib.hid (Tx_2.out.step b_); have B_3 : Hid (Below w.heap.size w ww3) := Lib.hid (B_2.out.next b_); have c02 := (Tx_3.out.cell 0).trans HX0.out; have c12 := (Tx_3.out.cell 1).trans HX1.out; have c22 := (Tx_3.out.cell 2).trans HX2.out; clear b_ Tx_2 B_2))
      go_ret
      exact ⟨ret_bool HE.out.symm, B_3.out⟩
    | true =>
      cases rb with
      | false =>
        have HE : Hid (R = false) := Lib.hid (by rw [HRES.out]; rfl)
        clear HRES
        go_enter Try.func21, Try.ntmps21
        go_wp2_with (first
          | ((with_reducible refine wpBoxK (w := w) (X) 25 ?_ ?_); rfl; intro ww1 r_ b_ s_; have G_x : Hid (w.heap.size ≤ w.heap.size) := Lib.hid (Nat.le_refl _); have B_1 : Hid (Below w.heap.size w ww1) := Lib.hid (b_); have Tx_1 := Lib.hid r_; have c00 := (Tx_1.out.cell 0).trans HX0.out; have c10 := (Tx_1.out.cell 1).trans HX1.out; have c20 := (Tx_1.out.cell 2).trans HX2.out; clear r_ b_ s_)
          | (go_at_call 45; (with_reducible refine (HS.out ww1).mono ?_); rintro e ww2 ⟨rfl, b_⟩; have Tx_2 := Lib.hid (Tx_1.out.step b_); have B_2 : Hid (Below w.heap.size w ww2) := Lib.hid (B_1.out.next b_); have c01 := (Tx_2.out.cell 0).trans HX0.out; have c11 := (Tx_2.out.cell 1).trans HX1.out; have c21 := (Tx_2.out.cell 2).trans HX2.out; clear b_ Tx_1 B_1)
          | (go_at_call 20; (with_reducible refine (HV.out ww2).mono ?_); rintro e ww3 ⟨rfl, b_⟩; have Tx_3 := Lib.hid (Tx_2.out.step b_); have B_3 : Hid (Below w.heap.size w ww3) := Lib.hid (B_2.out.next b_); have c02 := (Tx_3.out.cell 0).trans HX0.out; have c12 := (Tx_3.out.cell 1).trans HX1.out; have c22 := (Tx_3.out.cell 2).trans HX2.out; clear b_ Tx_2 B_2)
          | (go_at_call 20; (with_reducible refine (HB.out ww3).mono ?_); rintro e ww4 ⟨rfl, b_⟩; have Tx_4 := Lib.hid (Tx_3.out.step b_); have B_4 : Hid (Below w.heap.size w ww4) := Lib.hid (B_3.out.next b_); have c03 := (Tx_4.out.cell 0).trans HX0.out; have c13 := (Tx_4.out.cell 1).trans HX1.out; have c23 := (Tx_4.out.cell 2).trans HX2.out; clear b_ Tx_3 B_3))
        go_ret
        exact ⟨ret_bool HE.out.symm, B_4.out⟩
      | true =>
        by_cases hb : b = 0
        · subst hb
          by_cases hv : v = 0
          · subst hv
            have HE : Hid (R = true) := Lib.hid (by rw [HRES.out]; simp)
            clear HRES
            go_enter Try.func21, Try.ntmps21
            go_wp2_with (first
              | ((with_reducible refine wpBoxK (w := w) (X) 25 ?_ ?_); rfl; intro ww1 r_ b_ s_; have G_x : Hid (w.heap.size ≤ w.heap.size) := Lib.hid (Nat.le_refl _); have B_1 : Hid (Below w.heap.size w ww1) := Lib.hid (b_); have Tx_1 := Lib.hid r_; have c00 := (Tx_1.out.cell 0).trans HX0.out; have c10 := (Tx_1.out.cell 1).trans HX1.out; have c20 := (Tx_1.out.cell 2).trans HX2.out; clear r_ b_ s_)
              | (go_at_call 45; (with_reducible refine (HS.out ww1).mono ?_); rintro e ww2 ⟨rfl, b_⟩; have Tx_2 := Lib.hid (Tx_1.out.step b_); have B_2 : Hid (Below w.heap.size w ww2) := Lib.hid (B_1.out.next b_); have c01 := (Tx_2.out.cell 0).trans HX0.out; have c11 := (Tx_2.out.cell 1).trans HX1.out; have c21 := (Tx_2.out.cell 2).trans HX2.out; clear b_ Tx_1 B_1)
              | (go_at_call 20; (with_reducible refine (HV.out ww2).mono ?_); rintro e ww3 ⟨rfl, b_⟩; have Tx_3 := Lib.hid (Tx_2.out.step b_); have B_3 : Hid (Below w.heap.size w ww3) := Lib.hid (B_2.out.next b_); have c02 := (Tx_3.out.cell 0).trans HX0.out; have c12 := (Tx_3.out.cell 1).trans HX1.out; have c22 := (Tx_3.out.cell 2).trans HX2.out; clear b_ Tx_2 B_2)
              | (go_at_call 20; (with_reducible refine (HB.out ww3).mono ?_); rintro e ww4 ⟨rfl, b_⟩; have Tx_4 := Lib.hid (Tx_3.out.step b_); have B_4 : Hid (Below w.heap.size w ww4) := Lib.hid (B_3.out.next b_); have c03 := (Tx_4.out.cell 0).trans HX0.out; have c13 := (Tx_4.out.cell 1).trans HX1.out; have c23 := (Tx_4.out.cell 2).trans HX2.out; clear b_ Tx_3 B_3))
            go_ret
            exact ⟨ret_bool HE.out.symm, B_4.out⟩
          · have e1v0 : (v != (0 : Int)) = true := by simp [hv]
            have e2v0 : (!(v == (0 : Int))) = true := by simp [hv]
            have e3v0 : (v == (0 : Int)) = false := by simp [hv]
            by_cases hs2 : s = 2
            · subst hs2
              have HE : Hid (R = true) := Lib.hid (by rw [HRES.out]; simp)
              clear HRES
              go_enter Try.func21, Try.ntmps21
              go_wp2_with (first
                | ((with_reducible refine wpBoxK (w := w) (X) 25 ?_ ?_); rfl; intro ww1 r_ b_ s_; have G_x : Hid (w.heap.size ≤ w.heap.size) := Lib.hid (Nat.le_refl _); have B_1 : Hid (Below w.heap.size w ww1) := Lib.hid (b_); have Tx_1 := Lib.hid r_; have c00 := (Tx_1.out.cell 0).trans HX0.out; have c10 := (Tx_1.out.cell 1).trans HX1.out; have c20 := (Tx_1.out.cell 2).trans HX2.out; clear r_ b_ s_)
                | (go_at_call 45; (with_reducible refine (HS.out ww1).mono ?_); rintro e ww2 ⟨rfl, b_⟩; have Tx_2 := Lib.hid (Tx_1.out.step b_); have B_2 : Hid (Below w.heap.size w ww2) := Lib.hid (B_1.out.next b_); have c01 := (Tx_2.out.cell 0).trans HX0.out; have c11 := (Tx_2.out.cell 1).trans HX1.out; have c21 := (Tx_2.out.cell 2).trans HX2.out; clear b_ Tx_1 B_1)
                | (go_at_call 20; (with_reducible refine (HV.out ww2).mono ?_); rintro e ww3 ⟨rfl, b_⟩; have Tx_3 := Lib.hid (Tx_2.out.step b_); have B_3 : Hid (Below w.heap.size w ww3) := Lib.hid (B_2.out.next b_); have c02 := (Tx_3.out.cell 0).trans HX0.out; have c12 := (Tx_3.out.cell 1).trans HX1.out; have c22 := (Tx_3.out.cell 2).trans HX2.out; clear b_ Tx_2 B_2)
                | (go_at_call 20; (with_reducible refine (HB.out ww3).mono ?_); rintro e ww4 ⟨rfl, b_⟩; have Tx_4 := Lib.hid (Tx_3.out.step b_); have B_4 : Hid (Below w.heap.size w ww4) := Lib.hid (B_3.out.next b_); have c03 := (Tx_4.out.cell 0).trans HX0.out; have c13 := (Tx_4.out.cell 1).trans HX1.out; have c23 := (Tx_4.out.cell 2).trans HX2.out; clear b_ Tx_3 B_3))
              go_ret
              exact ⟨ret_bool HE.out.symm, B_4.out⟩
            have e1s2 : (s != (2 : Int)) = true := by simp [hs2]
            have e2s2 : (!(s == (2 : Int))) = true := by simp [hs2]
            have e3s2 : (s == (2 : Int)) = false := by simp [hs2]
            by_cases hs3 : s = 3
            · subst hs3
              have HE : Hid (R = true) := Lib.hid (by rw [HRES.out]; simp)
              clear HRES
              go_enter Try.func21, Try.ntmps21
              go_wp2_with (first
                | ((with_reducible refine wpBoxK (w := w) (X) 25 ?_ ?_); rfl; intro ww1 r_ b_ s_; have G_x : Hid (w.heap.size ≤ w.heap.size) := Lib.hid (Nat.le_refl _); have B_1 : Hid (Below w.heap.size w ww1) := Lib.hid (b_); have Tx_1 := Lib.hid r_; have c00 := (Tx_1.out.cell 0).trans HX0.out; have c10 := (Tx_1.out.cell 1).trans HX1.out; have c20 := (Tx_1.out.cell 2).trans HX2.out; clear r_ b_ s_)
                | (go_at_call 45; (with_reducible refine (HS.out ww1).mono ?_); rintro e ww2 ⟨rfl, b_⟩; have Tx_2 := Lib.hid (Tx_1.out.step b_); have B_2 : Hid (Below w.heap.size w ww2) := Lib.hid (B_1.out.next b_); have c01 := (Tx_2.out.cell 0).trans HX0.out; have c11 := (Tx_2.out.cell 1).trans HX1.out; have c21 := (Tx_2.out.cell 2).trans HX2.out; clear b_ Tx_1 B_1)
                | (go_at_call 20; (with_reducible refine (HV.out ww2).mono ?_); rintro e ww3 ⟨rfl, b_⟩; have Tx_3 := Lib.hid (Tx_2.out.step b_); have B_3 : Hid (Below w.heap.size w ww3) := Lib.hid (B_2.out.next b_); have c02 := (Tx_3.out.cell 0).trans HX0.out; have c12 := (Tx_3.out.cell 1).trans HX1.out; have c22 := (Tx_3.out.cell 2).trans HX2.out; clear b_ Tx_2 B_2)
                | (go_at_call 20; (with_reducible refine (HB.out ww3).mono ?_); rintro e ww4 ⟨rfl, b_⟩; have Tx_4 := Lib.hid (Tx_3.out.step b_); have B_4 : Hid (Below w.heap.size w ww4) := Lib.hid (B_3.out.next b_); have c03 := (Tx_4.out.cell 0).trans HX0.out; have c13 := (Tx_4.out.cell 1).trans HX1.out; have c23 := (Tx_4.out.cell 2).trans HX2.out; clear b_ Tx_3 B_3))
              go_ret
              exact ⟨ret_bool HE.out.symm, B_4.out⟩
            have e1s3 : (s != (3 : Int)) = true := by simp [hs3]
            have e2s3 : (!(s == (3 : Int))) = true := by simp [hs3]
            have e3s3 : (s == (3 : Int)) = false := by simp [hs3]
            by_cases hs4 : s = 4
            · subst hs4
              have HE : Hid (R = true) := Lib.hid (by rw [HRES.out]; simp)
              clear HRES
              go_enter Try.func21, Try.ntmps21
              go_wp2_with (first
                | ((with_reducible refine wpBoxK (w := w) (X) 25 ?_ ?_); rfl; intro ww1 r_ b_ s_; have G_x : Hid (w.heap.size ≤ w.heap.size) := Lib.hid (Nat.le_refl _); have B_1 : Hid (Below w.heap.size w ww1) := Lib.hid (b_); have Tx_1 := Lib.hid r_; have c00 := (Tx_1.out.cell 0).trans HX0.out; have c10 := (Tx_1.out.cell 1).trans HX1.out; have c20 := (Tx_1.out.cell 2).trans HX2.out; clear r_ b_ s_)
                | (go_at_call 45; (with_reducible refine (HS.out ww1).mono ?_); rintro e ww2 ⟨rfl, b_⟩; have Tx_2 := Lib.hid (Tx_1.out.step b_); have B_2 : Hid (Below w.heap.size w ww2) := Lib.hid (B_1.out.next b_); have c01 := (Tx_2.out.cell 0).trans HX0.out; have c11 := (Tx_2.out.cell 1).trans HX1.out; have c21 := (Tx_2.out.cell 2).trans HX2.out; clear b_ Tx_1 B_1)
                | (go_at_call 20; (with_reducible refine (HV.out ww2).mono ?_); rintro e ww3 ⟨rfl, b_⟩; have Tx_3 := Lib.hid (Tx_2.out.step b_); have B_3 : Hid (Below w.heap.size w ww3) := Lib.hid (B_2.out.next b_); have c02 := (Tx_3.out.cell 0).trans HX0.out; have c12 := (Tx_3.out.cell 1).trans HX1.out; have c22 := (Tx_3.out.cell 2).trans HX2.out; clear b_ Tx_2 B_2)
                | (go_at_call 20; (with_reducible refine (HB.out ww3).mono ?_); rintro e ww4 ⟨rfl, b_⟩; have Tx_4 := Lib.hid (Tx_3.out.step b_); have B_4 : Hid (Below w.heap.size w ww4) := Lib.hid (B_3.out.next b_); have c03 := (Tx_4.out.cell 0).trans HX0.out; have c13 := (Tx_4.out.cell 1).trans HX1.out; have c23 := (Tx_4.out.cell 2).trans HX2.out; clear b_ Tx_3 B_3))
              go_ret
              exact ⟨ret_bool HE.out.symm, B_4.out⟩
            have e1s4 : (s != (4 : Int)) = true := by simp [hs4]
            have e2s4 : (!(s == (4 : Int))) = true := by simp [hs4]
            have e3s4 : (s == (4 : Int)) = false := by simp [hs4]
            have HE : Hid (R = false) := Lib.hid (by rw [HRES.out]; simp [hv, hs2, hs3, hs4])
            clear HRES
            go_enter Try.func21, Try.ntmps21
            go_wp2_with (first
              | ((with_reducible refine wpBoxK (w := w) (X) 25 ?_ ?_); rfl; intro ww1 r_ b_ s_; have G_x : Hid (w.heap.size ≤ w.heap.size) := Lib.hid (Nat.le_refl _); have B_1 : Hid (Below w.heap.size w ww1) := Lib.hid (b_); have Tx_1 := Lib.hid r_; have c00 := (Tx_1.out.cell 0).trans HX0.out; have c10 := (Tx_1.out.cell 1).trans HX1.out; have c20 := (Tx_1.out.cell 2).trans HX2.out; clear r_ b_ s_)
              | (go_at_call 45; (with_reducible refine (HS.out ww1).mono ?_); rintro e ww2 ⟨rfl, b_⟩; have Tx_2 := Lib.hid (Tx_1.out.step b_); have B_2 : Hid (Below w.heap.size w ww2) := Lib.hid (B_1.out.next b_); have c01 := (Tx_2.out.cell 0).trans HX0.out; have c11 := (Tx_2.out.cell 1).trans HX1.out; have c21 := (Tx_2.out.cell 2).trans HX2.out; clear b_ Tx_1 B_1)
              | (go_at_call 20; (with_reducible refine (HV.out ww2).mono ?_); rintro e ww3 ⟨rfl, b_⟩; have Tx_3 := Lib.hid (Tx_2.out.step b_); have B_3 : Hid (Below w.heap.size w ww3) := Lib.hid (B_2.out.next b_); have c02 := (Tx_3.out.cell 0).trans HX0.out; have c12 := (Tx_3.out.cell 1).trans HX1.out; have c22 := (Tx_3.out.cell 2).trans HX2.out; clear b_ Tx_2 B_2)
              | (go_at_call 20; (with_reducible refine (HB.out ww3).mono ?_); rintro e ww4 ⟨rfl, b_⟩; have Tx_4 := Lib.hid (Tx_3.out.step b_); have B_4 : Hid (Below w.heap.size w ww4) := Lib.hid (B_3.out.next b_); have c03 := (Tx_4.out.cell 0).trans HX0.out; have c13 := (Tx_4.out.cell 1).trans HX1.out; have c23 := (Tx_4.out.cell 2).trans HX2.out; clear b_ Tx_3 B_3))
            go_ret
            exact ⟨ret_bool HE.out.symm, B_4.out⟩
        · have e1b0 : (b != (0 : Int)) = true := by simp [hb]
          have e2b0 : (!(b == (0 : Int))) = true := by simp [hb]
          have e3b0 : (b == (0 : Int)) = false := by simp [hb]
          by_cases hs3 : s = 3
          · subst hs3
            by_cases hv : v = 0
            · subst hv
              have HE : Hid (R = true) := Lib.hid (by rw [HRES.out]; simp)
              clear HRES
              go_enter Try.func21, Try.ntmps21
              go_wp2_with (first
                | ((with_reducible refine wpBoxK (w := w) (X) 25 ?_ ?_); rfl; intro ww1 r_ b_ s_; have G_x : Hid (w.heap.size ≤ w.heap.size) := Lib.hid (Nat.le_refl _); have B_1 : Hid (Below w.heap.size w ww1) := Lib.hid (b_); have Tx_1 := Lib.hid r_; have c00 := (Tx_1.out.cell 0).trans HX0.out; have c10 := (Tx_1.out.cell 1).trans HX1.out; have c20 := (Tx_1.out.cell 2).trans HX2.out; clear r_ b_ s_)
                | (go_at_call 45; (with_reducible refine (HS.out ww1).mono ?_); rintro e ww2 ⟨rfl, b_⟩; have Tx_2 := Lib.hid (Tx_1.out.step b_); have B_2 : Hid (Below w.heap.size w ww2) := Lib.hid (B_1.out.next b_); have c01 := (Tx_2.out.cell 0).trans HX0.out; have c11 := (Tx_2.out.cell 1).trans HX1.out; have c21 := (Tx_2.out.cell 2).trans HX2.out; clear b_ Tx_1 B_1)
                | (go_at_call 20; (with_reducible refine (HV.out ww2).mono ?_); rintro e ww3 ⟨rfl, b_⟩; have Tx_3 := Lib.hid (Tx_2.out.step b_); have B_3 : Hid (Below w.heap.size w ww3) := Lib.hid (B_2.out.next b_); have c02 := (Tx_3.out.cell 0).trans HX0.out; have c12 := (Tx_3.out.cell 1).trans HX1.out; have c22 := (Tx_3.out.cell 2).trans HX2.out; clear b_ Tx_2 B_2)
                | (go_at_call 20; (with_reducible refine (HB.out ww3).mono ?_); rintro e ww4 ⟨rfl, b_⟩; have Tx_4 := Lib.hid (Tx_3.out.step b_); have B_4 : Hid (Below w.heap.size w ww4) := Lib.hid (B_3.out.next b_); have c03 := (Tx_4.out.cell 0).trans HX0.out; have c13 := (Tx_4.out.cell 1).trans HX1.out; have c23 := (Tx_4.out.cell 2).trans HX2.out; clear b_ Tx_3 B_3))
              go_ret
              exact ⟨ret_bool HE.out.symm, B_4.out⟩
            · have e1v0 : (v != (0 : Int)) = true := by simp [hv]
              have e2v0 : (!(v == (0 : Int))) = true := by simp [hv]
              have e3v0 : (v == (0 : Int)) = false := by simp [hv]
              have HE : Hid (R = true) := Lib.hid (by rw [HRES.out]; simp)
              clear HRES
              go_enter Try.func21, Try.ntmps21
              go_wp2_with (first
                | ((with_reducible refine wpBoxK (w := w) (X) 25 ?_ ?_); rfl; intro ww1 r_ b_ s_; have G_x : Hid (w.heap.size ≤ w.heap.size) := Lib.hid (Nat.le_refl _); have B_1 : Hid (Below w.heap.size w ww1) := Lib.hid (b_); have Tx_1 := Lib.hid r_; have c00 := (Tx_1.out.cell 0).trans HX0.out; have c10 := (Tx_1.out.cell 1).trans HX1.out; have c20 := (Tx_1.out.cell 2).trans HX2.out; clear r_ b_ s_)
                | (go_at_call 45; (with_reducible refine (HS.out ww1).mono ?_); rintro e ww2 ⟨rfl, b_⟩; have Tx_2 := Lib.hid (Tx_1.out.step b_); have B_2 : Hid (Below w.heap.size w ww2) := Lib.hid (B_1.out.next b_); have c01 := (Tx_2.out.cell 0).trans HX0.out; have c11 := (Tx_2.out.cell 1).trans HX1.out; have c21 := (Tx_2.out.cell 2).trans HX2.out; clear b_ Tx_1 B_1)
                | (go_at_call 20; (with_reducible refine (HV.out ww2).mono ?_); rintro e ww3 ⟨rfl, b_⟩; have Tx_3 := Lib.hid (Tx_2.out.step b_); have B_3 : Hid (Below w.heap.size w ww3) := Lib.hid (B_2.out.next b_); have c02 := (Tx_3.out.cell 0).trans HX0.out; have c12 := (Tx_3.out.cell 1).trans HX1.out; have c22 := (Tx_3.out.cell 2).trans HX2.out; clear b_ Tx_2 B_2)
                | (go_at_call 20; (with_reducible refine (HB.out ww3).mono ?_); rintro e ww4 ⟨rfl, b_⟩; have Tx_4 := Lib.hid (Tx_3.out.step b_); have B_4 : Hid (Below w.heap.size w ww4) := Lib.hid (B_3.out.next b_); have c03 := (Tx_4.out.cell 0).trans HX0.out; have c13 := (Tx_4.out.cell 1).trans HX1.out; have c23 := (Tx_4.out.cell 2).trans HX2.out; clear b_ Tx_3 B_3))
              go_ret
              exact ⟨ret_bool HE.out.symm, B_4.out⟩
          · have e1s3 : (s != (3 : Int)) = true := by simp [hs3]
            have e2s3 : (!(s == (3 : Int))) = true := by simp [hs3]
            have e3s3 : (s == (3 : Int)) = false := by simp [hs3]
            have HE : Hid (R = false) := Lib.hid (by rw [HRES.out]; simp [hb, hs3])
            clear HRES
            go_enter Try.func21, Try.ntmps21
            go_wp2_with (first
              | ((with_reducible refine wpBoxK (w := w) (X) 25 ?_ ?_); rfl; intro ww1 r_ b_ s_; have G_x : Hid (w.heap.size ≤ w.heap.size) := Lib.hid (Nat.le_refl _); have B_1 : Hid (Below w.heap.size w ww1) := Lib.hid (b_); have Tx_1 := Lib.hid r_; have c00 := (Tx_1.out.cell 0).trans HX0.out; have c10 := (Tx_1.out.cell 1).trans HX1.out; have c20 := (Tx_1.out.cell 2).trans HX2.out; clear r_ b_ s_)
              | (go_at_call 45; (with_reducible refine (HS.out ww1).mono ?_); rintro e ww2 ⟨rfl, b_⟩; have Tx_2 := Lib.hid (Tx_1.out.step b_); have B_2 : Hid (Below w.heap.size w ww2) := Lib.hid (B_1.out.next b_); have c01 := (Tx_2.out.cell 0).trans HX0.out; have c11 := (Tx_2.out.cell 1).trans HX1.out; have c21 := (Tx_2.out.cell 2).trans HX2.out; clear b_ Tx_1 B_1)
              | (go_at_call 20; (with_reducible refine (HV.out ww2).mono ?_); rintro e ww3 ⟨rfl, b_⟩; have Tx_3 := Lib.hid (Tx_2.out.step b_); have B_3 : Hid (Below w.heap.size w ww3) := Lib.hid (B_2.out.next b_); have c02 := (Tx_3.out.cell 0).trans HX0.out; have c12 := (Tx_3.out.cell 1).trans HX1.out; have c22 := (Tx_3.out.cell 2).trans HX2.out; clear b_ Tx_2 B_2)
              | (go_at_call 20; (with_reducible refine (HB.out ww3).mono ?_); rintro e ww4 ⟨rfl, b_⟩; have Tx_4 := Lib.hid (Tx_3.out.step b_); have B_4 : Hid (Below w.heap.size w ww4) := Lib.hid (B_3.out.next b_); have c03 := (Tx_4.out.cell 0).trans HX0.out; have c13 := (Tx_4.out.cell 1).trans HX1.out; have c23 := (Tx_4.out.cell 2).trans HX2.out; clear b_ Tx_3 B_3))
            go_ret
            exact ⟨ret_bool HE.out.symm, B_4.out⟩
end Go.Proofs.Ytbpdnaiackfdmaa
