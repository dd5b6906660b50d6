/- RecordVersions: a case of the walk (gen_rec_e.py). -/
import Derived.Test.YtpeofjlecgenbaaRecE
namespace Go.Proofs.Ytpeofjlecgenbaa
open Go.RowKit CrcMath NumMath
set_option linter.unusedVariables false
set_option maxRecDepth 100000

set_option maxHeartbeats 8000000 in
theorem recordVersions_w2 (a b c d e f n : Int) (w : World) (hc1 : vOk a b c = false) (hc2 : vIn n = false) (hc3 : 0 ≤ n) :
    Calls Try.prog 5 #[.agg (vcv a b c).toArray, .agg (vcv d e f).toArray, .int .i64 n] w fun e w' => e = .returned (.bool true) ∧ Below w.heap.size w w' := by
  obtain ⟨o1, ho1⟩ : ∃ x, vOk a b c = x := ⟨_, rfl⟩
  obtain ⟨o2, ho2⟩ : ∃ x, vOk d e f = x := ⟨_, rfl⟩
  obtain ⟨N1, hN1⟩ : ∃ x, numR a b c = x := ⟨_, rfl⟩
  obtain ⟨N2, hN2⟩ : ∃ x, numR d e f = x := ⟨_, rfl⟩
  obtain ⟨V1, hV1⟩ : ∃ x, vcv a b c = x := ⟨_, rfl⟩
  obtain ⟨V2, hV2⟩ : ∃ x, vcv d e f = x := ⟨_, rfl⟩
  obtain ⟨X, hX⟩ : ∃ x, verR N1 = x := ⟨_, rfl⟩
  obtain ⟨Y, hY⟩ : ∃ x, verR n = x := ⟨_, rfl⟩
  obtain ⟨t, ht⟩ : ∃ x, vIn n = x := ⟨_, rfl⟩
  obtain ⟨M, hM⟩ : ∃ x : Int, (if t then n else 0) = x := ⟨_, rfl⟩
  have HN1 : Hid (∀ u, Calls Try.prog 22 #[.agg V1.toArray] u fun e u' => e = .returned (.tuple #[.int .i64 N1, .bool o1]) ∧ Below u.heap.size u u') := Lib.hid fun u => by rw [← hV1, ← hN1, ← ho1]; exact number_any a b c u
  have HN2 : Hid (∀ u, Calls Try.prog 22 #[.agg V2.toArray] u fun e u' => e = .returned (.tuple #[.int .i64 N2, .bool o2]) ∧ Below u.heap.size u u') := Lib.hid fun u => by rw [← hV2, ← hN2, ← ho2]; exact number_any d e f u
  have hin1 : vIn N1 = true := by
    rw [← hN1]; unfold numR
    cases h : vOk a b c with
    | true => exact (numV_in h).1
    | false => rw [if_neg (by decide)]; decide
  have HVX : Hid (∀ u, Calls Try.prog 23 #[.int .i64 N1] u fun e u' => e = .returned (.tuple #[.agg X.toArray, .bool true]) ∧ Below u.heap.size u u') := Lib.hid fun u => by rw [← hX, ← hin1]; exact version_any N1 u
  have HVY : Hid (∀ u, Calls Try.prog 23 #[.int .i64 n] u fun e u' => e = .returned (.tuple #[.agg Y.toArray, .bool t]) ∧ Below u.heap.size u u') := Lib.hid fun u => by rw [← hY, ← ht]; exact version_any n u
  have HN3 : Hid (∀ u, Calls Try.prog 22 #[.agg Y.toArray] u fun e u' => e = .returned (.tuple #[.int .i64 M, .bool true]) ∧ Below u.heap.size u u') := Lib.hid fun u => by
    obtain ⟨x, y, z, h1, h2, h3⟩ := ver_numR (n := n)
    have := number_yes x y z u h2
    rw [← hY, ← hM, ← ht, ← h3, h1]
    exact this
  have LX : Hid (X.length = 3) := Lib.hid (by rw [← hX]; unfold verR; split <;> rfl)
  have X1 : Hid (X.all (·.oneCell') = true) := Lib.hid (by rw [← hX]; unfold verR; split <;> rfl)
  have LY : Hid (Y.length = 3) := Lib.hid (by rw [← hY]; unfold verR; split <;> rfl)
  have Y1 : Hid (Y.all (·.oneCell') = true) := Lib.hid (by rw [← hY]; unfold verR; split <;> rfl)
  have LV1 : Hid (V1.length = 3) := Lib.hid (by rw [← hV1]; rfl)
  have LV2 : Hid (V2.length = 3) := Lib.hid (by rw [← hV2]; rfl)
  have HEX : Hid (o1 = true → ∀ u : World, (Op.equalIn 10000 51 (.agg X.toArray) (.agg V1.toArray)).run Try.prog u = .ok true u) := Lib.hid fun h u => by
    rw [h] at ho1
    have e1 : N1 = numV a b c := by rw [← hN1]; unfold numR; rw [ho1, if_pos rfl]
    rw [← hX, e1, (numV_in ho1).2, ← hV1]
    exact eq_ver a b c u
  have HEY : Hid (t = false → ∀ u : World, (Op.equalIn 10000 51 (.agg Y.toArray) (.agg #[.int .i64 0, .int .i64 0, .int .i64 0])).run Try.prog u = .ok true u) := Lib.hid fun h u => by
    rw [h] at ht
    have e1 : Y = vcv 0 0 0 := by rw [← hY]; unfold verR; rw [ht, if_neg (by decide)]
    rw [e1]
    exact eq_ver 0 0 0 u
  have HC1 : Hid (V1[0]? = some (.int .i64 a) ∧ V1[1]? = some (.int .i64 b) ∧ V1[2]? = some (.int .i64 c)) := Lib.hid (by rw [← hV1]; exact ⟨rfl, rfl, rfl⟩)
  have HC2 : Hid (V2[0]? = some (.int .i64 d) ∧ V2[1]? = some (.int .i64 e) ∧ V2[2]? = some (.int .i64 f)) := Lib.hid (by rw [← hV2]; exact ⟨rfl, rfl, rfl⟩)
  have HSEL : Hid (∀ k, k < 3 → V1[k]? = some (.int .i64 (sel a b c k))) := Lib.hid fun k h => by rw [← hV1]; exact sel_get a b c k h
  have HFIVE : Hid (Five a b c d e f N1 N2 (o1 && o2)) := Lib.hid (by rw [← hN1, ← hN2, ← ho1, ← ho2]; exact five a b c d e f)
  have HO1 := Lib.hid ho1
  have HZR : Hid (o1 = false → N1 = 0) := Lib.hid fun h => by rw [← hN1]; unfold numR; rw [ho1, h, if_neg (by decide)]
  have HNV : Hid (o1 = true → (0 ≤ a ∧ a < 65536 ∧ 0 ≤ b ∧ b < 65536 ∧ 0 ≤ c ∧ c < 65536) ∧ N1 = (a * 65536 + b) * 65536 + c) := Lib.hid fun h => by
    rw [h] at ho1
    exact ⟨by simpa [vOk] using ho1, by rw [← hN1]; unfold numR; rw [ho1, if_pos rfl]; rfl⟩
  have HT : Hid ((t = true → 0 ≤ n ∧ n < 281474976710656 ∧ M = n) ∧ (t = false → ¬ (0 ≤ n ∧ n < 281474976710656) ∧ M = 0)) := Lib.hid (by
    constructor
    · intro h
      rw [h] at ht hM
      have : 0 ≤ n ∧ n < 281474976710656 := by simpa [vIn] using ht
      exact ⟨this.1, this.2, by rw [← hM, if_pos rfl]⟩
    · intro h
      rw [h] at ht hM
      exact ⟨by simpa [vIn] using ht, by rw [← hM, if_neg (by decide)]⟩)
  have HBU : Hid (Try.prog.built 51 [] = some #[.int .i64 0, .int .i64 0, .int .i64 0]) := Lib.hid (by kernel_rfl)
  rw [hV1, hV2]
  have HTV := Lib.hid ht
  have HC01 := Lib.hid hc1
  have HC02 := Lib.hid hc2
  have HC03 := Lib.hid hc3
  clear hc1 hc2 hc3 ho1 ho2 hN1 hN2 hV1 hV2 hX hY ht hM hin1
  go_enter Try.func5, Try.ntmps5
  go_wp2_with (first
    | ((with_reducible refine wpBoxK (w := w) V1 51 ?_ ?_); rfl; intro u1 r1 b1 s1; have G1 := Lib.hid r1; have B1 := Lib.hid b1; clear r1 b1 s1)
    | ((with_reducible refine wpBoxK (w := u1) V2 51 ?_ ?_); rfl; intro u2 r2 b2 s2; have H2 := Lib.hid r2; have G2 := Lib.hid (G1.out.step b2); have B2 : Hid (Below w.heap.size w u2) := Lib.hid (B1.out.next b2); clear r2 b2 s2)
    | (go_at_call 7; (with_reducible refine (rec_awake_any u2).mono ?_); rintro e u3 ⟨rfl, b3⟩; have H3 := Lib.hid (H2.out.step b3); have G3 := Lib.hid (G2.out.step b3); have B3 : Hid (Below w.heap.size w u3) := Lib.hid (B2.out.next b3); clear b3)
    | ((with_reducible refine G3.out.wpLoadK 51 fits_rver LV1.out ?_ ?_); rfl)
    | (go_at_call 22; (with_reducible refine (HN1.out u3).mono ?_); rintro e u4 ⟨rfl, b4⟩; have H4 := Lib.hid (H3.out.step b4); have G4 := Lib.hid (G3.out.step b4); have B4 : Hid (Below w.heap.size w u4) := Lib.hid (B3.out.next b4); clear b4)
    | ((with_reducible refine H4.out.wpLoadK 51 fits_rver LV2.out ?_ ?_); rfl)
    | (go_at_call 22; (with_reducible refine (HN2.out u4).mono ?_); rintro e u5 ⟨rfl, b5⟩; have H5 := Lib.hid (H4.out.step b5); have G5 := Lib.hid (G4.out.step b5); have B5 : Hid (Below w.heap.size w u5) := Lib.hid (B4.out.next b5); clear b5)
    | (go_at_call 23; (with_reducible refine (HVX.out u5).mono ?_); rintro e u6 ⟨rfl, b6⟩; have H6 := Lib.hid (H5.out.step b6); have G6 := Lib.hid (G5.out.step b6); have B6 : Hid (Below w.heap.size w u6) := Lib.hid (B5.out.next b6); clear b6)
    | ((with_reducible refine wpAllocK (w := u6) (vcv 0 0 0) 51 zero_rver ?_ ?_); rfl; intro u7 r7 b7 s7; have X7 := Lib.hid r7; have H7 := Lib.hid (H6.out.step b7); have G7 := Lib.hid (G6.out.step b7); have B7 : Hid (Below w.heap.size w u7) := Lib.hid (B6.out.next b7); clear r7 b7 s7)
    | ((with_reducible refine X7.out.wpStoreK 51 X fits_rver rfl LX.out X1.out ?_ ?_); rfl; intro u8 r8 o8 s8; have X8 := Lib.hid r8; have H8 := Lib.hid (H7.out.only o8 (by have := H6.out.lt; omega)); have G8 := Lib.hid (G7.out.only o8 (by have := G6.out.lt; omega)); have B8 : Hid (Below w.heap.size w u8) := Lib.hid (B7.out.trans (o8.below B6.out.size B7.out.size)); clear r8 o8 s8))
  go_loop [13, 37] (fun v i => ∃ k : Nat, k ≤ 3 ∧ i = .int .i64 k ∧ v = .bool (preV a b c k)) (fun _ i => 3 - (intOf i).toNat)
  case atStart => exact ⟨0, by omega, rfl, rfl⟩
  case round =>
    obtain ⟨k, hk, rfl, rfl⟩ := hrel
    by_cases hlt : k < 3
    · obtain ⟨x, hx⟩ : ∃ x, sel a b c k = x := ⟨_, rfl⟩
      obtain ⟨p, hp⟩ : ∃ p, preV a b c k = p := ⟨_, rfl⟩
      have hcell : u8.cell? ⟨w.heap.size, k, none⟩ = some (.int .i64 x) := by rw [G8.out.cell, HSEL.out k hlt, hx]
      have HST : Hid (preV a b c (k + 1) = (p && inB x)) := Lib.hid (by rw [preV_step a b c k hlt, hp, hx])
      have hki : (k : Int) < 3 := by omega
      rw [hp]
      clear hp hx
      cases p with
      | true =>
        by_cases h0 : 0 ≤ x
        · by_cases h1 : x < 65536
          · have HI : Hid (inB x = true) := Lib.hid (by unfold inB; rw [decide_eq_true_eq]; exact ⟨h0, h1⟩)
            go_wp2
            go_round
            case rel => exact ⟨k + 1, by omega, by go_num, by simp [HST.out, HI.out]⟩
            case measure => simp [intOf]; omega
          · have HI : Hid (inB x = false) := Lib.hid (by unfold inB; rw [decide_eq_false_iff_not]; exact fun h => h1 h.2)
            go_wp2
            go_round
            case rel => exact ⟨k + 1, by omega, by go_num, by simp [HST.out, HI.out]⟩
            case measure => simp [intOf]; omega
        · have HI : Hid (inB x = false) := Lib.hid (by unfold inB; rw [decide_eq_false_iff_not]; exact fun h => h0 h.1)
          go_wp2
          go_round
          case rel => exact ⟨k + 1, by omega, by go_num, by simp [HST.out, HI.out]⟩
          case measure => simp [intOf]; omega
      | false =>
        go_wp2
        go_round
        case rel => exact ⟨k + 1, by omega, by go_num, by simp [HST.out]⟩
        case measure => simp [intOf]; omega
    · have HK : Hid (preV a b c k = o1) := Lib.hid (by rw [show k = 3 from (by omega), ← HO1.out]; rfl)
      have hki : ¬ ((k : Int) < 3) := by omega
      rw [HK.out]
      clear HK
      have c0 : u8.cell? ⟨w.heap.size, 0, none⟩ = some (.int .i64 a) := (G8.out.cell 0).trans HC1.out.1
      have c1 : u8.cell? ⟨w.heap.size, 1, none⟩ = some (.int .i64 b) := (G8.out.cell 1).trans HC1.out.2.1
      have c2 : u8.cell? ⟨w.heap.size, 2, none⟩ = some (.int .i64 c) := (G8.out.cell 2).trans HC1.out.2.2
      obtain rfl : o1 = false := HO1.out.symm.trans HC01.out
      obtain rfl : t = false := HTV.out.symm.trans HC02.out
      have hz2 : (N1 != 0) = false := by rw [HZR.out rfl]; rfl
      obtain ⟨hnn, hMn⟩ := HT.out.2 rfl
      have heqy := HEY.out rfl
      have hn0 := HC03.out
      have hn1 : ¬ n < 281474976710656 := fun h => hnn ⟨hn0, h⟩
      clear hnn hMn
      go_wp2_with (first
        | ((with_reducible refine X8.out.wpLoadG 51 fits_rver LX.out ?_ ?_); rfl)
        | ((with_reducible refine G8.out.wpLoadG 51 fits_rver LV1.out ?_ ?_); rfl)
        | (go_at_call 23; (with_reducible refine (HVY.out u8).mono ?_); rintro e u9 ⟨rfl, b9⟩; have H9 := Lib.hid (H8.out.step b9); have G9 := Lib.hid (G8.out.step b9); have B9 : Hid (Below w.heap.size w u9) := Lib.hid (B8.out.next b9); clear b9)
        | ((with_reducible refine wpAllocK (w := u9) (vcv 0 0 0) 51 zero_rver ?_ ?_); rfl; intro u10 r10 b10 s10; have Y10 := Lib.hid r10; have H10 := Lib.hid (H9.out.step b10); have G10 := Lib.hid (G9.out.step b10); have B10 : Hid (Below w.heap.size w u10) := Lib.hid (B9.out.next b10); clear r10 b10 s10)
        | ((with_reducible refine Y10.out.wpStoreK 51 Y fits_rver rfl LY.out Y1.out ?_ ?_); rfl; intro u11 r11 o11 s11; have Y11 := Lib.hid r11; have H11 := Lib.hid (H10.out.only o11 (by have := H9.out.lt; omega)); have G11 := Lib.hid (G10.out.only o11 (by have := G9.out.lt; omega)); have B11 : Hid (Below w.heap.size w u11) := Lib.hid (B10.out.trans (o11.below B9.out.size B10.out.size)); clear r11 o11 s11)
        | ((with_reducible refine Y11.out.wpLoadK 51 fits_rver LY.out ?_ ?_); rfl)
        | (go_at_call 22; (with_reducible refine (HN3.out u11).mono ?_); rintro e u12 ⟨rfl, b12⟩; have Y12 := Lib.hid (Y11.out.step b12); have H12 := Lib.hid (H11.out.step b12); have G12 := Lib.hid (G11.out.step b12); have B12 : Hid (Below w.heap.size w u12) := Lib.hid (B11.out.next b12);
            have d0 : u12.cell? ⟨w.heap.size, 0, none⟩ = some (.int .i64 a) := (G12.out.cell 0).trans HC1.out.1; have d1 : u12.cell? ⟨w.heap.size, 1, none⟩ = some (.int .i64 b) := (G12.out.cell 1).trans HC1.out.2.1; have d2 : u12.cell? ⟨w.heap.size, 2, none⟩ = some (.int .i64 c) := (G12.out.cell 2).trans HC1.out.2.2;
            have e0 : u12.cell? ⟨u1.heap.size, 0, none⟩ = some (.int .i64 d) := (H12.out.cell 0).trans HC2.out.1; have e1 : u12.cell? ⟨u1.heap.size, 1, none⟩ = some (.int .i64 e) := (H12.out.cell 1).trans HC2.out.2.1; have e2 : u12.cell? ⟨u1.heap.size, 2, none⟩ = some (.int .i64 f) := (H12.out.cell 2).trans HC2.out.2.2;
            have hway := ways HFIVE.out;
            clear b12 c0 c1 c2 HN1 HN2 HVX HVY HN3 LX X1 Y1 LV1 LV2 HEX HEY HC1 HC2 HSEL HFIVE HO1 HZR HNV HT HBU HTV HC01 HC02 HC03 G1 B1 H2 G2 B2 H3 G3 B3 H4 G4 B4 H5 G5 B5 H6 G6 B6 X7 H7 G7 B7 X8 H8 G8 B8 H9 G9 B9 Y10 H10 G10 B10 Y11 H11 G11 B11 H12 G12;
            rcases hway with ⟨k1, k0⟩ | ⟨k1, k2, k0⟩ | ⟨k1, k2, k3, k0⟩ | ⟨k1, k2, k3, k4, k0⟩ | ⟨k1, k2, k3, k4, k0⟩)
        | ((with_reducible refine Y12.out.wpLoadG 51 fits_rver LY.out ?_ ?_); rfl))
      all_goals go_ret
      all_goals refine ⟨?_, B12.out⟩
      all_goals first | (simp_all; done) | (simp_all; omega)
end Go.Proofs.Ytpeofjlecgenbaa
