/- GeoApart: the walk (gen_geo_q.py). -/
import Derived.Test.YtiakbdekleaaoaaGeoI
import Derived.Test.YtiakbdekleaaoaaGeoN
import Derived.Test.YtiakbdekleaaoaaGeoMath5
import Derived.Test.YtiakbdekleaaoaaGeoR
import Derived.Carry
namespace Go.Proofs.Ytiakbdekleaaoaa
open Go.RowKit GeoMath Go.Maps
set_option linter.unusedVariables false
set_option maxRecDepth 100000

set_option maxHeartbeats 8000000 in
theorem geoApart_walk (da dp ds : Nat) (w : World) (h1 : da < 256) (h2 : dp < 256) (h3 : ds < 256) :
    Calls Try.prog 4 #[.int .u8 (da : Int), .int .u8 (dp : Int), .int .u8 (ds : Int)] w fun e w' => e = .returned (.bool true) ∧ Below w.heap.size w w' := by
  have HAW := Lib.hid geoAwake_any
  obtain ⟨d, hd⟩ : ∃ d : Int, 1 + (da : Int) % 8 = d := ⟨_, rfl⟩
  obtain ⟨p, hp⟩ : ∃ p : Int, 2 + (dp : Int) % 5 = p := ⟨_, rfl⟩
  obtain ⟨s, hs⟩ : ∃ s : Int, 1 + (ds : Int) % 8 = s := ⟨_, rfl⟩
  obtain ⟨W, hW⟩ : ∃ W : Nat, d + p = (W : Int) := ⟨(d + p).toNat, by omega⟩
  obtain ⟨S, hS⟩ : ∃ S : Nat, s = (S : Int) := ⟨s.toNat, by omega⟩
  have D : Dim ⟨d, p, s⟩ W S := ⟨⟨by show 1 ≤ d; omega, by show d ≤ 8; omega, by show 2 ≤ p; omega, by show p ≤ 6; omega, by show 1 ≤ s; omega, by show s ≤ 8; omega⟩, hW, hS⟩
  have HSs := Lib.hid hS
  have HW0 : Hid (0 < W) := Lib.hid (by have := D.W3; omega)
  have HS0 : Hid (0 < S) := Lib.hid (by have := D.S1; omega)
  obtain ⟨M, hM⟩ : ∃ M, M = W * S := ⟨_, rfl⟩
  have HMM := Lib.hid hM
  have HM112 : Hid (M ≤ 112) := Lib.hid (by have h := D.slot; have h2 := slot_le ⟨d, p, s⟩; rw [← hM] at h; omega)
  have HSEC : Hid (∀ (w1 : World) (a b c : Nat), a < 3 → b < S → c < W → Calls Try.prog 7 #[.agg #[.int .i64 d, .int .i64 p, .int .i64 s], .int .i64 (a : Int), .int .i64 (b : Int), .int .i64 (c : Int)] w1 fun e w' => e = .returned (.tuple #[.int .i64 ((a * (W * S) + c * S + b : Nat) : Int), .int .i64 0]) ∧ Below w1.heap.size w1 w') := Lib.hid fun w1 a b c q1 q2 q3 => by
    have h := sector_any ⟨d, p, s⟩ a b c w1
    rw [(sect_at D q1 q3 q2).1, (sect_at D q1 q3 q2).2] at h
    exact h
  have HOF : Hid (∀ (w1 : World) (a b c : Nat), a < 3 → b < S → c < W → Calls Try.prog 10 #[.agg #[.int .i64 d, .int .i64 p, .int .i64 s], .int .i64 ((a * (W * S) + c * S + b : Nat) : Int)] w1 fun e w' => e = .returned (.tuple #[.int .i64 (a : Int), .int .i64 (b : Int), .int .i64 (c : Int), .bool true]) ∧ Below w1.heap.size w1 w') := Lib.hid fun w1 a b c q1 q2 q3 => by
    have h := of_any ⟨d, p, s⟩ ((a * (W * S) + c * S + b : Nat) : Int) w1
    obtain ⟨x1, x2, x3, x4⟩ := of_at D q1 q3 q2
    rw [x1, x2, x3, x4] at h
    exact h
  have HHA : Hid (∀ (w1 : World) (h c : Nat), h < 2 → c < 2 → Calls Try.prog 8 #[.agg #[.int .i64 d, .int .i64 p, .int .i64 s], .int .i64 (h : Int), .int .i64 (c : Int)] w1 fun e w' => e = .returned (.tuple #[.int .i64 (3 * (M : Int) + ((h * 8 + c * 4 : Nat) : Int)), .int .i64 0]) ∧ Below w1.heap.size w1 w') := Lib.hid fun w1 x y q1 q2 => by
    have h := half_any ⟨d, p, s⟩ x y w1
    rw [(half_at D q1 q2).1, (half_at D q1 q2).2, ← hM] at h
    exact h
  have HTA : Hid (∀ (w1 : World) (h : Nat), h < 2 → Calls Try.prog 9 #[.agg #[.int .i64 d, .int .i64 p, .int .i64 s], .int .i64 (h : Int)] w1 fun e w' => e = .returned (.tuple #[.int .i64 (3 * (M : Int) + 16 + (h : Int)), .int .i64 0]) ∧ Below w1.heap.size w1 w') := Lib.hid fun w1 x q1 => by
    have h := tally_any ⟨d, p, s⟩ x w1
    rw [(tal_at D q1).1, (tal_at D q1).2, ← hM] at h
    exact h
  obtain ⟨N, hN⟩ : ∃ N, N = 3 * M + 18 := ⟨_, rfl⟩
  have HNM := Lib.hid hN
  have HAL : Hid (∀ (w1 : World), Calls Try.prog 15 #[.agg #[.int .i64 d, .int .i64 p, .int .i64 s]] w1 fun e w' => e = .returned (.int .i64 (N : Int)) ∧ Below w1.heap.size w1 w') := Lib.hid fun w1 => by
    have h := all_any ⟨d, p, s⟩ w1
    rw [all_at D, ← hM, show 3 * (M : Int) + 18 = (N : Int) from by omega] at h
    exact h
  have HWI : Hid (∀ (w1 : World), Calls Try.prog 17 #[.agg #[.int .i64 d, .int .i64 p, .int .i64 s]] w1 fun e w' => e = .returned (.int .i64 (W : Int)) ∧ Below w1.heap.size w1 w') := Lib.hid fun w1 => by
    have h := wide_any ⟨d, p, s⟩ w1
    rw [wide_yes ((right_iff _).2 D.r), D.w] at h
    exact h
  have HZ4 : Hid (∀ a b c : Nat, a < 3 → b < S → c < W → 0 ≤ ((a * (W * S) + c * S + b : Nat) : Int) ∧ ((a * (W * S) + c * S + b : Nat) : Int) < 400) := Lib.hid fun a b c q1 q2 q3 => by
    have := (vis_div q1 q3 q2).2.2.2
    have := HM112.out
    rw [← hM] at *
    omega
  have HCN : Hid (∀ a b c : Nat, a < 3 → b < S → c < W → a * M + b * W + c < 100000) := Lib.hid fun a b c q1 q2 q3 => by
    have x1 : a * M ≤ 3 * M := Nat.mul_le_mul_right _ (by omega)
    have x2 : b * W ≤ S * W := Nat.mul_le_mul_right _ (by omega)
    have x3 : W ≤ 14 := by have := D.r.d8; have := D.r.p6; have := D.w; omega
    rw [Nat.mul_comm S W, ← hM] at x2
    have := HM112.out
    omega
  have hW14 : (W : Int) ≤ 14 := by have := D.r.d8; have := D.r.p6; have := D.w; dsimp only at *; omega
  have hN4 : (N : Int) ≤ 400 := by have := HM112.out; omega
  have hdb : 1 ≤ d ∧ d ≤ 8 := by omega
  have hpb : 2 ≤ p ∧ p ≤ 6 := by omega
  have hsb : 1 ≤ s ∧ s ≤ 8 := by omega
  clear hM D hN hW hS
  have hmm := @run_makeMap Try.prog
  go_enter Try.func4, Try.ntmps4
  go_wp2_with (first
    | (go_at_call 6; (with_reducible refine (HAW.out w).mono ?_); rintro e w1 ⟨rfl, b1⟩; have B1 := Lib.hid b1; clear b1)
    | ((with_reducible refine wpAllocK [Value.int .i64 0, .int .i64 0, .int .i64 0] 23 zero_geo ?_ ?_); rfl; intro w2 r2 b2 s2; have R2 := Lib.hid r2; have B2 := Lib.hid (B1.out.next b2); clear r2 b2 s2)
    | ((with_reducible refine R2.out.wpStoreK 23 [Value.int .i64 d, .int .i64 p, .int .i64 s] fits_geo rfl rfl rfl ?_ ?_); rfl; intro wq r3 o3 s3; have RQ := Lib.hid r3; have BQ := Lib.hid (B2.out.trans (o3.below B1.out.size B2.out.size)); clear r3 o3 s3))
  have HGB : Hid (w1.heap.size < wq.heap.size) := Lib.hid RQ.out.lt
  have HB0 : Hid (Below wq.heap.size wq (wq.alloc (.map #[] 0))) := Lib.hid (alloc_below _ _)
  have HBQ : Hid (w.heap.size ≤ wq.heap.size) := Lib.hid BQ.out.size
  clear hd hp hs hmm
  have HSE0 : Hid (SeenG KI (wq.alloc (.map #[] 0)) wq.heap.size (0 * M) (vis W S 0 0 0)) := Lib.hid (by exact (SeenG.made wq).congr (by rw [Nat.zero_mul]) fun y _ => (vis_start W S y).symm)
  go_loopw [9] (fun x wr => ∃ a : Nat, a ≤ 3 ∧ x = .int .i64 a ∧ SeenG KI wr wq.heap.size (a * M) (vis W S a 0 0) ∧ Below wq.heap.size wq wr) (fun x _ => 3 - (intOf x).toNat)
  case atStart => exact ⟨0, Nat.zero_le _, rfl, HSE0.out, HB0.out⟩
  case round =>
    clear HSE0
    obtain ⟨a, ha, rfl, hse, hbw⟩ := hrel
    have RW := Lib.hid (RQ.out.below hbw HGB.out)
    have HSE := Lib.hid hse
    have HW := Lib.hid hbw
    clear hse hbw
    by_cases hlta : a < 3
    · have e1a : (a : Int) < 3 := by omega
      have HSE0 : Hid (SeenG KI wr wq.heap.size (a * M + 0 * W) (vis W S a 0 0)) := Lib.hid (HSE.out.congr (by rw [Nat.zero_mul]; rfl) fun _ _ => rfl)
      go_wp2
      go_loopw [10] (fun x wr => ∃ b : Nat, b ≤ S ∧ x = .int .i64 b ∧ SeenG KI wr wq.heap.size (a * M + b * W) (vis W S a b 0) ∧ Below wq.heap.size wq wr) (fun x _ => S - (intOf x).toNat)
      case atStart => exact ⟨0, Nat.zero_le _, rfl, HSE0.out, HW.out⟩
      case round =>
        clear HSE0 HSE HW RW
        obtain ⟨b, hb, rfl, hse, hbw⟩ := hrel
        have RW := Lib.hid (RQ.out.below hbw HGB.out)
        have HSE := Lib.hid hse
        have HW := Lib.hid hbw
        clear hse hbw
        by_cases hltb : b < S
        · have e1b : (b : Int) < S := by omega
          have e3b : (b : Int) < s := by have := HSs.out; omega
          have c2 := RW.out.cell 2
          have HSE0 : Hid (SeenG KI wr wq.heap.size (a * M + b * W + 0) (vis W S a b 0)) := Lib.hid (HSE.out.congr rfl fun _ _ => rfl)
          go_wp2
          go_loopw [11] (fun x wr => ∃ c : Nat, c ≤ W ∧ x = .int .i64 c ∧ SeenG KI wr wq.heap.size (a * M + b * W + c) (vis W S a b c) ∧ Below wq.heap.size wq wr) (fun x _ => W - (intOf x).toNat)
          case atStart => exact ⟨0, Nat.zero_le _, rfl, HSE0.out, HW.out⟩
          case round =>
            clear HSE0 HSE HW RW c2
            obtain ⟨c, hc, rfl, hse, hbw⟩ := hrel
            have RW := Lib.hid (RQ.out.below hbw HGB.out)
            have HSE := Lib.hid hse
            have HW := Lib.hid hbw
            clear hse hbw
            by_cases hltc : c < W
            · have e1c : (c : Int) < W := by omega
              obtain ⟨z, hz⟩ : ∃ z : Int, ((a * (W * S) + c * S + b : Nat) : Int) = z := ⟨_, rfl⟩
              have HSE1 : Hid (∀ (w1 : World), Calls Try.prog 7 #[.agg #[.int .i64 d, .int .i64 p, .int .i64 s], .int .i64 (a : Int), .int .i64 (b : Int), .int .i64 (c : Int)] w1 fun e w' => e = .returned (.tuple #[.int .i64 z, .int .i64 0]) ∧ Below w1.heap.size w1 w') := Lib.hid (by rw [← hz]; exact fun w1 => HSEC.out w1 a b c hlta hltb hltc)
              have HOF1 : Hid (∀ (w1 : World), Calls Try.prog 10 #[.agg #[.int .i64 d, .int .i64 p, .int .i64 s], .int .i64 z] w1 fun e w' => e = .returned (.tuple #[.int .i64 (a : Int), .int .i64 (b : Int), .int .i64 (c : Int), .bool true]) ∧ Below w1.heap.size w1 w') := Lib.hid (by rw [← hz]; exact fun w1 => HOF.out w1 a b c hlta hltb hltc)
              have hz4 : 0 ≤ z ∧ z < 400 := by rw [← hz]; exact HZ4.out a b c hlta hltb hltc
              have HOK : Hid (KI.ok z) := Lib.hid ⟨by omega, by omega⟩
              have HNEW : Hid (vis W S a b c z = false) := Lib.hid (by rw [← hz]; exact vis_new hlta hltc hltb)
              have HST : Hid (∀ y, vis W S a b (c + 1) y = (vis W S a b c y || decide (y = z))) := Lib.hid fun y => by rw [← hz]; exact vis_step hlta hltc hltb y
              have HN1 : Hid (a * M + b * W + c < 100000) := Lib.hid (HCN.out a b c hlta hltb hltc)
              clear hz hz4
              go_wp2_with (first
                | ((with_reducible refine RW.out.wpLoadK 23 fits_geo rfl ?_ ?_); rfl)
                | ((with_reducible refine R11.out.wpLoadK 23 fits_geo rfl ?_ ?_); rfl)
                | ((with_reducible refine R12.out.wpLoadK 23 fits_geo rfl ?_ ?_); rfl)
                | (go_at_call 17; (with_reducible refine (HWI.out wr).mono ?_); rintro e w11 ⟨rfl, b⟩; have R11 := Lib.hid (RW.out.step b); have S11 := Lib.hid (HSE.out.below b); have B11 := Lib.hid (HW.out.trans (b.mono HW.out.size)); clear b)
                | (go_at_call 7; (with_reducible refine (HSE1.out w11).mono ?_); rintro e w12 ⟨rfl, b⟩; have R12 := Lib.hid (R11.out.step b); have S12 := Lib.hid (S11.out.below b); have B12 := Lib.hid (B11.out.trans (b.mono B11.out.size)); clear b)
                | (go_at_call 10; (with_reducible refine (HOF1.out w12).mono ?_); rintro e w13 ⟨rfl, b⟩; have R13 := Lib.hid (R12.out.step b); have S13 := Lib.hid (S12.out.below b); have B13 := Lib.hid (B12.out.trans (b.mono B12.out.size)); have hlook : (Instr.lookup 48 (.map (some wq.heap.size)) (.int .i64 z) false).run Try.prog w13 = .ok (.bool false) w13 := (by have h := S13.out.look HOK.out; rw [HNEW.out] at h; exact h); clear b)
                | (at_mapUpdate; refine S13.out.wpPut HOK.out HNEW.out HN1.out rfl _ _ _ rfl rfl rfl rfl ?_; intro w20 s10 g10; have S10 := Lib.hid s10; have B10 := Lib.hid (B13.out.grown g10 B13.out.size (fun j hj => by cases hj; exact Nat.le_refl _)); clear s10 g10))
              go_roundw
              case rel => exact ⟨c + 1, by omega, by go_num, S10.out.congr (by omega) fun y _ => (HST.out y).symm, B10.out⟩
              case measure => simp [intOf]; omega
            · have hxc : c = W := by omega
              have e1c : ¬ (c : Int) < W := by omega
              have e2c : decide ((c : Int) < W) = false := decide_eq_false e1c
              have HXc := Lib.hid hxc
              clear hxc
              go_wp2_with (first
                | ((with_reducible refine RW.out.wpLoadK 23 fits_geo rfl ?_ ?_); rfl)
                | (go_at_call 17; (with_reducible refine (HWI.out wr).mono ?_); rintro e w11 ⟨rfl, b⟩; have R11 := Lib.hid (RW.out.step b); have S11 := Lib.hid (HSE.out.below b); have B11 := Lib.hid (HW.out.trans (b.mono HW.out.size)); clear b))
              go_roundw
              case rel => exact ⟨b + 1, by omega, by go_num, S11.out.congr (by rw [HXc.out, Nat.add_mul]; omega) fun y _ => by rw [HXc.out]; exact vis_c HW0.out HS0.out a b y, B11.out⟩
              case measure => simp [intOf]; omega
        · have hxb : b = S := by omega
          have e1b : ¬ (b : Int) < S := by omega
          have e2b : decide ((b : Int) < S) = false := decide_eq_false e1b
          have HXb := Lib.hid hxb
          clear hxb
          have e3b : ¬ (b : Int) < s := by have := HSs.out; omega
          have e4b : decide ((b : Int) < s) = false := decide_eq_false e3b
          have c2 := RW.out.cell 2
          go_wp2
          go_roundw
          case rel => exact ⟨a + 1, by omega, by go_num, HSE.out.congr (by rw [HXb.out, Nat.add_mul, HMM.out, Nat.one_mul, Nat.mul_comm S W]) fun y _ => by rw [HXb.out]; exact vis_b HS0.out a y, HW.out⟩
          case measure => simp [intOf]; omega
    · have hxa : a = 3 := by omega
      have e1a : ¬ (a : Int) < 3 := by omega
      have e2a : decide ((a : Int) < 3) = false := decide_eq_false e1a
      have HXa := Lib.hid hxa
      clear hxa
      have HSE0 : Hid (SeenG KI wr wq.heap.size (3 * M + (0 * 8 + 0 * 4) + 0) (vlg M (0 * 8 + 0 * 4) 0)) := Lib.hid (HSE.out.congr (by rw [HXa.out]; omega) fun y _ => by rw [HXa.out, vis_a HW0.out HS0.out, ← HMM.out])
      go_wp2
      go_loopw [18] (fun x wr => ∃ h : Nat, h ≤ 2 ∧ x = .int .i64 h ∧ SeenG KI wr wq.heap.size (3 * M + (h * 8 + 0 * 4) + h) (vlg M (h * 8 + 0 * 4) h) ∧ Below wq.heap.size wq wr) (fun x _ => 2 - (intOf x).toNat)
      case atStart => exact ⟨0, Nat.zero_le _, rfl, HSE0.out, HW.out⟩
      case round =>
        clear HSE0 HSE HW RW
        obtain ⟨h, hh, rfl, hse, hbw⟩ := hrel
        have RW := Lib.hid (RQ.out.below hbw HGB.out)
        have HSE := Lib.hid hse
        have HW := Lib.hid hbw
        clear hse hbw
        by_cases hlth : h < 2
        · have e1h : (h : Int) < 2 := by omega
          have HSE0 : Hid (SeenG KI wr wq.heap.size (3 * M + (h * 8 + 0 * 4) + h) (vlg M (h * 8 + 0 * 4) h)) := Lib.hid (HSE.out.congr rfl fun _ _ => rfl)
          go_wp2
          go_loopw [19] (fun x wr => ∃ c : Nat, c ≤ 2 ∧ x = .int .i64 c ∧ SeenG KI wr wq.heap.size (3 * M + (h * 8 + c * 4) + h) (vlg M (h * 8 + c * 4) h) ∧ Below wq.heap.size wq wr) (fun x _ => 2 - (intOf x).toNat)
          case atStart => exact ⟨0, Nat.zero_le _, rfl, HSE0.out, HW.out⟩
          case round =>
            clear HSE0 HSE HW RW
            obtain ⟨c, hc, rfl, hse, hbw⟩ := hrel
            have RW := Lib.hid (RQ.out.below hbw HGB.out)
            have HSE := Lib.hid hse
            have HW := Lib.hid hbw
            clear hse hbw
            by_cases hltc : c < 2
            · have e1c : (c : Int) < 2 := by omega
              obtain ⟨nb, hnb⟩ : ∃ z : Int, 3 * (M : Int) + ((h * 8 + c * 4 : Nat) : Int) = z := ⟨_, rfl⟩
              have HHA1 : Hid (∀ (w1 : World), Calls Try.prog 8 #[.agg #[.int .i64 d, .int .i64 p, .int .i64 s], .int .i64 (h : Int), .int .i64 (c : Int)] w1 fun e w' => e = .returned (.tuple #[.int .i64 nb, .int .i64 0]) ∧ Below w1.heap.size w1 w') := Lib.hid (by rw [← hnb]; exact fun w1 => HHA.out w1 h c hlth hltc)
              have HNB := Lib.hid hnb
              have hnb0 : 0 ≤ nb := by have := HM112.out; omega
              have hnb4 : nb ≤ 390 := by have := HM112.out; omega
              clear hnb
              go_wp2_with (first
                | ((with_reducible refine RW.out.wpLoadK 23 fits_geo rfl ?_ ?_); rfl)
                | (go_at_call 8; (with_reducible refine (HHA1.out wr).mono ?_); rintro e w12 ⟨rfl, b⟩; have R12 := Lib.hid (RW.out.step b); have S12 := Lib.hid (HSE.out.below b); have B12 := Lib.hid (HW.out.trans (b.mono HW.out.size)); clear b))
              have HSE0 : Hid (SeenG KI w12 wq.heap.size (3 * M + (h * 8 + c * 4 + 0) + h) (vlg M (h * 8 + c * 4 + 0) h)) := Lib.hid (S12.out.congr rfl fun _ _ => rfl)
              go_wp2
              go_loopw [22] (fun x wr => ∃ i : Nat, i ≤ 4 ∧ x = .int .i64 i ∧ SeenG KI wr wq.heap.size (3 * M + (h * 8 + c * 4 + i) + h) (vlg M (h * 8 + c * 4 + i) h) ∧ Below wq.heap.size wq wr) (fun x _ => 4 - (intOf x).toNat)
              case atStart => exact ⟨0, Nat.zero_le _, rfl, HSE0.out, B12.out⟩
              case round =>
                clear HSE0 HSE HW RW S12 B12 R12
                obtain ⟨i, hi, rfl, hse, hbw⟩ := hrel
                have RW := Lib.hid (RQ.out.below hbw HGB.out)
                have HSE := Lib.hid hse
                have HW := Lib.hid hbw
                clear hse hbw
                by_cases hlti : i < 4
                · have e1i : (i : Int) < 4 := by omega
                  obtain ⟨z, hz⟩ : ∃ z : Int, nb + (i : Int) = z := ⟨_, rfl⟩
                  have hz4 : 0 ≤ z ∧ z < 400 := by omega
                  have HOK : Hid (KI.ok z) := Lib.hid ⟨by omega, by omega⟩
                  have HZ : Hid (z = 3 * (M : Int) + ((h * 8 + c * 4 + i : Nat) : Int)) := Lib.hid (by have := HNB.out; omega)
                  have HNEW : Hid (vlg M (h * 8 + c * 4 + i) h z = false) := Lib.hid (by rw [HZ.out]; exact vlg_qnew (by omega))
                  have HST : Hid (∀ y, vlg M (h * 8 + c * 4 + (i + 1)) h y = (vlg M (h * 8 + c * 4 + i) h y || decide (y = z))) := Lib.hid fun y => by rw [HZ.out, ← Nat.add_assoc]; exact vlg_q (by omega) y
                  have HN1 : Hid (3 * M + (h * 8 + c * 4 + i) + h < 100000) := Lib.hid (by have := HM112.out; omega)
                  have RW2 := Lib.hid RW.out
                  have hlook : (Instr.lookup 48 (.map (some wq.heap.size)) (.int .i64 z) false).run Try.prog wr = .ok (.bool false) wr := (by have h := HSE.out.look HOK.out; rw [HNEW.out] at h; exact h)
                  go_wp2_with (first
                    | (at_mapUpdate; refine HSE.out.wpPut HOK.out HNEW.out HN1.out rfl _ _ _ rfl rfl rfl rfl ?_; intro w20 s10 g10; have S10 := Lib.hid s10; have B10 := Lib.hid (HW.out.grown g10 HW.out.size (fun j hj => by cases hj; exact Nat.le_refl _)); clear s10 g10))
                  go_roundw
                  case rel => exact ⟨i + 1, by omega, by go_num, S10.out.congr (by omega) fun y _ => (HST.out y).symm, B10.out⟩
                  case measure => simp [intOf]; omega
                · have hxi : i = 4 := by omega
                  have e1i : ¬ (i : Int) < 4 := by omega
                  have e2i : decide ((i : Int) < 4) = false := decide_eq_false e1i
                  have HXi := Lib.hid hxi
                  clear hxi
                  go_wp2
                  go_roundw
                  case rel => exact ⟨c + 1, by omega, by go_num, HSE.out.congr (by rw [HXi.out]; omega) fun y _ => by rw [HXi.out, show h * 8 + c * 4 + 4 = h * 8 + (c + 1) * 4 from by omega], HW.out⟩
                  case measure => simp [intOf]; omega
            · have hxc : c = 2 := by omega
              have e1c : ¬ (c : Int) < 2 := by omega
              have e2c : decide ((c : Int) < 2) = false := decide_eq_false e1c
              have HXc := Lib.hid hxc
              clear hxc
              obtain ⟨z, hz⟩ : ∃ z : Int, 3 * (M : Int) + 16 + (h : Int) = z := ⟨_, rfl⟩
              have HTA1 : Hid (∀ (w1 : World), Calls Try.prog 9 #[.agg #[.int .i64 d, .int .i64 p, .int .i64 s], .int .i64 (h : Int)] w1 fun e w' => e = .returned (.tuple #[.int .i64 z, .int .i64 0]) ∧ Below w1.heap.size w1 w') := Lib.hid (by rw [← hz]; exact fun w1 => HTA.out w1 h hlth)
              have hz4 : 0 ≤ z ∧ z < 400 := by have := HM112.out; omega
              have HOK : Hid (KI.ok z) := Lib.hid ⟨by omega, by omega⟩
              have HQ : Hid (h * 8 + c * 4 = h * 8 + 8) := Lib.hid (by have := HXc.out; omega)
              have HNEW : Hid (vlg M (h * 8 + c * 4) h z = false) := Lib.hid (by rw [← hz]; exact vlg_hnew (by have := HXc.out; omega))
              have HST : Hid (∀ y, vlg M ((h + 1) * 8 + 0 * 4) (h + 1) y = (vlg M (h * 8 + c * 4) h y || decide (y = z))) := Lib.hid fun y => by rw [← hz, HQ.out, show (h + 1) * 8 + 0 * 4 = h * 8 + 8 from by omega]; exact vlg_h y
              have HN1 : Hid (3 * M + (h * 8 + c * 4) + h < 100000) := Lib.hid (by have := HM112.out; have := HQ.out; omega)
              clear hz hz4
              go_wp2_with (first
                | ((with_reducible refine RW.out.wpLoadK 23 fits_geo rfl ?_ ?_); rfl)
                | (go_at_call 9; (with_reducible refine (HTA1.out wr).mono ?_); rintro e w12 ⟨rfl, b⟩; have R12 := Lib.hid (RW.out.step b); have S12 := Lib.hid (HSE.out.below b); have B12 := Lib.hid (HW.out.trans (b.mono HW.out.size)); have hlook : (Instr.lookup 48 (.map (some wq.heap.size)) (.int .i64 z) false).run Try.prog w12 = .ok (.bool false) w12 := (by have h := S12.out.look HOK.out; rw [HNEW.out] at h; exact h); clear b)
                | (at_mapUpdate; refine S12.out.wpPut HOK.out HNEW.out HN1.out rfl _ _ _ rfl rfl rfl rfl ?_; intro w20 s10 g10; have S10 := Lib.hid s10; have B10 := Lib.hid (B12.out.grown g10 B12.out.size (fun j hj => by cases hj; exact Nat.le_refl _)); clear s10 g10))
              go_roundw
              case rel => exact ⟨h + 1, by omega, by go_num, S10.out.congr (by have := HQ.out; omega) fun y _ => (HST.out y).symm, B10.out⟩
              case measure => simp [intOf]; omega
        · have hxh : h = 2 := by omega
          have e1h : ¬ (h : Int) < 2 := by omega
          have e2h : decide ((h : Int) < 2) = false := decide_eq_false e1h
          have HXh := Lib.hid hxh
          clear hxh
          have HSE0 : Hid (SeenG KI wr wq.heap.size (N) (vlg M 16 2)) := Lib.hid (HSE.out.congr (by have := HXh.out; have := HNM.out; omega) fun y _ => by rw [HXh.out])
          go_wp2
          go_loopw [25] (fun x wr => ∃ z : Nat, z ≤ N ∧ x = .int .i64 z ∧ SeenG KI wr wq.heap.size (N) (vlg M 16 2) ∧ Below wq.heap.size wq wr) (fun x _ => N - (intOf x).toNat)
          case atStart => exact ⟨0, Nat.zero_le _, rfl, HSE0.out, HW.out⟩
          case round =>
            clear HSE0 HSE HW RW
            obtain ⟨z, hz, rfl, hse, hbw⟩ := hrel
            have RW := Lib.hid (RQ.out.below hbw HGB.out)
            have HSE := Lib.hid hse
            have HW := Lib.hid hbw
            clear hse hbw
            by_cases hltz : z < N
            · have e1z : (z : Int) < N := by omega
              have HOK : Hid (KI.ok (z : Int)) := Lib.hid ⟨by omega, by have := HNM.out; have := HM112.out; show (z : Int) < _; omega⟩
              have HALLZ : Hid (vlg M 16 2 (z : Int) = true) := Lib.hid (vlg_all (by omega) (by have := HNM.out; omega))
              go_wp2_with (first
                | ((with_reducible refine RW.out.wpLoadK 23 fits_geo rfl ?_ ?_); rfl)
                | (go_at_call 15; (with_reducible refine (HAL.out wr).mono ?_); rintro e w12 ⟨rfl, b⟩; have R12 := Lib.hid (RW.out.step b); have S12 := Lib.hid (HSE.out.below b); have B12 := Lib.hid (HW.out.trans (b.mono HW.out.size)); have hlook : (Instr.lookup 48 (.map (some wq.heap.size)) (.int .i64 (z : Int)) false).run Try.prog w12 = .ok (.bool true) w12 := (by have h := S12.out.look HOK.out; rw [HALLZ.out] at h; exact h); clear b))
              go_roundw
              case rel => exact ⟨z + 1, by omega, by go_num, S12.out, B12.out⟩
              case measure => simp [intOf]; omega
            · have hxz : z = N := by omega
              have e1z : ¬ (z : Int) < N := by omega
              have e2z : decide ((z : Int) < N) = false := decide_eq_false e1z
              have HXz := Lib.hid hxz
              clear hxz
              have hN5 : (N : Int) ≤ 512 := by have := HNM.out; have := HM112.out; omega
              have HCNT : Hid (3 * M + 16 + 2 = N) := Lib.hid (by have := HNM.out; omega)
              go_wp2_with (first
                | ((with_reducible refine RW.out.wpLoadK 23 fits_geo rfl ?_ ?_); rfl)
                | ((with_reducible refine R12.out.wpLoadK 23 fits_geo rfl ?_ ?_); rfl)
                | (go_at_call 15; (with_reducible refine (HAL.out wr).mono ?_); rintro e w12 ⟨rfl, b⟩; have R12 := Lib.hid (RW.out.step b); have hlen := fun ty => (HSE.out.below b).len (T := 48) ty; have BB := Lib.hid b; clear b)
                | (go_at_call 15; (with_reducible refine (HAL.out w12).mono ?_); rintro e w13 ⟨rfl, b⟩; have R13 := Lib.hid (R12.out.step b); have hlen := fun ty => (HSE.out.below (BB.out.next b)).len (T := 48) ty; have B13 := Lib.hid (BB.out.next b); have k0 := R13.out.cell 0; have k1 := R13.out.cell 1; have k2 := R13.out.cell 2; clear b)
                | (go_at_call 15; (with_reducible refine (HAL.out w13).mono ?_); rintro e w14 ⟨rfl, b⟩; have BB := Lib.hid (B13.out.next b); clear b))
              go_ret
              exact ⟨rfl, BQ.out.trans ((HW.out.trans (BB.out.mono HW.out.size)).mono HBQ.out)⟩
end Go.Proofs.Ytiakbdekleaaoaa
