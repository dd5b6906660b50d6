/- Map. -/
import Derived.Test.YtiakbdekleaaoaaDoorGeoU
namespace Go.Proofs.YtiakbdekleaaoaaDoor
open Go.RowKit GeoMath
set_option linter.unusedVariables false
set_option maxRecDepth 100000

theorem logLines16 (w : World) : Calls Tryd.prog 14 #[] w fun e w' => (∃ a c, e = .returned (.slice a 16 c) ∧ Lies w' w'.heap.size a (strs (lgs 16))) ∧ Below w.heap.size w w' := (logLines_any w).mono fun e w' h => by
  obtain ⟨⟨v, h1, h2⟩, h3⟩ := h
  obtain ⟨a, c, rfl, hl⟩ := own_form h2
  exact ⟨⟨a, c, h1, hl⟩, h3⟩
theorem tallyLines2 (w : World) : Calls Tryd.prog 15 #[] w fun e w' => (∃ a c, e = .returned (.slice a 2 c) ∧ Lies w' w'.heap.size a (strs (tls 2))) ∧ Below w.heap.size w w' := (tallyLines_any w).mono fun e w' h => by
  obtain ⟨⟨v, h1, h2⟩, h3⟩ := h
  obtain ⟨a, c, rfl, hl⟩ := own_form h2
  exact ⟨⟨a, c, h1, hl⟩, h3⟩
theorem map_no (d p s : Int) (w : World) (hr : right ⟨d, p, s⟩ = false) : Calls Tryd.prog 5 #[.agg #[.int .i64 d, .int .i64 p, .int .i64 s]] w fun e w' => e = .returned (.slice none 0 0) ∧ Below w.heap.size w w' := by
  have HX : Hid (∀ w1, Calls Tryd.prog 10 #[.agg #[.int .i64 d, .int .i64 p, .int .i64 s]] w1 fun e w' => e = .returned (.bool false) ∧ Below w1.heap.size w1 w') := Lib.hid fun w1 => (right_any ⟨d, p, s⟩ w1).mono fun e w' h => by rw [hr] at h; exact h
  clear hr
  go_enter Tryd.func5, Tryd.ntmps5
  go_wp2_with (first
    | ((with_reducible refine wpBoxK [Value.int .i64 d, .int .i64 p, .int .i64 s] 23 ?_ ?_); rfl; intro w1 r1 b1 s1; have R1 := Lib.hid r1; have B1 := Lib.hid b1; clear r1 b1 s1)
    | ((with_reducible refine R1.out.wpLoadK 23 fits_geo rfl ?_ ?_); rfl)
    | (go_at_call 10; (with_reducible refine (HX.out w1).mono ?_); rintro e u1 ⟨rfl, b2⟩; have B2 := Lib.hid (B1.out.next b2); clear b2))
  go_ret
  exact ⟨rfl, B2.out⟩
theorem line_at {d p s : Int} {W S : Nat} (D : Dim ⟨d, p, s⟩ W S) {k : Nat} (hk : k < 3 * (W * S)) (w : World) :
    Calls Tryd.prog 13 #[.agg #[.int .i64 d, .int .i64 p, .int .i64 s], .int .i64 (k : Int)] w fun e w' => e = .returned (.string (txt d (pl W S k))) ∧ Below w.heap.size w w' := by
  have hS := D.S1
  have hW := D.W3
  have hp : 0 < W * S := Nat.mul_pos (by omega) (by omega)
  have e1 := Nat.div_add_mod k (W * S)
  have e2 := Nat.div_add_mod (k % (W * S)) S
  have l1 : k / (W * S) < 3 := Nat.div_lt_of_lt_mul (by rw [Nat.mul_comm]; exact hk)
  have l2 : k % (W * S) / S < W := Nat.div_lt_of_lt_mul (by rw [Nat.mul_comm S W]; exact Nat.mod_lt _ hp)
  have l3 : k % (W * S) % S < S := Nat.mod_lt _ (by omega)
  have e3 : k / (W * S) * (W * S) + k % (W * S) / S * S + k % (W * S) % S = k := by
    rw [Nat.mul_comm (k / (W * S)), Nat.mul_comm (k % (W * S) / S), Nat.add_assoc, e2, e1]
  have h := line_any d p s W S D _ _ _ w l1 l2 l3
  rw [e3, ← txt_slot d hk] at h
  exact h
set_option maxHeartbeats 4000000 in
theorem map_yes (d p s : Int) (W S : Nat) (D : Dim ⟨d, p, s⟩ W S) (w : World) : Calls Tryd.prog 5 #[.agg #[.int .i64 d, .int .i64 p, .int .i64 s]] w fun e w' =>
    (∃ a c, e = .returned (.slice a (cnt W S) c) ∧ Lies w' w'.heap.size a (strs (txs d W S (cnt W S)))) ∧ Below w.heap.size w w' := by
  have hr := (right_iff ⟨d, p, s⟩).2 D.r
  have HX : Hid (∀ w1, Calls Tryd.prog 10 #[.agg #[.int .i64 d, .int .i64 p, .int .i64 s]] w1 fun e w' => e = .returned (.bool true) ∧ Below w1.heap.size w1 w') := Lib.hid fun w1 => (right_any ⟨d, p, s⟩ w1).mono fun e w' h => by rw [hr] at h; exact h
  obtain ⟨M, hM⟩ : ∃ M, M = 3 * (W * S) := ⟨_, rfl⟩
  have HM := Lib.hid hM
  have HG : Hid (∀ w1, Calls Tryd.prog 12 #[.agg #[.int .i64 d, .int .i64 p, .int .i64 s]] w1 fun e w' => e = .returned (.int .i64 (M : Int)) ∧ Below w1.heap.size w1 w') := Lib.hid fun w1 => (log_any ⟨d, p, s⟩ w1).mono fun e w' h => by
    rw [log, D.slot, show 3 * ((W * S : Nat) : Int) = (M : Int) from by omega] at h
    exact h
  have hM4 : M ≤ 336 := by
    have h1 := D.slot
    have h2 := slot_le ⟨d, p, s⟩
    omega
  have HLI : Hid (∀ (k : Nat) w1, k < M → Calls Tryd.prog 13 #[.agg #[.int .i64 d, .int .i64 p, .int .i64 s], .int .i64 (k : Int)] w1 fun e w' => e = .returned (.string (txt d (pl W S k))) ∧ Below w1.heap.size w1 w') := Lib.hid fun k w1 h => line_at D (by omega) w1
  have HLL := Lib.hid logLines16
  have HTL := Lib.hid tallyLines2
  have HFIN : Hid (strs (txs d W S M) ++ strs (lgs 16) ++ strs (tls 2) = strs (txs d W S (cnt W S)) ∧ M + 16 + 2 = cnt W S) := Lib.hid (by
    refine ⟨?_, by rw [cnt]; omega⟩
    rw [txs_tal, txs_log d W S 16 (by omega), ← hM]
    simp only [strs, List.map_append]
    rfl)
  clear hr D hM
  go_enter Tryd.func5, Tryd.ntmps5
  go_wp2_with (first
    | ((with_reducible refine wpBoxK [Value.int .i64 d, .int .i64 p, .int .i64 s] 23 ?_ ?_); rfl; intro w1 r1 b1 s1; have R1 := Lib.hid r1; have B1 := Lib.hid b1; clear r1 b1 s1)
    | ((with_reducible refine R1.out.wpLoadK 23 fits_geo rfl ?_ ?_); rfl)
    | ((with_reducible refine R2.out.wpLoadK 23 fits_geo rfl ?_ ?_); rfl)
    | (go_at_call 10; (with_reducible refine (HX.out w1).mono ?_); rintro e w2 ⟨rfl, b2⟩; have R2 := Lib.hid (R1.out.step b2); have B2 := Lib.hid (B1.out.next b2); clear b2)
    | (go_at_call 12; (with_reducible refine (HG.out w2).mono ?_); rintro e w3 ⟨rfl, b3⟩; have R3 := Lib.hid (R2.out.step b3); have B3 := Lib.hid (B2.out.next b3); clear b3))
  go_loopw [3, 10] (fun v i wr => ∃ k : Nat, k ≤ M ∧ i = .int .i64 k ∧ wr.ownsRow w3.heap.size 9 1 v k (strs (txs d W S k)) ∧ Below w3.heap.size w3 wr) (fun _ i _ => M - (intOf i).toNat)
  case atStart => exact ⟨0, Nat.zero_le _, rfl, ⟨rfl, .inl ⟨rfl, rfl⟩⟩, Below.refl _ _⟩
  case round =>
    obtain ⟨k, hk, rfl, hown, hbw⟩ := hrel
    have RW := Lib.hid (R3.out.step hbw)
    have HOWN := Lib.hid hown
    have HBW := Lib.hid hbw
    clear hown hbw
    by_cases hlt : k < M
    · have e1 : (k : Int) < (M : Int) := by omega
      have HL1 := Lib.hid fun w1 => HLI.out k w1 hlt
      have HST : Hid (strs (txs d W S (k + 1)) = strs (txs d W S k) ++ [.string (txt d (pl W S k))]) := Lib.hid (by rw [txs_succ, strs, List.map_append]; rfl)
      generalize txt d (pl W S k) = T at HL1 HST
      have HO1 : Hid ((Value.string T).oneCell' = true) := Lib.hid rfl
      have HPK : Big (k + 1 ≤ 1099511627776) := ⟨by omega⟩
      have HOL : Hid (∀ j, u3.ownBlock = some j → w3.heap.size ≤ j) := Lib.hid fun j hj => (HOWN.out.lt j hj).1
      go_wp2_with (first
        | ((with_reducible refine RW.out.wpLoadK 23 fits_geo rfl ?_ ?_); rfl)
        | (go_at_call 13; (with_reducible refine (HL1.out wr).mono ?_); rintro e w5 ⟨rfl, b5⟩; have HOW2 := Lib.hid ((own_below HOWN.out b5).alloc (.cells #[.string T] 9)); have HB5 := Lib.hid (HBW.out.next b5); have HB6 := Lib.hid (HB5.out.alloc HB5.out.size (.cells #[.string T] 9)); have HL2 : Hid (Lies (w5.alloc (.cells #[.string T] 9)) (w5.alloc (.cells #[.string T] 9)).heap.size (some ⟨w5.heap.size, 0, none⟩) [.string T]) := Lib.hid (Lies.new _ _ _); have HZ2 := Lib.hid HB6.out.size; clear b5)
        | ((with_reducible refine wpAppend1K HOW2.out Tryd.underlying25 one_string HL2.out HO1.out HPK HZ2.out ?_ ?_); rfl; intro v1 w7 g1 g2 g3; have HV1 := Lib.hid g1; have HG1 := Lib.hid g2; clear g1 g2 g3))
      go_roundw
      case rel => exact ⟨k + 1, by omega, by go_num, by rw [HST.out]; exact HV1.out, HB6.out.grown HG1.out HB6.out.size HOL.out⟩
      case measure => simp [intOf]; omega
    · have hkM : k = M := by omega
      have e1 : ¬ (k : Int) < (M : Int) := by omega
      rw [hkM] at HOWN
      clear hkM
      have HPK : Big (M + 16 ≤ 1099511627776) := ⟨by omega⟩
      have HPK2 : Big (M + 16 + 2 ≤ 1099511627776) := ⟨by omega⟩
      have HOL : Hid (∀ j, u3.ownBlock = some j → w3.heap.size ≤ j) := Lib.hid fun j hj => (HOWN.out.lt j hj).1
      have HLL1 : Hid ((strs (lgs 16)).length = 16 * 1) := Lib.hid (by rw [strs_length, lgs_length])
      have HTL1 : Hid ((strs (tls 2)).length = 2 * 1) := Lib.hid rfl
      have HA1 : Hid ((strs (lgs 16)).all (·.oneCell') = true) := Lib.hid (by simp [strs, Value.oneCell'])
      have HA2 : Hid ((strs (tls 2)).all (·.oneCell') = true) := Lib.hid (by simp [strs, Value.oneCell'])
      go_wp2_with (first
        | (go_at_call 14; (with_reducible refine (HLL.out wr).mono ?_); rintro e w5 ⟨⟨la, lc, rfl, hl⟩, b5⟩; have HL5 := Lib.hid hl; have HO5 := Lib.hid (own_below HOWN.out b5); have HB5 := Lib.hid (HBW.out.next b5); have HZ5 := Lib.hid HB5.out.size; clear hl b5)
        | ((with_reducible refine wpAppendK lc HO5.out Tryd.underlying25 one_string HL5.out HLL1.out (by decide) HA1.out HPK HZ5.out ?_ ?_); rfl; intro v1 w7 g1 g2 g3; have HV1 := Lib.hid g1; have HB7 := Lib.hid (HB5.out.grown g2 HB5.out.size HOL.out); have HOL1 : Hid (∀ j, v1.ownBlock = some j → w3.heap.size ≤ j) := Lib.hid (fun j hj => (HV1.out.lt j hj).1); clear g1 g2 g3)
        | (go_at_call 15; (with_reducible refine (HTL.out w7).mono ?_); rintro e w8 ⟨⟨ta, tc, rfl, hl⟩, b8⟩; have HL8 := Lib.hid hl; have HO8 := Lib.hid (own_below HV1.out b8); have HB8 := Lib.hid (HB7.out.next b8); have HZ8 := Lib.hid HB8.out.size; clear hl b8)
        | ((with_reducible refine wpAppendK tc HO8.out Tryd.underlying25 one_string HL8.out HTL1.out (by decide) HA2.out HPK2 HZ8.out ?_ ?_); rfl; intro v2 w9 g1 g2 g3; have HV2 := Lib.hid g1; have HB9 := Lib.hid (HB8.out.grown g2 HB8.out.size HOL1.out); clear g1 g2 g3))
      go_ret
      have hv := HV2.out
      rw [HFIN.out.1, HFIN.out.2] at hv
      obtain ⟨a9, c9, e9, hl9⟩ := own_form hv
      exact ⟨⟨a9, c9, by rw [← e9]; rfl, hl9⟩, B3.out.trans (HB9.out.mono B3.out.size)⟩
end Go.Proofs.YtiakbdekleaaoaaDoor
