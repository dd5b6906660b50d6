/- The document's List of all sectors. -/
import Derived.Test.YtiakbdekleaaoaaDoorGeoB
import Derived.Test.YtiakbdekleaaoaaDoorGeoMath2
import Derived.Test.YtiakbdekleaaoaaDoorSliceM
namespace Go.Proofs.YtiakbdekleaaoaaDoor
open Go.RowKit GeoMath
set_option linter.unusedVariables false
set_option maxRecDepth 100000

def plv (p : Pl) : List Value := [.int .i64 p.w, .int .i64 p.a, .int .i64 p.b, .int .i64 p.c]
/-- The cells of a list of places. -/
def plc (W S n : Nat) : List Value := (pls W S n).flatMap plv
theorem plc_step (W S n : Nat) : plc W S (n + 1) = plc W S n ++ plv (pl W S n) := by rw [plc, pls, List.flatMap_append, plc]; simp
theorem many_place : Many Tryd.prog 34 4 := Many.of (by kernel_rfl)
theorem fits_rgeo : Fits Tryd.prog 28 3 := ⟨⟨_, Tryd.underlying28, rfl⟩, by kernel_rfl⟩
theorem own_nilM {w : World} {T : TypeId} {s : Nat} : (w.alloc (.cells #[] T)).ownsRow w.heap.size T s (.slice (some ⟨w.heap.size, 0, none⟩) 0 0) 0 [] :=
  Row.ownsM (xs := []) (ys := []) (Row.new w T []) (Nat.le_refl _) (by simp) (by simp) (Nat.le_refl _) (by unfold maxLen; omega)

theorem own_mono {w : World} {B B' s : Nat} {e : TypeId} {v : Value} {n : Nat} {xs : List Value} (h : w.ownsRow B' e s v n xs) (hb : B ≤ B') : w.ownsRow B e s v n xs := by
  refine ⟨h.1, ?_⟩
  rcases h.2 with h | ⟨g, cap, cur, h1, h2, h3⟩
  · exact .inl h
  · exact .inr ⟨g, cap, cur, h1, Nat.le_trans hb h2, h3⟩

set_option maxHeartbeats 4000000 in
theorem list_any (W S : Nat) (d p : Int) (w : World) (hdp : d + p = (W : Int)) (hd1 : 1 ≤ d) (hd8 : d ≤ 8) (hp2 : 2 ≤ p) (hp6 : p ≤ 6) (hS1 : 1 ≤ S) (hS8 : S ≤ 8) :
    Calls Tryd.prog 7 #[.agg #[.int .i64 d, .int .i64 p, .int .i64 (S : Int)]] w fun e w' => (∃ v, e = .returned v ∧ w'.ownsRow w.heap.size 34 4 v (cnt W S) (plc W S (cnt W S))) ∧ Below w.heap.size w w' := by
  have hW3 : 3 ≤ W := by omega
  have hW14 : W ≤ 14 := by omega
  obtain ⟨M, hM⟩ : ∃ M, M = W * S := ⟨_, rfl⟩
  have hM1 : M ≤ 112 := by
    rw [hM]
    have := Nat.mul_le_mul hW14 hS8
    omega
  have HM := Lib.hid hM
  clear hM
  go_enter Tryd.func7, Tryd.ntmps7
  go_wp2_with ((with_reducible refine wpBoxK [Value.int .i64 d, .int .i64 p, .int .i64 (S : Int)] 28 ?_ ?_); rfl; intro w1 r1 b1 s1; have R1 := Lib.hid r1; have B1 := Lib.hid b1; clear r1 b1 s1)
  have H0 : Hid ((w1.alloc (.cells #[] 34)).ownsRow w1.heap.size 34 4 (.slice (some ⟨w1.heap.size, 0, none⟩) 0 0) (0 * M) (plc W S (0 * M))) := Lib.hid (by rw [Nat.zero_mul]; exact own_nilM)
  go_loopw [3, 4] (fun v i wr => ∃ k1 : Nat, k1 ≤ 3 ∧ i = .int .i64 k1 ∧ wr.ownsRow w1.heap.size 34 4 v (k1 * M) (plc W S (k1 * M)) ∧ Below w1.heap.size w1 wr) (fun _ i _ => 3 - (intOf i).toNat)
  case atStart => exact ⟨0, Nat.zero_le _, rfl, H0.out, alloc_below _ _⟩
  case round =>
    clear H0
    obtain ⟨k1, hk1, rfl, hown, hbw⟩ := hrel
    have HOWN := Lib.hid hown
    have HBW := Lib.hid hbw
    clear hown hbw
    by_cases hlt1 : k1 < 3
    · have e1 : (k1 : Int) < 3 := by omega
      have H0 : Hid (wr.ownsRow w1.heap.size 34 4 u3 (k1 * M + 0 * S) (plc W S (k1 * M + 0 * S))) := Lib.hid (by rw [Nat.zero_mul]; exact HOWN.out)
      go_wp2
      go_loopw [3, 5] (fun v i wr => ∃ k2 : Nat, k2 ≤ W ∧ i = .int .i64 k2 ∧ wr.ownsRow w1.heap.size 34 4 v (k1 * M + k2 * S) (plc W S (k1 * M + k2 * S)) ∧ Below w1.heap.size w1 wr) (fun _ i _ => W - (intOf i).toNat)
      case atStart => exact ⟨0, Nat.zero_le _, rfl, H0.out, HBW.out⟩
      case round =>
        clear H0 HOWN HBW
        obtain ⟨k2, hk2, rfl, hown, hbw⟩ := hrel
        have HOWN := Lib.hid hown
        have HBW := Lib.hid hbw
        have RR := R1.out.step hbw
        have c0 := RR.cell 0
        have c1 := RR.cell 1
        clear hown hbw RR
        by_cases hlt2 : k2 < W
        · have e2 : (k2 : Int) < (W : Int) := by omega
          have H0 : Hid (wr.ownsRow w1.heap.size 34 4 u3 (k1 * M + k2 * S + 0) (plc W S (k1 * M + k2 * S + 0))) := Lib.hid HOWN.out
          go_wp2
          go_loopw [3, 6] (fun v i wr => ∃ k3 : Nat, k3 ≤ S ∧ i = .int .i64 k3 ∧ wr.ownsRow w1.heap.size 34 4 v (k1 * M + k2 * S + k3) (plc W S (k1 * M + k2 * S + k3)) ∧ Below w1.heap.size w1 wr) (fun _ i _ => S - (intOf i).toNat)
          case atStart => exact ⟨0, Nat.zero_le _, rfl, H0.out, HBW.out⟩
          case round =>
            clear H0 HOWN HBW c0 c1
            obtain ⟨k3, hk3, rfl, hown, hbw⟩ := hrel
            have HOWN := Lib.hid hown
            have HBW := Lib.hid hbw
            have RR := R1.out.step hbw
            have c2 := RR.cell 2
            clear hown hbw RR
            by_cases hlt3 : k3 < S
            · have e3 : (k3 : Int) < (S : Int) := by omega
              obtain ⟨n, hn⟩ : ∃ n, k1 * M + k2 * S + k3 = n := ⟨_, rfl⟩
              have HPL : Hid (pl W S n = ⟨0, (k1 : Int), (k3 : Int), (k2 : Int)⟩) := Lib.hid (by rw [← hn, HM.out]; exact pl_slot hlt1 hlt2 hlt3)
              have HN := Lib.hid hn
              have hn4 : n ≤ 400 := by
                rw [← hn]
                have h1 : (k1 + 1) * M ≤ 3 * M := Nat.mul_le_mul_right _ hlt1
                have h2 : k2 * S + k3 ≤ M := by
                  rw [HM.out]
                  have : (k2 + 1) * S ≤ W * S := Nat.mul_le_mul_right _ hlt2
                  rw [Nat.add_mul] at this
                  omega
                rw [Nat.add_mul] at h1
                omega
              rw [hn] at HOWN
              clear hn
              have HOW2 := Lib.hid (HOWN.out.alloc (.cells #[.int .i64 0, .int .i64 (k1 : Int), .int .i64 (k3 : Int), .int .i64 (k2 : Int)] 34))
              have HL2 : Hid (Lies (wr.alloc (.cells #[.int .i64 0, .int .i64 (k1 : Int), .int .i64 (k3 : Int), .int .i64 (k2 : Int)] 34)) (wr.alloc (.cells #[.int .i64 0, .int .i64 (k1 : Int), .int .i64 (k3 : Int), .int .i64 (k2 : Int)] 34)).heap.size (some ⟨wr.heap.size, 0, none⟩) [.int .i64 0, .int .i64 (k1 : Int), .int .i64 (k3 : Int), .int .i64 (k2 : Int)]) := Lib.hid (Lies.new _ _ _)
              have HBW2 := Lib.hid (HBW.out.alloc HBW.out.size (.cells #[.int .i64 0, .int .i64 (k1 : Int), .int .i64 (k3 : Int), .int .i64 (k2 : Int)] 34))
              have HPK : Big (n + 1 ≤ 1099511627776) := ⟨by omega⟩
              have HOL : Hid (∀ j, u3.ownBlock = some j → w1.heap.size ≤ j) := Lib.hid fun j hj => (HOWN.out.lt j hj).1
              have HZ2 := Lib.hid HBW2.out.size
              have HST : Hid (plc W S (n + 1) = plc W S n ++ [.int .i64 0, .int .i64 (k1 : Int), .int .i64 (k3 : Int), .int .i64 (k2 : Int)]) := Lib.hid (by rw [plc_step, HPL.out]; rfl)
              clear hn4
              go_wp2_with (first
                | ((with_reducible refine wpAppendM 1 HOW2.out Tryd.underlying29 many_place HL2.out rfl Nat.one_pos (by decide) rfl HPK HZ2.out ?_ ?_); rfl; intro v1 w2 g1 g2 g3; have HV1 := Lib.hid g1; have HG1 := Lib.hid g2; clear g1 g2 g3))
              go_roundw
              case rel => exact ⟨k3 + 1, by omega, by go_num, by rw [← Nat.add_assoc, HN.out, HST.out]; exact HV1.out, HBW2.out.grown HG1.out HBW2.out.size HOL.out⟩
              case measure => simp [intOf]; omega
            · obtain rfl : k3 = S := by omega
              go_wp2
              go_roundw
              case rel => exact ⟨k2 + 1, by omega, by go_num, by rw [Nat.add_mul, Nat.one_mul, ← Nat.add_assoc]; exact HOWN.out, HBW.out⟩
              case measure => simp [intOf]; omega
        · obtain rfl : k2 = W := by omega
          go_wp2
          go_roundw
          case rel => exact ⟨k1 + 1, by omega, by go_num, by rw [Nat.add_mul, Nat.one_mul]; rw [← HM.out] at HOWN; exact HOWN.out, HBW.out⟩
          case measure => simp [intOf]; omega
    · have hxk1 : k1 = 3 := by omega
      have ek1' : ¬ (k1 : Int) < 3 := by omega
      rw [hxk1] at HOWN
      clear hxk1
      have H0 : Hid (wr.ownsRow w1.heap.size 34 4 u3 (3 * M + 0 * 8) (plc W S (3 * M + 0 * 8))) := Lib.hid HOWN.out
      go_wp2
      go_loopw [3, 7] (fun v i wr => ∃ ka : Nat, ka ≤ 2 ∧ i = .int .i64 ka ∧ wr.ownsRow w1.heap.size 34 4 v (3 * M + ka * 8) (plc W S (3 * M + ka * 8)) ∧ Below w1.heap.size w1 wr) (fun _ i _ => 2 - (intOf i).toNat)
      case atStart => exact ⟨0, Nat.zero_le _, rfl, H0.out, HBW.out⟩
      case round =>
        clear H0 HOWN HBW
        obtain ⟨ka, hka, rfl, hown, hbw⟩ := hrel
        have HOWN := Lib.hid hown
        have HBW := Lib.hid hbw
        clear hown hbw
        by_cases hltka : ka < 2
        · have eka : (ka : Int) < 2 := by omega
          have H0 : Hid (wr.ownsRow w1.heap.size 34 4 u3 (3 * M + ka * 8 + 0 * 4) (plc W S (3 * M + ka * 8 + 0 * 4))) := Lib.hid HOWN.out
          go_wp2
          go_loopw [3, 8] (fun v i wr => ∃ kb : Nat, kb ≤ 2 ∧ i = .int .i64 kb ∧ wr.ownsRow w1.heap.size 34 4 v (3 * M + ka * 8 + kb * 4) (plc W S (3 * M + ka * 8 + kb * 4)) ∧ Below w1.heap.size w1 wr) (fun _ i _ => 2 - (intOf i).toNat)
          case atStart => exact ⟨0, Nat.zero_le _, rfl, H0.out, HBW.out⟩
          case round =>
            clear H0 HOWN HBW
            obtain ⟨kb, hkb, rfl, hown, hbw⟩ := hrel
            have HOWN := Lib.hid hown
            have HBW := Lib.hid hbw
            clear hown hbw
            by_cases hltkb : kb < 2
            · have ekb : (kb : Int) < 2 := by omega
              have H0 : Hid (wr.ownsRow w1.heap.size 34 4 u3 (3 * M + ka * 8 + kb * 4 + 0) (plc W S (3 * M + ka * 8 + kb * 4 + 0))) := Lib.hid HOWN.out
              go_wp2
              go_loopw [3, 9] (fun v i wr => ∃ kc : Nat, kc ≤ 4 ∧ i = .int .i64 kc ∧ wr.ownsRow w1.heap.size 34 4 v (3 * M + ka * 8 + kb * 4 + kc) (plc W S (3 * M + ka * 8 + kb * 4 + kc)) ∧ Below w1.heap.size w1 wr) (fun _ i _ => 4 - (intOf i).toNat)
              case atStart => exact ⟨0, Nat.zero_le _, rfl, H0.out, HBW.out⟩
              case round =>
                clear H0 HOWN HBW
                obtain ⟨kc, hkc, rfl, hown, hbw⟩ := hrel
                have HOWN := Lib.hid hown
                have HBW := Lib.hid hbw
                clear hown hbw
                by_cases hltkc : kc < 4
                · have ekc : (kc : Int) < 4 := by omega
                  obtain ⟨n, hn⟩ : ∃ n, 3 * M + ka * 8 + kb * 4 + kc = n := ⟨_, rfl⟩
                  have HPL : Hid (pl W S n = ⟨1, (ka : Int), (kb : Int), (kc : Int)⟩) := Lib.hid (by rw [← hn, HM.out]; exact pl_log hltka hltkb hltkc)
                  have HN := Lib.hid hn
                  have hn4 : n ≤ 400 := by omega
                  rw [hn] at HOWN
                  clear hn
                  have HOW2 := Lib.hid (HOWN.out.alloc (.cells #[.int .i64 1, .int .i64 (ka : Int), .int .i64 (kb : Int), .int .i64 (kc : Int)] 34))
                  have HL2 : Hid (Lies (wr.alloc (.cells #[.int .i64 1, .int .i64 (ka : Int), .int .i64 (kb : Int), .int .i64 (kc : Int)] 34)) (wr.alloc (.cells #[.int .i64 1, .int .i64 (ka : Int), .int .i64 (kb : Int), .int .i64 (kc : Int)] 34)).heap.size (some ⟨wr.heap.size, 0, none⟩) [.int .i64 1, .int .i64 (ka : Int), .int .i64 (kb : Int), .int .i64 (kc : Int)]) := Lib.hid (Lies.new _ _ _)
                  have HBW2 := Lib.hid (HBW.out.alloc HBW.out.size (.cells #[.int .i64 1, .int .i64 (ka : Int), .int .i64 (kb : Int), .int .i64 (kc : Int)] 34))
                  have HPK : Big (n + 1 ≤ 1099511627776) := ⟨by omega⟩
                  have HOL : Hid (∀ j, u3.ownBlock = some j → w1.heap.size ≤ j) := Lib.hid fun j hj => (HOWN.out.lt j hj).1
                  have HZ2 := Lib.hid HBW2.out.size
                  have HST : Hid (plc W S (n + 1) = plc W S n ++ [.int .i64 1, .int .i64 (ka : Int), .int .i64 (kb : Int), .int .i64 (kc : Int)]) := Lib.hid (by rw [plc_step, HPL.out]; rfl)
                  clear hn4
                  go_wp2_with (first
                    | ((with_reducible refine wpAppendM 1 HOW2.out Tryd.underlying29 many_place HL2.out rfl Nat.one_pos (by decide) rfl HPK HZ2.out ?_ ?_); rfl; intro v1 w2 g1 g2 g3; have HV1 := Lib.hid g1; have HG1 := Lib.hid g2; clear g1 g2 g3))
                  go_roundw
                  case rel => exact ⟨kc + 1, by omega, by go_num, by rw [← Nat.add_assoc, HN.out, HST.out]; exact HV1.out, HBW2.out.grown HG1.out HBW2.out.size HOL.out⟩
                  case measure => simp [intOf]; omega
                · have hxkc : kc = 4 := by omega
                  have ekc' : ¬ (kc : Int) < 4 := by omega
                  rw [hxkc] at HOWN
                  clear hxkc
                  go_wp2
                  go_roundw
                  case rel => exact ⟨kb + 1, by omega, by go_num, by rw [Nat.add_mul, Nat.one_mul, ← Nat.add_assoc]; exact HOWN.out, HBW.out⟩
                  case measure => simp [intOf]; omega
            · have hxkb : kb = 2 := by omega
              have ekb' : ¬ (kb : Int) < 2 := by omega
              rw [hxkb] at HOWN
              clear hxkb
              go_wp2
              go_roundw
              case rel => exact ⟨ka + 1, by omega, by go_num, by rw [Nat.add_mul, Nat.one_mul, ← Nat.add_assoc]; exact HOWN.out, HBW.out⟩
              case measure => simp [intOf]; omega
        · have hxka : ka = 2 := by omega
          have eka' : ¬ (ka : Int) < 2 := by omega
          rw [hxka] at HOWN
          clear hxka
          have H0 : Hid (wr.ownsRow w1.heap.size 34 4 u3 (3 * M + 16) (plc W S (3 * M + 16))) := Lib.hid HOWN.out
          go_wp2
          go_loopw [3, 10] (fun v i wr => ∃ kt : Nat, kt ≤ 2 ∧ i = .int .i64 kt ∧ wr.ownsRow w1.heap.size 34 4 v (3 * M + 16 + kt) (plc W S (3 * M + 16 + kt)) ∧ Below w1.heap.size w1 wr) (fun _ i _ => 2 - (intOf i).toNat)
          case atStart => exact ⟨0, Nat.zero_le _, rfl, H0.out, HBW.out⟩
          case round =>
            clear H0 HOWN HBW
            obtain ⟨kt, hkt, rfl, hown, hbw⟩ := hrel
            have HOWN := Lib.hid hown
            have HBW := Lib.hid hbw
            clear hown hbw
            by_cases hltkt : kt < 2
            · have ekt : (kt : Int) < 2 := by omega
              obtain ⟨n, hn⟩ : ∃ n, 3 * M + 16 + kt = n := ⟨_, rfl⟩
              have HPL : Hid (pl W S n = ⟨2, (kt : Int), 0, 0⟩) := Lib.hid (by rw [← hn, HM.out]; exact pl_tal)
              have HN := Lib.hid hn
              have hn4 : n ≤ 400 := by omega
              rw [hn] at HOWN
              clear hn
              have HOW2 := Lib.hid (HOWN.out.alloc (.cells #[.int .i64 2, .int .i64 (kt : Int), .int .i64 0, .int .i64 0] 34))
              have HL2 : Hid (Lies (wr.alloc (.cells #[.int .i64 2, .int .i64 (kt : Int), .int .i64 0, .int .i64 0] 34)) (wr.alloc (.cells #[.int .i64 2, .int .i64 (kt : Int), .int .i64 0, .int .i64 0] 34)).heap.size (some ⟨wr.heap.size, 0, none⟩) [.int .i64 2, .int .i64 (kt : Int), .int .i64 0, .int .i64 0]) := Lib.hid (Lies.new _ _ _)
              have HBW2 := Lib.hid (HBW.out.alloc HBW.out.size (.cells #[.int .i64 2, .int .i64 (kt : Int), .int .i64 0, .int .i64 0] 34))
              have HPK : Big (n + 1 ≤ 1099511627776) := ⟨by omega⟩
              have HOL : Hid (∀ j, u3.ownBlock = some j → w1.heap.size ≤ j) := Lib.hid fun j hj => (HOWN.out.lt j hj).1
              have HZ2 := Lib.hid HBW2.out.size
              have HST : Hid (plc W S (n + 1) = plc W S n ++ [.int .i64 2, .int .i64 (kt : Int), .int .i64 0, .int .i64 0]) := Lib.hid (by rw [plc_step, HPL.out]; rfl)
              clear hn4
              go_wp2_with (first
                | ((with_reducible refine wpAppendM 1 HOW2.out Tryd.underlying29 many_place HL2.out rfl Nat.one_pos (by decide) rfl HPK HZ2.out ?_ ?_); rfl; intro v1 w2 g1 g2 g3; have HV1 := Lib.hid g1; have HG1 := Lib.hid g2; clear g1 g2 g3))
              go_roundw
              case rel => exact ⟨kt + 1, by omega, by go_num, by rw [← Nat.add_assoc, HN.out, HST.out]; exact HV1.out, HBW2.out.grown HG1.out HBW2.out.size HOL.out⟩
              case measure => simp [intOf]; omega
            · have hxkt : kt = 2 := by omega
              have ekt' : ¬ (kt : Int) < 2 := by omega
              rw [hxkt] at HOWN
              clear hxkt
              have HO := Lib.hid HOWN.out
              go_wp2
              go_ret
              exact ⟨⟨_, rfl, by rw [cnt, ← HM.out]; exact own_mono HO.out B1.out.size⟩, B1.out.trans (HBW.out.mono B1.out.size)⟩
end Go.Proofs.YtiakbdekleaaoaaDoor
