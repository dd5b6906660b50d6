/- logLines, tallyLines (gen_geo_u.py). -/
import Derived.Test.YtiakbdekleaaoaaDoorGeoT
import Derived.Test.YtiakbdekleaaoaaDoorSliceM
namespace Go.Proofs.YtiakbdekleaaoaaDoor
open Go.RowKit GeoMath
set_option linter.unusedVariables false
set_option maxRecDepth 100000

theorem one_string : One Tryd.prog 9 := One.of (by kernel_rfl)
def tls (n : Nat) : List ByteArray := (List.range n).map fun (j : Nat) => talT (j : Int)
theorem tls_succ (n : Nat) : tls (n + 1) = tls n ++ [talT (n : Int)] := by rw [tls, List.range_succ, List.map_append]; rfl
set_option maxHeartbeats 2000000 in
theorem logLines_any (w : World) : Calls Tryd.prog 14 #[] w fun e w' => (∃ v, e = .returned v ∧ w'.ownsRow w.heap.size 9 1 v (2 * 8) (strs (lgs (2 * 8)))) ∧ Below w.heap.size w w' := by
  go_enter Tryd.func14, Tryd.ntmps14
  have H0 : Hid (w.ownsRow w.heap.size 9 1 (.slice none 0 0) (0 * 8) (strs (lgs (0 * 8)))) := Lib.hid ⟨rfl, .inl ⟨rfl, rfl⟩⟩
  go_wp2
  go_loopw [1, 5] (fun v i wr => ∃ ka : Nat, ka ≤ 2 ∧ i = .int .i64 ka ∧ wr.ownsRow w.heap.size 9 1 v (ka * 8) (strs (lgs (ka * 8))) ∧ Below w.heap.size w wr) (fun _ i _ => 2 - (intOf i).toNat)
  case atStart => exact ⟨0, Nat.zero_le _, rfl, H0.out, Below.refl _ _⟩
  case round =>
    clear H0 
    obtain ⟨ka, hka, rfl, hown, hbw⟩ := hrel
    have HOWN := Lib.hid hown
    have HBW := Lib.hid hbw
    clear hown hbw
    by_cases hltka : ka < 2
    · have eka : (ka : Int) < 2 := by omega
      have H0 : Hid (wr.ownsRow w.heap.size 9 1 u1 (ka * 8 + 0 * 4) (strs (lgs (ka * 8 + 0 * 4)))) := Lib.hid HOWN.out
      go_wp2
      go_loopw [1, 8] (fun v i wr => ∃ kb : Nat, kb ≤ 2 ∧ i = .int .i64 kb ∧ wr.ownsRow w.heap.size 9 1 v (ka * 8 + kb * 4) (strs (lgs (ka * 8 + kb * 4))) ∧ Below w.heap.size w wr) (fun _ i _ => 2 - (intOf i).toNat)
      case atStart => exact ⟨0, Nat.zero_le _, rfl, H0.out, HBW.out⟩
      case round =>
        clear H0 HOWN HBW
        obtain ⟨kb, hkb, rfl, hown, hbw⟩ := hrel
        have HOWN := Lib.hid hown
        have HBW := Lib.hid hbw
        clear hown hbw
        by_cases hltkb : kb < 2
        · have ekb : (kb : Int) < 2 := by omega
          have H0 : Hid (wr.ownsRow w.heap.size 9 1 u1 (ka * 8 + kb * 4 + 0) (strs (lgs (ka * 8 + kb * 4 + 0)))) := Lib.hid HOWN.out
          go_wp2
          go_loopw [1, 11] (fun v i wr => ∃ kc : Nat, kc ≤ 4 ∧ i = .int .i64 kc ∧ wr.ownsRow w.heap.size 9 1 v (ka * 8 + kb * 4 + kc) (strs (lgs (ka * 8 + kb * 4 + kc))) ∧ Below w.heap.size w wr) (fun _ i _ => 4 - (intOf i).toNat)
          case atStart => exact ⟨0, Nat.zero_le _, rfl, H0.out, HBW.out⟩
          case round =>
            clear H0 HOWN HBW
            obtain ⟨kc, hkc, rfl, hown, hbw⟩ := hrel
            have HOWN := Lib.hid hown
            have HBW := Lib.hid hbw
            clear hown hbw
            by_cases hltkc : kc < 4
            · have ekc : (kc : Int) < 4 := by omega
              have HI1 := Lib.hid fun w1 => itoa_any (ka : Int) w1 (by omega) (by omega)
              have hsDA := dg_size (ka : Int)
              have HI2 := Lib.hid fun w1 => itoa_any (kb : Int) w1 (by omega) (by omega)
              have hsDB := dg_size (kb : Int)
              have HI3 := Lib.hid fun w1 => itoa_any (kc : Int) w1 (by omega) (by omega)
              have hsDC := dg_size (kc : Int)
              have HTT0 : Hid (logT (ka : Int) (kb : Int) (kc : Int) = ⟨#[108, 111, 103, 32]⟩ ++ dg ka ++ ⟨#[46]⟩ ++ dg kb ++ ⟨#[46]⟩ ++ dg kc) := Lib.hid rfl
              have HD1 : Hid (((ka * 8 + kb * 4 + kc) / 8 : Nat) = ka ∧ (ka * 8 + kb * 4 + kc) / 4 % 2 = kb ∧ (ka * 8 + kb * 4 + kc) % 4 = kc) := Lib.hid ⟨by omega, by omega, by omega⟩
              generalize dg (ka : Int) = DA at HI1 hsDA HTT0
              generalize dg (kb : Int) = DB at HI2 hsDB HTT0
              generalize dg (kc : Int) = DC at HI3 hsDC HTT0
              obtain ⟨T1, hT1⟩ : ∃ T1, (⟨#[108, 111, 103, 32]⟩ : ByteArray) ++ DA = T1 := ⟨_, rfl⟩
              obtain ⟨T2, hT2⟩ : ∃ T2, T1 ++ (⟨#[46]⟩ : ByteArray) = T2 := ⟨_, rfl⟩
              obtain ⟨T3, hT3⟩ : ∃ T3, T2 ++ DB = T3 := ⟨_, rfl⟩
              obtain ⟨T4, hT4⟩ : ∃ T4, T3 ++ (⟨#[46]⟩ : ByteArray) = T4 := ⟨_, rfl⟩
              obtain ⟨T5, hT5⟩ : ∃ T5, T4 ++ DC = T5 := ⟨_, rfl⟩
              have HTT : Hid (logT (ka : Int) (kb : Int) (kc : Int) = T5) := Lib.hid (by rw [HTT0.out, hT1, hT2, hT3, hT4, hT5])
              have z1 : T1.size = 5 := by rw [← hT1, ByteArray.size_append, hsDA]; rfl
              have z2 : T2.size = 6 := by rw [← hT2, ByteArray.size_append, z1]; rfl
              have z3 : T3.size = 7 := by rw [← hT3, ByteArray.size_append, z2, hsDB]
              have z4 : T4.size = 8 := by rw [← hT4, ByteArray.size_append, z3]; rfl
              clear HTT0
              obtain ⟨n, hn⟩ : ∃ n, ka * 8 + kb * 4 + kc = n := ⟨_, rfl⟩
              have HN := Lib.hid hn
              have HST : Hid (strs (lgs (n + 1)) = strs (lgs n) ++ [.string T5]) := Lib.hid (by rw [lgs_succ, strs, List.map_append]; exact congrArg (fun x => List.map Value.string (lgs n) ++ [Value.string x]) (by rw [← HTT.out, ← hn]; rw [HD1.out.1, HD1.out.2.1, HD1.out.2.2]))
              have hn4 : n ≤ 400 := by omega
              rw [hn] at HOWN
              clear hn
              have HOW2 := Lib.hid (HOWN.out.alloc (.cells #[.string T5] 9))
              have HL2 : Hid (Lies (wr.alloc (.cells #[.string T5] 9)) (wr.alloc (.cells #[.string T5] 9)).heap.size (some ⟨wr.heap.size, 0, none⟩) [.string T5]) := Lib.hid (Lies.new _ _ _)
              have HBW2 := Lib.hid (HBW.out.alloc HBW.out.size (.cells #[.string T5] 9))
              have HO1 : Hid ((Value.string T5).oneCell' = true) := Lib.hid rfl
              have HPK : Big (n + 1 ≤ 1099511627776) := ⟨by omega⟩
              have HOL : Hid (∀ j, u1.ownBlock = some j → w.heap.size ≤ j) := Lib.hid fun j hj => (HOWN.out.lt j hj).1
              have HZ2 := Lib.hid HBW2.out.size
              clear hn4
              go_wp2_with (first
                | (go_at_call 22; (with_reducible refine (HI1.out wr).mono ?_); rintro e u_ ⟨rfl, rfl⟩)
                | (go_at_call 22; (with_reducible refine (HI2.out wr).mono ?_); rintro e u_ ⟨rfl, rfl⟩)
                | (go_at_call 22; (with_reducible refine (HI3.out wr).mono ?_); rintro e u_ ⟨rfl, rfl⟩)
                | ((with_reducible refine wpAppend1K HOW2.out Tryd.underlying25 one_string HL2.out HO1.out HPK HZ2.out ?_ ?_); rfl; intro v1 w2 g1 g2 g3; have HV1 := Lib.hid g1; have HG1 := Lib.hid g2; clear g1 g2 g3))
              go_roundw
              case rel => exact ⟨kc + 1, by omega, by go_num, by rw [← Nat.add_assoc, HN.out, HST.out]; exact HV1.out, HBW2.out.grown HG1.out HBW2.out.size HOL.out⟩
              case measure => simp [intOf]; omega
            · have hxkc : kc = 4 := by omega
              have ekc' : ¬ (kc : Int) < 4 := by omega
              rw [hxkc] at HOWN
              clear hxkc
              go_wp2
              go_roundw
              case rel => exact ⟨kb + 1, by omega, by go_num, by rw [show ka * 8 + (kb + 1) * 4 = ka * 8 + kb * 4 + 4 from by omega]; exact HOWN.out, HBW.out⟩
              case measure => simp [intOf]; omega
        · have hxkb : kb = 2 := by omega
          have ekb' : ¬ (kb : Int) < 2 := by omega
          rw [hxkb] at HOWN
          clear hxkb
          go_wp2
          go_roundw
          case rel => exact ⟨ka + 1, by omega, by go_num, by rw [show (ka + 1) * 8 = ka * 8 + 2 * 4 from by omega]; exact HOWN.out, HBW.out⟩
          case measure => simp [intOf]; omega
    · have hxka : ka = 2 := by omega
      have eka' : ¬ (ka : Int) < 2 := by omega
      rw [hxka] at HOWN
      clear hxka
      have HO := Lib.hid HOWN.out
      go_wp2
      go_ret
      exact ⟨⟨_, rfl, HO.out⟩, HBW.out⟩
set_option maxHeartbeats 2000000 in
theorem tallyLines_any (w : World) : Calls Tryd.prog 15 #[] w fun e w' => (∃ v, e = .returned v ∧ w'.ownsRow w.heap.size 9 1 v 2 (strs (tls 2))) ∧ Below w.heap.size w w' := by
  go_enter Tryd.func15, Tryd.ntmps15
  have H0 : Hid (w.ownsRow w.heap.size 9 1 (.slice none 0 0) (0) (strs (tls 0))) := Lib.hid ⟨rfl, .inl ⟨rfl, rfl⟩⟩
  go_wp2
  go_loopw [1, 3] (fun v i wr => ∃ kt : Nat, kt ≤ 2 ∧ i = .int .i64 kt ∧ wr.ownsRow w.heap.size 9 1 v (kt) (strs (tls kt)) ∧ Below w.heap.size w wr) (fun _ i _ => 2 - (intOf i).toNat)
  case atStart => exact ⟨0, Nat.zero_le _, rfl, H0.out, Below.refl _ _⟩
  case round =>
    clear H0 
    obtain ⟨kt, hkt, rfl, hown, hbw⟩ := hrel
    have HOWN := Lib.hid hown
    have HBW := Lib.hid hbw
    clear hown hbw
    by_cases hltkt : kt < 2
    · have ekt : (kt : Int) < 2 := by omega
      have HI1 := Lib.hid fun w1 => itoa_any (kt : Int) w1 (by omega) (by omega)
      have hsDA := dg_size (kt : Int)
      have HTT0 : Hid (talT (kt : Int) = ⟨#[116, 97, 108, 108, 121, 32]⟩ ++ dg kt) := Lib.hid rfl
      generalize dg (kt : Int) = DA at HI1 hsDA HTT0
      obtain ⟨T1, hT1⟩ : ∃ T1, (⟨#[116, 97, 108, 108, 121, 32]⟩ : ByteArray) ++ DA = T1 := ⟨_, rfl⟩
      have HTT : Hid (talT (kt : Int) = T1) := Lib.hid (by rw [HTT0.out, hT1])
      clear HTT0
      obtain ⟨n, hn⟩ : ∃ n, kt = n := ⟨_, rfl⟩
      have HN := Lib.hid hn
      have HST : Hid (strs (tls (n + 1)) = strs (tls n) ++ [.string T1]) := Lib.hid (by rw [tls_succ, strs, List.map_append]; exact congrArg (fun x => List.map Value.string (tls n) ++ [Value.string x]) (by rw [← HTT.out, ← hn]))
      have hn4 : n ≤ 400 := by omega
      rw [hn] at HOWN
      clear hn
      have HOW2 := Lib.hid (HOWN.out.alloc (.cells #[.string T1] 9))
      have HL2 : Hid (Lies (wr.alloc (.cells #[.string T1] 9)) (wr.alloc (.cells #[.string T1] 9)).heap.size (some ⟨wr.heap.size, 0, none⟩) [.string T1]) := Lib.hid (Lies.new _ _ _)
      have HBW2 := Lib.hid (HBW.out.alloc HBW.out.size (.cells #[.string T1] 9))
      have HO1 : Hid ((Value.string T1).oneCell' = true) := Lib.hid rfl
      have HPK : Big (n + 1 ≤ 1099511627776) := ⟨by omega⟩
      have HOL : Hid (∀ j, u1.ownBlock = some j → w.heap.size ≤ j) := Lib.hid fun j hj => (HOWN.out.lt j hj).1
      have HZ2 := Lib.hid HBW2.out.size
      clear hn4
      go_wp2_with (first
        | (go_at_call 22; (with_reducible refine (HI1.out wr).mono ?_); rintro e u_ ⟨rfl, rfl⟩)
        | ((with_reducible refine wpAppend1K HOW2.out Tryd.underlying25 one_string HL2.out HO1.out HPK HZ2.out ?_ ?_); rfl; intro v1 w2 g1 g2 g3; have HV1 := Lib.hid g1; have HG1 := Lib.hid g2; clear g1 g2 g3))
      go_roundw
      case rel => exact ⟨kt + 1, by omega, by go_num, by rw [HN.out, HST.out]; exact HV1.out, HBW2.out.grown HG1.out HBW2.out.size HOL.out⟩
      case measure => simp [intOf]; omega
    · have hxkt : kt = 2 := by omega
      have ekt' : ¬ (kt : Int) < 2 := by omega
      rw [hxkt] at HOWN
      clear hxkt
      have HO := Lib.hid HOWN.out
      go_wp2
      go_ret
      exact ⟨⟨_, rfl, HO.out⟩, HBW.out⟩
end Go.Proofs.YtiakbdekleaaoaaDoor
