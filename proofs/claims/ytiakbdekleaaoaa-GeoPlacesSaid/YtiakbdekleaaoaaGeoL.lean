/- GeoPlaces: the walk, the geometry right (gen_geo_l.py). -/
import Derived.Test.YtiakbdekleaaoaaGeoK
namespace Go.Proofs.Ytiakbdekleaaoaa
open Go.RowKit GeoMath
set_option linter.unusedVariables false
set_option maxRecDepth 100000

theorem lof_any {g : Gm} {W S : Nat} (D : Dim g W S) (n : Int) (a : Option Addr) (cap : Nat) (w : World) (hl : Lies w w.heap.size a (plc W S (cnt W S))) (hN : cnt W S ≤ 400) :
    Calls Try.prog 22 #[.int .i64 n, .slice a (cnt W S) cap, .agg #[.int .i64 0, .int .i64 (ofA g n), .int .i64 (ofB g n), .int .i64 (ofC g n)], .bool (ofK g n)] w fun e w' => e = .returned (.bool true) ∧ Below w.heap.size w w' := by
  rcases of_cases D n with ⟨h, h1, h2, h3, h4⟩ | ⟨k, rfl, hk, ⟨hw, h1, h2, h3, h4⟩ | ⟨hp, h4⟩⟩
  · rw [h1, h2, h3, h4]
    exact lof_out n a cap _ w hN h
  · rw [h1, h2, h3, h4]
    obtain ⟨bl, off, rfl, hb, hc⟩ := hl (by
      have : (plc W S (cnt W S))[k * 4 + 0]? = some (Value.int .i64 (pl W S k).w) := plc_get W S _ k hk 0 _ rfl
      have := (List.getElem?_eq_some_iff.1 this).1
      omega)
    exact lof_else k bl off cap _ _ w hN hk hb (plc_at hc hk 0 _ rfl) hw
  · rw [h4]
    obtain ⟨bl, off, rfl, hb, hc⟩ := hl (by
      have : (plc W S (cnt W S))[k * 4 + 0]? = some (Value.int .i64 (pl W S k).w) := plc_get W S _ k hk 0 _ rfl
      have := (List.getElem?_eq_some_iff.1 this).1
      omega)
    have h := plc_at hc hk
    rw [hp] at h
    exact lof_in k bl off cap _ _ _ _ w hN hk hb h
set_option maxHeartbeats 8000000 in
theorem geoPlaces_yes (d p s a0 a1 a2 b0 b1 b2 : Int) (W S : Nat) (w : World) (D : Dim ⟨d, p, s⟩ W S) :
    Calls Try.prog 3 #[.agg #[.int .i64 d, .int .i64 p, .int .i64 s], .agg #[.int .i64 a0, .int .i64 a1, .int .i64 a2], .agg #[.int .i64 b0, .int .i64 b1, .int .i64 b2]] w fun e w' => e = .returned (.bool true) ∧ Below w.heap.size w w' := by
  have HAW := Lib.hid geoAwake_any
  have hr := (right_iff ⟨d, p, s⟩).2 D.r
  have hwd : d + p = (W : Int) := D.w
  have hs : s = (S : Int) := D.s
  have hN4 : cnt W S ≤ 400 := by
    have h1 := D.slot
    have h2 := slot_le ⟨d, p, s⟩
    rw [cnt]
    omega
  have HSE : Hid (∀ w1, Calls Try.prog 7 #[.agg #[.int .i64 d, .int .i64 p, .int .i64 s], .int .i64 a0, .int .i64 a1, .int .i64 a2] w1 fun e w' => e = .returned (.tuple #[.int .i64 (sect ⟨d, p, s⟩ a0 a1 a2), .int .i64 (sectQ ⟨d, p, s⟩ a0 a1 a2)]) ∧ Below w1.heap.size w1 w') := Lib.hid fun w1 => sector_any ⟨d, p, s⟩ a0 a1 a2 w1
  have HHA : Hid (∀ w1, Calls Try.prog 8 #[.agg #[.int .i64 d, .int .i64 p, .int .i64 s], .int .i64 a0, .int .i64 a1] w1 fun e w' => e = .returned (.tuple #[.int .i64 (half ⟨d, p, s⟩ a0 a1), .int .i64 (halfQ ⟨d, p, s⟩ a0 a1)]) ∧ Below w1.heap.size w1 w') := Lib.hid fun w1 => half_any ⟨d, p, s⟩ a0 a1 w1
  have HTA : Hid (∀ w1, Calls Try.prog 9 #[.agg #[.int .i64 d, .int .i64 p, .int .i64 s], .int .i64 a0] w1 fun e w' => e = .returned (.tuple #[.int .i64 (talA ⟨d, p, s⟩ a0), .int .i64 (talQ ⟨d, p, s⟩ a0)]) ∧ Below w1.heap.size w1 w') := Lib.hid fun w1 => tally_any ⟨d, p, s⟩ a0 w1
  have HOF : Hid (∀ w1, Calls Try.prog 10 #[.agg #[.int .i64 d, .int .i64 p, .int .i64 s], .int .i64 b0] w1 fun e w' => e = .returned (.tuple #[.int .i64 (ofA ⟨d, p, s⟩ b0), .int .i64 (ofB ⟨d, p, s⟩ b0), .int .i64 (ofC ⟨d, p, s⟩ b0), .bool (ofK ⟨d, p, s⟩ b0)]) ∧ Below w1.heap.size w1 w') := Lib.hid fun w1 => of_any ⟨d, p, s⟩ b0 w1
  have HGO : Hid (∀ w1, Calls Try.prog 11 #[.agg #[.int .i64 d, .int .i64 p, .int .i64 s]] w1 fun e w' => e = .returned (.tuple #[.int .i64 0, .int .i64 (slot ⟨d, p, s⟩)]) ∧ Below w1.heap.size w1 w') := Lib.hid fun w1 => golden_any ⟨d, p, s⟩ w1
  have HSL : Hid (∀ w1, Calls Try.prog 14 #[.agg #[.int .i64 d, .int .i64 p, .int .i64 s]] w1 fun e w' => e = .returned (.int .i64 (slot ⟨d, p, s⟩)) ∧ Below w1.heap.size w1 w') := Lib.hid fun w1 => slot_any ⟨d, p, s⟩ w1
  have HAL : Hid (∀ w1, Calls Try.prog 15 #[.agg #[.int .i64 d, .int .i64 p, .int .i64 s]] w1 fun e w' => e = .returned (.int .i64 ((cnt W S : Nat) : Int)) ∧ Below w1.heap.size w1 w') := Lib.hid fun w1 => (all_any ⟨d, p, s⟩ w1).mono fun e w' h => by
    rw [all, if_pos hr, tal, log, D.slot, show 3 * ((W * S : Nat) : Int) + 16 + 2 = ((cnt W S : Nat) : Int) from by rw [cnt]; omega] at h
    exact h
  have HRO : Hid (∀ w1, Calls Try.prog 16 #[.agg #[.int .i64 d, .int .i64 p, .int .i64 s]] w1 fun e w' => e = .returned (.int .i64 (room ⟨d, p, s⟩)) ∧ Below w1.heap.size w1 w') := Lib.hid fun w1 => room_any ⟨d, p, s⟩ w1
  have HRM : Hid (∀ w1, Calls Try.prog 19 #[.agg #[.int .i64 d, .int .i64 p, .int .i64 s]] w1 fun e w' => e = .returned (.int .i64 (room ⟨d, p, s⟩)) ∧ Below w1.heap.size w1 w') := Lib.hid fun w1 => rroom_any ⟨d, p, s⟩ w1 D.r
  have HWI : Hid (∀ w1, Calls Try.prog 17 #[.agg #[.int .i64 d, .int .i64 p, .int .i64 s]] w1 fun e w' => e = .returned (.int .i64 (wide ⟨d, p, s⟩)) ∧ Below w1.heap.size w1 w') := Lib.hid fun w1 => wide_any ⟨d, p, s⟩ w1
  have HR : Hid (∀ w1, Calls Try.prog 13 #[.agg #[.int .i64 d, .int .i64 p, .int .i64 s]] w1 fun e w' => e = .returned (.bool true) ∧ Below w1.heap.size w1 w') := Lib.hid fun w1 => (right_any ⟨d, p, s⟩ w1).mono fun e w' h => by rw [hr] at h; exact h
  have HRR : Hid (∀ w1, Calls Try.prog 12 #[.agg #[.int .i64 d, .int .i64 p, .int .i64 s]] w1 fun e w' => e = .returned (.bool true) ∧ Below w1.heap.size w1 w') := Lib.hid fun w1 => (rright_any ⟨d, p, s⟩ w1).mono fun e w' h => by rw [hr] at h; exact h
  have HLI : Hid (∀ w1, Calls Try.prog 18 #[.agg #[.int .i64 d, .int .i64 p, .int .i64 s]] w1 fun e w' => (∃ v, e = .returned v ∧ w'.ownsRow w1.heap.size 45 4 v (cnt W S) (plc W S (cnt W S))) ∧ Below w1.heap.size w1 w') := Lib.hid fun w1 => by
    rw [hs]
    exact list_any W S d p w1 hwd D.r.d1 D.r.d8 D.r.p2 D.r.p6 D.S1 (by have := D.r.s8; rw [D.s] at this; omega)
  have WA : Hid (IntKind.i64.wrap (d + p) = wide ⟨d, p, s⟩) := Lib.hid (by
    rw [wide_yes hr, IntKind.wrap_i64]
    have h1 : d + p = (W : Int) := hwd
    have h2 := wide_le ⟨d, p, s⟩
    rw [wide_yes hr] at h2
    dsimp only at h2 ⊢
    omega)
  have WM : Hid (IntKind.i64.wrap (wide ⟨d, p, s⟩ * s) = slot ⟨d, p, s⟩) := Lib.hid (by
    have h2 := slot_le ⟨d, p, s⟩
    rw [slot] at h2 ⊢
    dsimp only at h2 ⊢
    rw [IntKind.wrap_i64]
    omega)
  have HK0 : Hid (∀ r, IsAt W S (cnt W S) ⟨0, a0, a1, a2⟩ r → secB (sect ⟨d, p, s⟩ a0 a1 a2) (sectQ ⟨d, p, s⟩ a0 a1 a2) r = true) := Lib.hid fun r h => sec_ok D h
  have HK1 : Hid (∀ r, IsAt W S (cnt W S) ⟨1, a0, a1, 0⟩ r → secB (half ⟨d, p, s⟩ a0 a1) (halfQ ⟨d, p, s⟩ a0 a1) r = true) := Lib.hid fun r h => half_ok D h
  have HK2 : Hid (∀ r, IsAt W S (cnt W S) ⟨2, a0, 0, 0⟩ r → secB (talA ⟨d, p, s⟩ a0) (talQ ⟨d, p, s⟩ a0) r = true) := Lib.hid fun r h => tal_ok D h
  have HLO : Hid (∀ (w1 : World) (a : Option Addr) (cap : Nat), Lies w1 w1.heap.size a (plc W S (cnt W S)) → Calls Try.prog 22 #[.int .i64 b0, .slice a (cnt W S) cap, .agg #[.int .i64 0, .int .i64 (ofA ⟨d, p, s⟩ b0), .int .i64 (ofB ⟨d, p, s⟩ b0), .int .i64 (ofC ⟨d, p, s⟩ b0)], .bool (ofK ⟨d, p, s⟩ b0)] w1 fun e w' => e = .returned (.bool true) ∧ Below w1.heap.size w1 w') := Lib.hid fun w1 a cap hl => lof_any D b0 a cap w1 hl hN4
  have HFI : Hid (∀ (w1 : World) (a : Option Addr) (cap : Nat) (pw pa pb pc : Int), Lies w1 w1.heap.size a (plc W S (cnt W S)) → Calls Try.prog 21 #[.slice a (cnt W S) cap, .agg #[.int .i64 pw, .int .i64 pa, .int .i64 pb, .int .i64 pc]] w1 fun e w' => (∃ r, e = .returned (.int .i64 r) ∧ IsAt W S (cnt W S) ⟨pw, pa, pb, pc⟩ r) ∧ Below w1.heap.size w1 w') := Lib.hid fun w1 a cap pw pa pb pc hl => find_any W S _ a cap pw pa pb pc w1 hl hN4
  clear hr hwd hs hN4 D
  generalize sect ⟨d, p, s⟩ a0 a1 a2 = x0 at HSE HK0
  generalize sectQ ⟨d, p, s⟩ a0 a1 a2 = q0 at HSE HK0
  generalize half ⟨d, p, s⟩ a0 a1 = x1 at HHA HK1
  generalize halfQ ⟨d, p, s⟩ a0 a1 = q1 at HHA HK1
  generalize talA ⟨d, p, s⟩ a0 = x2 at HTA HK2
  generalize talQ ⟨d, p, s⟩ a0 = q2 at HTA HK2
  generalize ofA ⟨d, p, s⟩ b0 = oA at HOF HLO
  generalize ofB ⟨d, p, s⟩ b0 = oB at HOF HLO
  generalize ofC ⟨d, p, s⟩ b0 = oC at HOF HLO
  generalize ofK ⟨d, p, s⟩ b0 = oK at HOF HLO
  generalize slot ⟨d, p, s⟩ = sl at HSL HGO WM
  generalize wide ⟨d, p, s⟩ = wd at HWI WA WM
  generalize room ⟨d, p, s⟩ = rm at HRO HRM
  obtain ⟨Z, hZ⟩ : ∃ Z, plc W S (cnt W S) = Z := ⟨_, rfl⟩
  rw [hZ] at HLI HLO HFI
  clear hZ
  generalize cnt W S = N at *
  go_enter Try.func3, Try.ntmps3
  go_wp2_with (first
    | ((with_reducible refine wpBoxK [Value.int .i64 d, .int .i64 p, .int .i64 s] 23 ?_ ?_); rfl; intro w1 r1 b1 s1; have RG1 := Lib.hid r1; have B1 := Lib.hid b1; clear r1 b1 s1)
    | ((with_reducible refine wpBoxK [Value.int .i64 a0, .int .i64 a1, .int .i64 a2] 24 ?_ ?_); rfl; intro w2 r2 b2 s2; have RG2 := Lib.hid (RG1.out.step b2); have RA2 := Lib.hid r2; have B2 := Lib.hid (B1.out.next b2); clear r2 b2 s2)
    | ((with_reducible refine wpBoxK [Value.int .i64 b0, .int .i64 b1, .int .i64 b2] 24 ?_ ?_); rfl; intro w3 r3 b3 s3; have RG3 := Lib.hid (RG2.out.step b3); have RA3 := Lib.hid (RA2.out.step b3); have RB3 := Lib.hid r3; have B3 := Lib.hid (B2.out.next b3); clear r3 b3 s3)
    | (go_at_call 6; (with_reducible refine (HAW.out w3).mono ?_); rintro e w4 ⟨rfl, b4⟩; have RG4 := Lib.hid (RG3.out.step b4); have RA4 := Lib.hid (RA3.out.step b4); have RB4 := Lib.hid (RB3.out.step b4); have B4 := Lib.hid (B3.out.next b4); clear b4)
    | ((with_reducible refine RG4.out.wpLoadK 23 fits_geo rfl ?_ ?_); rfl)
    | ((with_reducible refine wpAllocK [Value.int .i64 0, .int .i64 0, .int .i64 0] 26 zero_rgeo ?_ ?_); rfl; intro w5 r5 b5 s5; have RF5 := Lib.hid r5; have RG5 := Lib.hid (RG4.out.step b5); have RA5 := Lib.hid (RA4.out.step b5); have RB5 := Lib.hid (RB4.out.step b5); have B5 := Lib.hid (B4.out.next b5); have HBG := Lib.hid RG4.out.lt; have HBA := Lib.hid RA4.out.lt; have HBB := Lib.hid RB4.out.lt; clear r5 b5 s5)
    | ((with_reducible refine RF5.out.wpStoreK 26 [Value.int .i64 d, .int .i64 p, .int .i64 s] fits_rgeo rfl rfl rfl ?_ ?_); rfl; intro w6 r6 o6 s6; have RF6 := Lib.hid r6; have RG6 := Lib.hid (RG5.out.only o6 (Nat.ne_of_lt HBG.out)); have RA6 := Lib.hid (RA5.out.only o6 (Nat.ne_of_lt HBA.out)); have RB6 := Lib.hid (RB5.out.only o6 (Nat.ne_of_lt HBB.out)); have B6 := Lib.hid (B5.out.trans (o6.below B4.out.size B5.out.size)); have xa0 := RA6.out.cell 0; have xa1 := RA6.out.cell 1; have xa2 := RA6.out.cell 2; clear r6 o6 s6)
    | ((with_reducible refine RG6.out.wpLoadK 23 fits_geo rfl ?_ ?_); rfl)
    | (go_at_call 7; (with_reducible refine (HSE.out w6).mono ?_); rintro e w7 ⟨rfl, b7⟩; have RG7 := Lib.hid (RG6.out.step b7); have RA7 := Lib.hid (RA6.out.step b7); have RB7 := Lib.hid (RB6.out.step b7); have RF7 := Lib.hid (RF6.out.step b7); have B7 := Lib.hid (B6.out.next b7); clear b7 xa0 xa1 xa2; have xa0 := RA7.out.cell 0; have xa1 := RA7.out.cell 1; have xa2 := RA7.out.cell 2; skip)
    | ((with_reducible refine RG7.out.wpLoadK 23 fits_geo rfl ?_ ?_); rfl)
    | (go_at_call 8; (with_reducible refine (HHA.out w7).mono ?_); rintro e w8 ⟨rfl, b8⟩; have RG8 := Lib.hid (RG7.out.step b8); have RA8 := Lib.hid (RA7.out.step b8); have RB8 := Lib.hid (RB7.out.step b8); have RF8 := Lib.hid (RF7.out.step b8); have B8 := Lib.hid (B7.out.next b8); clear b8 xa0 xa1 xa2; have xa0 := RA8.out.cell 0; have xa1 := RA8.out.cell 1; have xa2 := RA8.out.cell 2; skip)
    | ((with_reducible refine RG8.out.wpLoadK 23 fits_geo rfl ?_ ?_); rfl)
    | (go_at_call 9; (with_reducible refine (HTA.out w8).mono ?_); rintro e w9 ⟨rfl, b9⟩; have RG9 := Lib.hid (RG8.out.step b9); have RA9 := Lib.hid (RA8.out.step b9); have RB9 := Lib.hid (RB8.out.step b9); have RF9 := Lib.hid (RF8.out.step b9); have B9 := Lib.hid (B8.out.next b9); clear b9 xa0 xa1 xa2; have xb0 := RB9.out.cell 0; skip)
    | ((with_reducible refine RG9.out.wpLoadK 23 fits_geo rfl ?_ ?_); rfl)
    | (go_at_call 10; (with_reducible refine (HOF.out w9).mono ?_); rintro e w10 ⟨rfl, b10⟩; have RG10 := Lib.hid (RG9.out.step b10); have RA10 := Lib.hid (RA9.out.step b10); have RB10 := Lib.hid (RB9.out.step b10); have RF10 := Lib.hid (RF9.out.step b10); have B10 := Lib.hid (B9.out.next b10); clear b10 xb0; skip)
    | ((with_reducible refine RG10.out.wpLoadK 23 fits_geo rfl ?_ ?_); rfl)
    | (go_at_call 11; (with_reducible refine (HGO.out w10).mono ?_); rintro e w11 ⟨rfl, b11⟩; have RG11 := Lib.hid (RG10.out.step b11); have RA11 := Lib.hid (RA10.out.step b11); have RB11 := Lib.hid (RB10.out.step b11); have RF11 := Lib.hid (RF10.out.step b11); have B11 := Lib.hid (B10.out.next b11); clear b11 ; skip)
    | ((with_reducible refine RG11.out.wpLoadK 23 fits_geo rfl ?_ ?_); rfl)
    | ((with_reducible refine RF11.out.wpLoadK 26 fits_rgeo rfl ?_ ?_); rfl)
    | (go_at_call 12; (with_reducible refine (HRR.out w11).mono ?_); rintro e w12 ⟨rfl, b12⟩; have RG12 := Lib.hid (RG11.out.step b12); have RA12 := Lib.hid (RA11.out.step b12); have RB12 := Lib.hid (RB11.out.step b12); have RF12 := Lib.hid (RF11.out.step b12); have B12 := Lib.hid (B11.out.next b12); clear b12 ; skip)
    | ((with_reducible refine RF12.out.wpLoadK 26 fits_rgeo rfl ?_ ?_); rfl)
    | (go_at_call 18; (with_reducible refine (HLI.out w12).mono ?_); rintro e w13 ⟨⟨v, rfl, hv⟩, b13⟩; obtain ⟨la, lc, rfl, hl⟩ := own_formM hv; have HL := Lib.hid hl; have RG13 := Lib.hid (RG12.out.step b13); have RA13 := Lib.hid (RA12.out.step b13); have RB13 := Lib.hid (RB12.out.step b13); have RF13 := Lib.hid (RF12.out.step b13); have B13 := Lib.hid (B12.out.next b13); clear b13 hv hl))
  have HF0 := Lib.hid fun (wx : World) (hb : Below w13.heap.size w13 wx) => HFI.out wx la lc 0 a0 a1 a2 (HL.out.step hb)
  have HF1 := Lib.hid fun (wx : World) (hb : Below w13.heap.size w13 wx) => HFI.out wx la lc 1 a0 a1 0 (HL.out.step hb)
  have HF2 := Lib.hid fun (wx : World) (hb : Below w13.heap.size w13 wx) => HFI.out wx la lc 2 a0 0 0 (HL.out.step hb)
  have HLO := Lib.hid fun (wx : World) (hb : Below w13.heap.size w13 wx) => HLO.out wx la lc (HL.out.step hb)
  have LG : Hid (w.heap.size < w13.heap.size) := Lib.hid RG13.out.lt
  have CG0 : Hid (w13.cell? ⟨w.heap.size, 0, none⟩ = some (.int .i64 d)) := Lib.hid (RG13.out.cell 0)
  have CG1 : Hid (w13.cell? ⟨w.heap.size, 1, none⟩ = some (.int .i64 p)) := Lib.hid (RG13.out.cell 1)
  have CG2 : Hid (w13.cell? ⟨w.heap.size, 2, none⟩ = some (.int .i64 s)) := Lib.hid (RG13.out.cell 2)
  have LA : Hid (w1.heap.size < w13.heap.size) := Lib.hid RA13.out.lt
  have CA0 : Hid (w13.cell? ⟨w1.heap.size, 0, none⟩ = some (.int .i64 a0)) := Lib.hid (RA13.out.cell 0)
  have CA1 : Hid (w13.cell? ⟨w1.heap.size, 1, none⟩ = some (.int .i64 a1)) := Lib.hid (RA13.out.cell 1)
  have CA2 : Hid (w13.cell? ⟨w1.heap.size, 2, none⟩ = some (.int .i64 a2)) := Lib.hid (RA13.out.cell 2)
  have LB : Hid (w2.heap.size < w13.heap.size) := Lib.hid RB13.out.lt
  have CB0 : Hid (w13.cell? ⟨w2.heap.size, 0, none⟩ = some (.int .i64 b0)) := Lib.hid (RB13.out.cell 0)
  have CB1 : Hid (w13.cell? ⟨w2.heap.size, 1, none⟩ = some (.int .i64 b1)) := Lib.hid (RB13.out.cell 1)
  have CB2 : Hid (w13.cell? ⟨w2.heap.size, 2, none⟩ = some (.int .i64 b2)) := Lib.hid (RB13.out.cell 2)
  have LF : Hid (w4.heap.size < w13.heap.size) := Lib.hid RF13.out.lt
  have CF0 : Hid (w13.cell? ⟨w4.heap.size, 0, none⟩ = some (.int .i64 d)) := Lib.hid (RF13.out.cell 0)
  have CF1 : Hid (w13.cell? ⟨w4.heap.size, 1, none⟩ = some (.int .i64 p)) := Lib.hid (RF13.out.cell 1)
  have CF2 : Hid (w13.cell? ⟨w4.heap.size, 2, none⟩ = some (.int .i64 s)) := Lib.hid (RF13.out.cell 2)
  refine region_invX [(0, 119), (1, 120), (2, 121), (3, 122), (4, 123), (5, 124), (6, 125), (7, 126), (8, 127), (9, 128), (10, 129), (11, 130), (12, 131), (13, 132), (14, 133), (15, 134), (16, 135), (17, 136), (18, 137), (19, 138), (20, 139), (21, 140), (22, 141), (23, 142), (24, 143), (25, 144), (26, 145), (27, 146), (28, 147), (29, 148), (30, 149), (31, 150), (32, 151), (33, 152), (34, 153), (35, 154), (36, 155), (37, 156), (38, 157), (39, 158), (40, 159), (41, 160), (42, 161), (43, 162), (44, 163), (45, 164), (46, 165), (47, 166), (48, 167), (49, 168)]
    (fun ii => [Is (.agg #[(.int .i64 d), (.int .i64 p), (.int .i64 s)]), Is (.bool true), Is (.bool false), Is (.bool false), Is (.agg #[(.int .i64 d), (.int .i64 p), (.int .i64 s)]), Is (.int .i64 (N : Int)), Is (.slice la N lc), Is (.int .i64 (N : Int)), Is (.bool false), Is (.bool false), Is (.bool false), Is (.agg #[(.int .i64 d), (.int .i64 p), (.int .i64 s)]), Is (.int .i64 sl), Is (.pointer (some ⟨w.heap.size, 0, none⟩)), Is (.int .i64 d), Is (.pointer (some ⟨w.heap.size, 1, none⟩)), Is (.int .i64 p), Is (.int .i64 wd), Is (.pointer (some ⟨w.heap.size, 2, none⟩)), Is (.int .i64 s), Is (.int .i64 sl), Is (.bool false), Is (.bool false), Is (.bool false), Is (.agg #[(.int .i64 d), (.int .i64 p), (.int .i64 s)]), Is (.int .i64 wd), Is (.pointer (some ⟨w.heap.size, 0, none⟩)), Is (.int .i64 d), Is (.pointer (some ⟨w.heap.size, 1, none⟩)), Is (.int .i64 p), Is (.int .i64 wd), Is (.bool false), Is (.bool false), Is (.bool false), Is (.agg #[(.int .i64 d), (.int .i64 p), (.int .i64 s)]), Is (.int .i64 rm), Is (.agg #[(.int .i64 d), (.int .i64 p), (.int .i64 s)]), Is (.int .i64 rm), Is (.bool false), Is (.bool false), Is (.bool false), Is (.int .i64 0), Is (.bool false), Is (.bool false), Is (.bool false), Is (.int .i64 sl), Is (.agg #[(.int .i64 d), (.int .i64 p), (.int .i64 s)]), Is (.int .i64 sl), Is (.bool false), Is (.bool false)].getD ii (Is undef))
    (fun w' => Below w13.heap.size w13 w') (by kernel_rfl) (by kernel_rfl) (by decide) (by decide) (by kernel_rfl) rfl ?monon ((Below.refl _ _).drew) ?stepn ?finn
  case monon =>
    intro i
    match i with
    | 0 | 1 | 2 | 3 | 4 | 5 | 6 | 7 | 8 | 9 | 10 | 11 | 12 | 13 | 14 | 15 | 16 | 17 | 18 | 19 | 20 | 21 | 22 | 23 | 24 | 25 | 26 | 27 | 28 | 29 | 30 | 31 | 32 | 33 | 34 | 35 | 36 | 37 | 38 | 39 | 40 | 41 | 42 | 43 | 44 | 45 | 46 | 47 | 48 | 49 => exact Is.monot _
    | _ + 50 => exact Is.monot _
  case stepn =>
    refine List.forall_mem_cons.2 ⟨?ns0, List.forall_mem_cons.2 ⟨?ns1, List.forall_mem_cons.2 ⟨?ns2, List.forall_mem_cons.2 ⟨?ns3, List.forall_mem_cons.2 ⟨?ns4, List.forall_mem_cons.2 ⟨?ns5, List.forall_mem_cons.2 ⟨?ns6, List.forall_mem_cons.2 ⟨?ns7, List.forall_mem_cons.2 ⟨?ns8, List.forall_mem_cons.2 ⟨?ns9, List.forall_mem_cons.2 ⟨?ns10, List.forall_mem_cons.2 ⟨?ns11, List.forall_mem_cons.2 ⟨?ns12, List.forall_mem_cons.2 ⟨?ns13, List.forall_mem_cons.2 ⟨?ns14, List.forall_mem_cons.2 ⟨?ns15, List.forall_mem_cons.2 ⟨?ns16, List.forall_mem_cons.2 ⟨?ns17, List.forall_mem_cons.2 ⟨?ns18, List.forall_mem_cons.2 ⟨?ns19, List.forall_mem_cons.2 ⟨?ns20, List.forall_mem_cons.2 ⟨?ns21, List.forall_mem_cons.2 ⟨?ns22, List.forall_mem_cons.2 ⟨?ns23, List.forall_mem_cons.2 ⟨?ns24, List.forall_mem_cons.2 ⟨?ns25, List.forall_mem_cons.2 ⟨?ns26, List.forall_mem_cons.2 ⟨?ns27, List.forall_mem_cons.2 ⟨?ns28, List.forall_mem_cons.2 ⟨?ns29, List.forall_mem_cons.2 ⟨?ns30, List.forall_mem_cons.2 ⟨?ns31, List.forall_mem_cons.2 ⟨?ns32, List.forall_mem_cons.2 ⟨?ns33, List.forall_mem_cons.2 ⟨?ns34, List.forall_mem_cons.2 ⟨?ns35, List.forall_mem_cons.2 ⟨?ns36, List.forall_mem_cons.2 ⟨?ns37, List.forall_mem_cons.2 ⟨?ns38, List.forall_mem_cons.2 ⟨?ns39, List.forall_mem_cons.2 ⟨?ns40, List.forall_mem_cons.2 ⟨?ns41, List.forall_mem_cons.2 ⟨?ns42, List.forall_mem_cons.2 ⟨?ns43, List.forall_mem_cons.2 ⟨?ns44, List.forall_mem_cons.2 ⟨?ns45, List.forall_mem_cons.2 ⟨?ns46, List.forall_mem_cons.2 ⟨?ns47, List.forall_mem_cons.2 ⟨?ns48, List.forall_mem_cons.2 ⟨?ns49, List.forall_mem_nil _⟩⟩⟩⟩⟩⟩⟩⟩⟩⟩⟩⟩⟩⟩⟩⟩⟩⟩⟩⟩⟩⟩⟩⟩⟩⟩⟩⟩⟩⟩⟩⟩⟩⟩⟩⟩⟩⟩⟩⟩⟩⟩⟩⟩⟩⟩⟩⟩⟩⟩
    case ns0 =>
      intro u wx hg hC
      clear hC
      have hcl0 : wx.cell? ⟨w.heap.size, 0, none⟩ = some (.int .i64 d) := (hg.cell (p := ⟨w.heap.size, 0, none⟩) LG.out).trans CG0.out
      have hcl1 : wx.cell? ⟨w.heap.size, 1, none⟩ = some (.int .i64 p) := (hg.cell (p := ⟨w.heap.size, 1, none⟩) LG.out).trans CG1.out
      have hcl2 : wx.cell? ⟨w.heap.size, 2, none⟩ = some (.int .i64 s) := (hg.cell (p := ⟨w.heap.size, 2, none⟩) LG.out).trans CG2.out
      refine wpOp_step rfl (fun K hK => ?_)
      simp only [puts, List.foldl]
      go_simp
      exact hK _ _ ⟨rfl, rfl, hg, Below.refl _ _⟩
    case ns1 =>
      intro u wx hg hC
      have hJ0 : u 0 = (.agg #[(.int .i64 d), (.int .i64 p), (.int .i64 s)]) := hC.at 0 (by kernel_rfl)
      clear hC
      refine wpOp_step rfl (fun K hK => ?_)
      simp only [puts, List.foldl]
      go_simp
      refine (HR.out wx).mono ?_
      rintro e w' ⟨rfl, hb'⟩
      exact hK _ _ ⟨rfl, rfl, hg.next hb', hb'⟩
    case ns2 =>
      intro u wx hg hC
      have hJ1 : u 1 = (.bool true) := hC.at 1 (by kernel_rfl)
      clear hC
      refine wpOp_step rfl (fun K hK => ?_)
      simp only [puts, List.foldl]
      go_simp
      exact hK _ _ ⟨rfl, rfl, hg, Below.refl _ _⟩
    case ns3 =>
      intro u wx hg hC
      have hJ2 : u 2 = (.bool false) := hC.at 2 (by kernel_rfl)
      clear hC
      refine wpOp_step rfl (fun K hK => ?_)
      simp only [puts, List.foldl]
      go_simp
      exact hK _ _ ⟨rfl, rfl, hg, Below.refl _ _⟩
    case ns4 =>
      intro u wx hg hC
      have hJ3 : u 3 = (.bool false) := hC.at 3 (by kernel_rfl)
      clear hC
      have hcl0 : wx.cell? ⟨w.heap.size, 0, none⟩ = some (.int .i64 d) := (hg.cell (p := ⟨w.heap.size, 0, none⟩) LG.out).trans CG0.out
      have hcl1 : wx.cell? ⟨w.heap.size, 1, none⟩ = some (.int .i64 p) := (hg.cell (p := ⟨w.heap.size, 1, none⟩) LG.out).trans CG1.out
      have hcl2 : wx.cell? ⟨w.heap.size, 2, none⟩ = some (.int .i64 s) := (hg.cell (p := ⟨w.heap.size, 2, none⟩) LG.out).trans CG2.out
      generalize hA : puts [(0, 119), (1, 120), (2, 121), (3, 122), (4, 123), (5, 124), (6, 125), (7, 126), (8, 127), (9, 128), (10, 129), (11, 130), (12, 131), (13, 132), (14, 133), (15, 134), (16, 135), (17, 136), (18, 137), (19, 138), (20, 139), (21, 140), (22, 141), (23, 142), (24, 143), (25, 144), (26, 145), (27, 146), (28, 147), (29, 148), (30, 149), (31, 150), (32, 151), (33, 152), (34, 153), (35, 154), (36, 155), (37, 156), (38, 157), (39, 158), (40, 159), (41, 160), (42, 161), (43, 162), (44, 163), (45, 164), (46, 165), (47, 166), (48, 167), (49, 168)] _ u = A
      have hgv : A.tmps.getD 122 undef = .bool false := by rw [← hA]; exact (puts_get u 3 122 _ _ (by decide) (by decide) (by kernel_rfl)).trans hJ3
      have hgs : 122 < A.tmps.size := by rw [← hA]; exact puts_room u (by kernel_rfl)
      refine wpOp_guard rfl 3 122 false rfl rfl hgs hgv (fun K hK => ?_)
      subst hA
      simp only [puts, List.foldl]
      go_simp
      exact hK _ _ ⟨rfl, rfl, hg, Below.refl _ _⟩
    case ns5 =>
      intro u wx hg hC
      have hJ3 : u 3 = (.bool false) := hC.at 3 (by kernel_rfl)
      have hJ4 : u 4 = (.agg #[(.int .i64 d), (.int .i64 p), (.int .i64 s)]) := hC.at 4 (by kernel_rfl)
      clear hC
      generalize hA : puts [(0, 119), (1, 120), (2, 121), (3, 122), (4, 123), (5, 124), (6, 125), (7, 126), (8, 127), (9, 128), (10, 129), (11, 130), (12, 131), (13, 132), (14, 133), (15, 134), (16, 135), (17, 136), (18, 137), (19, 138), (20, 139), (21, 140), (22, 141), (23, 142), (24, 143), (25, 144), (26, 145), (27, 146), (28, 147), (29, 148), (30, 149), (31, 150), (32, 151), (33, 152), (34, 153), (35, 154), (36, 155), (37, 156), (38, 157), (39, 158), (40, 159), (41, 160), (42, 161), (43, 162), (44, 163), (45, 164), (46, 165), (47, 166), (48, 167), (49, 168)] _ u = A
      have hgv : A.tmps.getD 122 undef = .bool false := by rw [← hA]; exact (puts_get u 3 122 _ _ (by decide) (by decide) (by kernel_rfl)).trans hJ3
      have hgs : 122 < A.tmps.size := by rw [← hA]; exact puts_room u (by kernel_rfl)
      refine wpOp_guard rfl 3 122 false rfl rfl hgs hgv (fun K hK => ?_)
      subst hA
      simp only [puts, List.foldl]
      go_simp
      refine (HAL.out wx).mono ?_
      rintro e w' ⟨rfl, hb'⟩
      exact hK _ _ ⟨rfl, rfl, hg.next hb', hb'⟩
    case ns6 =>
      intro u wx hg hC
      have hJ3 : u 3 = (.bool false) := hC.at 3 (by kernel_rfl)
      clear hC
      generalize hA : puts [(0, 119), (1, 120), (2, 121), (3, 122), (4, 123), (5, 124), (6, 125), (7, 126), (8, 127), (9, 128), (10, 129), (11, 130), (12, 131), (13, 132), (14, 133), (15, 134), (16, 135), (17, 136), (18, 137), (19, 138), (20, 139), (21, 140), (22, 141), (23, 142), (24, 143), (25, 144), (26, 145), (27, 146), (28, 147), (29, 148), (30, 149), (31, 150), (32, 151), (33, 152), (34, 153), (35, 154), (36, 155), (37, 156), (38, 157), (39, 158), (40, 159), (41, 160), (42, 161), (43, 162), (44, 163), (45, 164), (46, 165), (47, 166), (48, 167), (49, 168)] _ u = A
      have hgv : A.tmps.getD 122 undef = .bool false := by rw [← hA]; exact (puts_get u 3 122 _ _ (by decide) (by decide) (by kernel_rfl)).trans hJ3
      have hgs : 122 < A.tmps.size := by rw [← hA]; exact puts_room u (by kernel_rfl)
      refine wpOp_guard rfl 3 122 false rfl rfl hgs hgv (fun K hK => ?_)
      subst hA
      simp only [puts, List.foldl]
      go_simp
      exact hK _ _ ⟨rfl, rfl, hg, Below.refl _ _⟩
    case ns7 =>
      intro u wx hg hC
      have hJ3 : u 3 = (.bool false) := hC.at 3 (by kernel_rfl)
      have hJ6 : u 6 = (.slice la N lc) := hC.at 6 (by kernel_rfl)
      clear hC
      generalize hA : puts [(0, 119), (1, 120), (2, 121), (3, 122), (4, 123), (5, 124), (6, 125), (7, 126), (8, 127), (9, 128), (10, 129), (11, 130), (12, 131), (13, 132), (14, 133), (15, 134), (16, 135), (17, 136), (18, 137), (19, 138), (20, 139), (21, 140), (22, 141), (23, 142), (24, 143), (25, 144), (26, 145), (27, 146), (28, 147), (29, 148), (30, 149), (31, 150), (32, 151), (33, 152), (34, 153), (35, 154), (36, 155), (37, 156), (38, 157), (39, 158), (40, 159), (41, 160), (42, 161), (43, 162), (44, 163), (45, 164), (46, 165), (47, 166), (48, 167), (49, 168)] _ u = A
      have hgv : A.tmps.getD 122 undef = .bool false := by rw [← hA]; exact (puts_get u 3 122 _ _ (by decide) (by decide) (by kernel_rfl)).trans hJ3
      have hgs : 122 < A.tmps.size := by rw [← hA]; exact puts_room u (by kernel_rfl)
      refine wpOp_guard rfl 3 122 false rfl rfl hgs hgv (fun K hK => ?_)
      subst hA
      simp only [puts, List.foldl]
      go_simp
      exact hK _ _ ⟨rfl, rfl, hg, Below.refl _ _⟩
    case ns8 =>
      intro u wx hg hC
      have hJ3 : u 3 = (.bool false) := hC.at 3 (by kernel_rfl)
      have hJ5 : u 5 = (.int .i64 (N : Int)) := hC.at 5 (by kernel_rfl)
      have hJ7 : u 7 = (.int .i64 (N : Int)) := hC.at 7 (by kernel_rfl)
      clear hC
      generalize hA : puts [(0, 119), (1, 120), (2, 121), (3, 122), (4, 123), (5, 124), (6, 125), (7, 126), (8, 127), (9, 128), (10, 129), (11, 130), (12, 131), (13, 132), (14, 133), (15, 134), (16, 135), (17, 136), (18, 137), (19, 138), (20, 139), (21, 140), (22, 141), (23, 142), (24, 143), (25, 144), (26, 145), (27, 146), (28, 147), (29, 148), (30, 149), (31, 150), (32, 151), (33, 152), (34, 153), (35, 154), (36, 155), (37, 156), (38, 157), (39, 158), (40, 159), (41, 160), (42, 161), (43, 162), (44, 163), (45, 164), (46, 165), (47, 166), (48, 167), (49, 168)] _ u = A
      have hgv : A.tmps.getD 122 undef = .bool false := by rw [← hA]; exact (puts_get u 3 122 _ _ (by decide) (by decide) (by kernel_rfl)).trans hJ3
      have hgs : 122 < A.tmps.size := by rw [← hA]; exact puts_room u (by kernel_rfl)
      refine wpOp_guard rfl 3 122 false rfl rfl hgs hgv (fun K hK => ?_)
      subst hA
      simp only [puts, List.foldl]
      go_simp
      exact hK _ _ ⟨rfl, rfl, hg, Below.refl _ _⟩
    case ns9 =>
      intro u wx hg hC
      have hJ3 : u 3 = (.bool false) := hC.at 3 (by kernel_rfl)
      have hJ8 : u 8 = (.bool false) := hC.at 8 (by kernel_rfl)
      clear hC
      refine wpOp_step rfl (fun K hK => ?_)
      simp only [puts, List.foldl]
      go_simp
      exact hK _ _ ⟨rfl, rfl, hg, Below.refl _ _⟩
    case ns10 =>
      intro u wx hg hC
      have hJ9 : u 9 = (.bool false) := hC.at 9 (by kernel_rfl)
      clear hC
      refine wpOp_step rfl (fun K hK => ?_)
      simp only [puts, List.foldl]
      go_simp
      exact hK _ _ ⟨rfl, rfl, hg, Below.refl _ _⟩
    case ns11 =>
      intro u wx hg hC
      have hJ10 : u 10 = (.bool false) := hC.at 10 (by kernel_rfl)
      clear hC
      have hcl0 : wx.cell? ⟨w.heap.size, 0, none⟩ = some (.int .i64 d) := (hg.cell (p := ⟨w.heap.size, 0, none⟩) LG.out).trans CG0.out
      have hcl1 : wx.cell? ⟨w.heap.size, 1, none⟩ = some (.int .i64 p) := (hg.cell (p := ⟨w.heap.size, 1, none⟩) LG.out).trans CG1.out
      have hcl2 : wx.cell? ⟨w.heap.size, 2, none⟩ = some (.int .i64 s) := (hg.cell (p := ⟨w.heap.size, 2, none⟩) LG.out).trans CG2.out
      generalize hA : puts [(0, 119), (1, 120), (2, 121), (3, 122), (4, 123), (5, 124), (6, 125), (7, 126), (8, 127), (9, 128), (10, 129), (11, 130), (12, 131), (13, 132), (14, 133), (15, 134), (16, 135), (17, 136), (18, 137), (19, 138), (20, 139), (21, 140), (22, 141), (23, 142), (24, 143), (25, 144), (26, 145), (27, 146), (28, 147), (29, 148), (30, 149), (31, 150), (32, 151), (33, 152), (34, 153), (35, 154), (36, 155), (37, 156), (38, 157), (39, 158), (40, 159), (41, 160), (42, 161), (43, 162), (44, 163), (45, 164), (46, 165), (47, 166), (48, 167), (49, 168)] _ u = A
      have hgv : A.tmps.getD 129 undef = .bool false := by rw [← hA]; exact (puts_get u 10 129 _ _ (by decide) (by decide) (by kernel_rfl)).trans hJ10
      have hgs : 129 < A.tmps.size := by rw [← hA]; exact puts_room u (by kernel_rfl)
      refine wpOp_guard rfl 10 129 false rfl rfl hgs hgv (fun K hK => ?_)
      subst hA
      simp only [puts, List.foldl]
      go_simp
      exact hK _ _ ⟨rfl, rfl, hg, Below.refl _ _⟩
    case ns12 =>
      intro u wx hg hC
      have hJ10 : u 10 = (.bool false) := hC.at 10 (by kernel_rfl)
      have hJ11 : u 11 = (.agg #[(.int .i64 d), (.int .i64 p), (.int .i64 s)]) := hC.at 11 (by kernel_rfl)
      clear hC
      generalize hA : puts [(0, 119), (1, 120), (2, 121), (3, 122), (4, 123), (5, 124), (6, 125), (7, 126), (8, 127), (9, 128), (10, 129), (11, 130), (12, 131), (13, 132), (14, 133), (15, 134), (16, 135), (17, 136), (18, 137), (19, 138), (20, 139), (21, 140), (22, 141), (23, 142), (24, 143), (25, 144), (26, 145), (27, 146), (28, 147), (29, 148), (30, 149), (31, 150), (32, 151), (33, 152), (34, 153), (35, 154), (36, 155), (37, 156), (38, 157), (39, 158), (40, 159), (41, 160), (42, 161), (43, 162), (44, 163), (45, 164), (46, 165), (47, 166), (48, 167), (49, 168)] _ u = A
      have hgv : A.tmps.getD 129 undef = .bool false := by rw [← hA]; exact (puts_get u 10 129 _ _ (by decide) (by decide) (by kernel_rfl)).trans hJ10
      have hgs : 129 < A.tmps.size := by rw [← hA]; exact puts_room u (by kernel_rfl)
      refine wpOp_guard rfl 10 129 false rfl rfl hgs hgv (fun K hK => ?_)
      subst hA
      simp only [puts, List.foldl]
      go_simp
      refine (HSL.out wx).mono ?_
      rintro e w' ⟨rfl, hb'⟩
      exact hK _ _ ⟨rfl, rfl, hg.next hb', hb'⟩
    case ns13 =>
      intro u wx hg hC
      have hJ10 : u 10 = (.bool false) := hC.at 10 (by kernel_rfl)
      clear hC
      generalize hA : puts [(0, 119), (1, 120), (2, 121), (3, 122), (4, 123), (5, 124), (6, 125), (7, 126), (8, 127), (9, 128), (10, 129), (11, 130), (12, 131), (13, 132), (14, 133), (15, 134), (16, 135), (17, 136), (18, 137), (19, 138), (20, 139), (21, 140), (22, 141), (23, 142), (24, 143), (25, 144), (26, 145), (27, 146), (28, 147), (29, 148), (30, 149), (31, 150), (32, 151), (33, 152), (34, 153), (35, 154), (36, 155), (37, 156), (38, 157), (39, 158), (40, 159), (41, 160), (42, 161), (43, 162), (44, 163), (45, 164), (46, 165), (47, 166), (48, 167), (49, 168)] _ u = A
      have hgv : A.tmps.getD 129 undef = .bool false := by rw [← hA]; exact (puts_get u 10 129 _ _ (by decide) (by decide) (by kernel_rfl)).trans hJ10
      have hgs : 129 < A.tmps.size := by rw [← hA]; exact puts_room u (by kernel_rfl)
      refine wpOp_guard rfl 10 129 false rfl rfl hgs hgv (fun K hK => ?_)
      subst hA
      simp only [puts, List.foldl]
      go_simp
      exact hK _ _ ⟨rfl, rfl, hg, Below.refl _ _⟩
    case ns14 =>
      intro u wx hg hC
      have hJ10 : u 10 = (.bool false) := hC.at 10 (by kernel_rfl)
      have hJ13 : u 13 = (.pointer (some ⟨w.heap.size, 0, none⟩)) := hC.at 13 (by kernel_rfl)
      clear hC
      have hcl : wx.cell? ⟨w.heap.size, 0, none⟩ = some (.int .i64 d) := (hg.cell (p := ⟨w.heap.size, 0, none⟩) LG.out).trans CG0.out
      generalize hA : puts [(0, 119), (1, 120), (2, 121), (3, 122), (4, 123), (5, 124), (6, 125), (7, 126), (8, 127), (9, 128), (10, 129), (11, 130), (12, 131), (13, 132), (14, 133), (15, 134), (16, 135), (17, 136), (18, 137), (19, 138), (20, 139), (21, 140), (22, 141), (23, 142), (24, 143), (25, 144), (26, 145), (27, 146), (28, 147), (29, 148), (30, 149), (31, 150), (32, 151), (33, 152), (34, 153), (35, 154), (36, 155), (37, 156), (38, 157), (39, 158), (40, 159), (41, 160), (42, 161), (43, 162), (44, 163), (45, 164), (46, 165), (47, 166), (48, 167), (49, 168)] _ u = A
      have hgv : A.tmps.getD 129 undef = .bool false := by rw [← hA]; exact (puts_get u 10 129 _ _ (by decide) (by decide) (by kernel_rfl)).trans hJ10
      have hgs : 129 < A.tmps.size := by rw [← hA]; exact puts_room u (by kernel_rfl)
      refine wpOp_guard rfl 10 129 false rfl rfl hgs hgv (fun K hK => ?_)
      subst hA
      simp only [puts, List.foldl]
      go_simp
      exact hK _ _ ⟨rfl, rfl, hg, Below.refl _ _⟩
    case ns15 =>
      intro u wx hg hC
      have hJ10 : u 10 = (.bool false) := hC.at 10 (by kernel_rfl)
      clear hC
      generalize hA : puts [(0, 119), (1, 120), (2, 121), (3, 122), (4, 123), (5, 124), (6, 125), (7, 126), (8, 127), (9, 128), (10, 129), (11, 130), (12, 131), (13, 132), (14, 133), (15, 134), (16, 135), (17, 136), (18, 137), (19, 138), (20, 139), (21, 140), (22, 141), (23, 142), (24, 143), (25, 144), (26, 145), (27, 146), (28, 147), (29, 148), (30, 149), (31, 150), (32, 151), (33, 152), (34, 153), (35, 154), (36, 155), (37, 156), (38, 157), (39, 158), (40, 159), (41, 160), (42, 161), (43, 162), (44, 163), (45, 164), (46, 165), (47, 166), (48, 167), (49, 168)] _ u = A
      have hgv : A.tmps.getD 129 undef = .bool false := by rw [← hA]; exact (puts_get u 10 129 _ _ (by decide) (by decide) (by kernel_rfl)).trans hJ10
      have hgs : 129 < A.tmps.size := by rw [← hA]; exact puts_room u (by kernel_rfl)
      refine wpOp_guard rfl 10 129 false rfl rfl hgs hgv (fun K hK => ?_)
      subst hA
      simp only [puts, List.foldl]
      go_simp
      exact hK _ _ ⟨rfl, rfl, hg, Below.refl _ _⟩
    case ns16 =>
      intro u wx hg hC
      have hJ10 : u 10 = (.bool false) := hC.at 10 (by kernel_rfl)
      have hJ15 : u 15 = (.pointer (some ⟨w.heap.size, 1, none⟩)) := hC.at 15 (by kernel_rfl)
      clear hC
      have hcl : wx.cell? ⟨w.heap.size, 1, none⟩ = some (.int .i64 p) := (hg.cell (p := ⟨w.heap.size, 1, none⟩) LG.out).trans CG1.out
      generalize hA : puts [(0, 119), (1, 120), (2, 121), (3, 122), (4, 123), (5, 124), (6, 125), (7, 126), (8, 127), (9, 128), (10, 129), (11, 130), (12, 131), (13, 132), (14, 133), (15, 134), (16, 135), (17, 136), (18, 137), (19, 138), (20, 139), (21, 140), (22, 141), (23, 142), (24, 143), (25, 144), (26, 145), (27, 146), (28, 147), (29, 148), (30, 149), (31, 150), (32, 151), (33, 152), (34, 153), (35, 154), (36, 155), (37, 156), (38, 157), (39, 158), (40, 159), (41, 160), (42, 161), (43, 162), (44, 163), (45, 164), (46, 165), (47, 166), (48, 167), (49, 168)] _ u = A
      have hgv : A.tmps.getD 129 undef = .bool false := by rw [← hA]; exact (puts_get u 10 129 _ _ (by decide) (by decide) (by kernel_rfl)).trans hJ10
      have hgs : 129 < A.tmps.size := by rw [← hA]; exact puts_room u (by kernel_rfl)
      refine wpOp_guard rfl 10 129 false rfl rfl hgs hgv (fun K hK => ?_)
      subst hA
      simp only [puts, List.foldl]
      go_simp
      exact hK _ _ ⟨rfl, rfl, hg, Below.refl _ _⟩
    case ns17 =>
      intro u wx hg hC
      have hJ10 : u 10 = (.bool false) := hC.at 10 (by kernel_rfl)
      have hJ14 : u 14 = (.int .i64 d) := hC.at 14 (by kernel_rfl)
      have hJ16 : u 16 = (.int .i64 p) := hC.at 16 (by kernel_rfl)
      clear hC
      have hw : IntKind.i64.wrap (d + p) = wd := WA.out
      generalize hA : puts [(0, 119), (1, 120), (2, 121), (3, 122), (4, 123), (5, 124), (6, 125), (7, 126), (8, 127), (9, 128), (10, 129), (11, 130), (12, 131), (13, 132), (14, 133), (15, 134), (16, 135), (17, 136), (18, 137), (19, 138), (20, 139), (21, 140), (22, 141), (23, 142), (24, 143), (25, 144), (26, 145), (27, 146), (28, 147), (29, 148), (30, 149), (31, 150), (32, 151), (33, 152), (34, 153), (35, 154), (36, 155), (37, 156), (38, 157), (39, 158), (40, 159), (41, 160), (42, 161), (43, 162), (44, 163), (45, 164), (46, 165), (47, 166), (48, 167), (49, 168)] _ u = A
      have hgv : A.tmps.getD 129 undef = .bool false := by rw [← hA]; exact (puts_get u 10 129 _ _ (by decide) (by decide) (by kernel_rfl)).trans hJ10
      have hgs : 129 < A.tmps.size := by rw [← hA]; exact puts_room u (by kernel_rfl)
      refine wpOp_guard rfl 10 129 false rfl rfl hgs hgv (fun K hK => ?_)
      subst hA
      simp only [puts, List.foldl]
      go_simp
      exact hK _ _ ⟨rfl, rfl, hg, Below.refl _ _⟩
    case ns18 =>
      intro u wx hg hC
      have hJ10 : u 10 = (.bool false) := hC.at 10 (by kernel_rfl)
      clear hC
      generalize hA : puts [(0, 119), (1, 120), (2, 121), (3, 122), (4, 123), (5, 124), (6, 125), (7, 126), (8, 127), (9, 128), (10, 129), (11, 130), (12, 131), (13, 132), (14, 133), (15, 134), (16, 135), (17, 136), (18, 137), (19, 138), (20, 139), (21, 140), (22, 141), (23, 142), (24, 143), (25, 144), (26, 145), (27, 146), (28, 147), (29, 148), (30, 149), (31, 150), (32, 151), (33, 152), (34, 153), (35, 154), (36, 155), (37, 156), (38, 157), (39, 158), (40, 159), (41, 160), (42, 161), (43, 162), (44, 163), (45, 164), (46, 165), (47, 166), (48, 167), (49, 168)] _ u = A
      have hgv : A.tmps.getD 129 undef = .bool false := by rw [← hA]; exact (puts_get u 10 129 _ _ (by decide) (by decide) (by kernel_rfl)).trans hJ10
      have hgs : 129 < A.tmps.size := by rw [← hA]; exact puts_room u (by kernel_rfl)
      refine wpOp_guard rfl 10 129 false rfl rfl hgs hgv (fun K hK => ?_)
      subst hA
      simp only [puts, List.foldl]
      go_simp
      exact hK _ _ ⟨rfl, rfl, hg, Below.refl _ _⟩
    case ns19 =>
      intro u wx hg hC
      have hJ10 : u 10 = (.bool false) := hC.at 10 (by kernel_rfl)
      have hJ18 : u 18 = (.pointer (some ⟨w.heap.size, 2, none⟩)) := hC.at 18 (by kernel_rfl)
      clear hC
      have hcl : wx.cell? ⟨w.heap.size, 2, none⟩ = some (.int .i64 s) := (hg.cell (p := ⟨w.heap.size, 2, none⟩) LG.out).trans CG2.out
      generalize hA : puts [(0, 119), (1, 120), (2, 121), (3, 122), (4, 123), (5, 124), (6, 125), (7, 126), (8, 127), (9, 128), (10, 129), (11, 130), (12, 131), (13, 132), (14, 133), (15, 134), (16, 135), (17, 136), (18, 137), (19, 138), (20, 139), (21, 140), (22, 141), (23, 142), (24, 143), (25, 144), (26, 145), (27, 146), (28, 147), (29, 148), (30, 149), (31, 150), (32, 151), (33, 152), (34, 153), (35, 154), (36, 155), (37, 156), (38, 157), (39, 158), (40, 159), (41, 160), (42, 161), (43, 162), (44, 163), (45, 164), (46, 165), (47, 166), (48, 167), (49, 168)] _ u = A
      have hgv : A.tmps.getD 129 undef = .bool false := by rw [← hA]; exact (puts_get u 10 129 _ _ (by decide) (by decide) (by kernel_rfl)).trans hJ10
      have hgs : 129 < A.tmps.size := by rw [← hA]; exact puts_room u (by kernel_rfl)
      refine wpOp_guard rfl 10 129 false rfl rfl hgs hgv (fun K hK => ?_)
      subst hA
      simp only [puts, List.foldl]
      go_simp
      exact hK _ _ ⟨rfl, rfl, hg, Below.refl _ _⟩
    case ns20 =>
      intro u wx hg hC
      have hJ10 : u 10 = (.bool false) := hC.at 10 (by kernel_rfl)
      have hJ17 : u 17 = (.int .i64 wd) := hC.at 17 (by kernel_rfl)
      have hJ19 : u 19 = (.int .i64 s) := hC.at 19 (by kernel_rfl)
      clear hC
      have hw : IntKind.i64.wrap (wd * s) = sl := WM.out
      generalize hA : puts [(0, 119), (1, 120), (2, 121), (3, 122), (4, 123), (5, 124), (6, 125), (7, 126), (8, 127), (9, 128), (10, 129), (11, 130), (12, 131), (13, 132), (14, 133), (15, 134), (16, 135), (17, 136), (18, 137), (19, 138), (20, 139), (21, 140), (22, 141), (23, 142), (24, 143), (25, 144), (26, 145), (27, 146), (28, 147), (29, 148), (30, 149), (31, 150), (32, 151), (33, 152), (34, 153), (35, 154), (36, 155), (37, 156), (38, 157), (39, 158), (40, 159), (41, 160), (42, 161), (43, 162), (44, 163), (45, 164), (46, 165), (47, 166), (48, 167), (49, 168)] _ u = A
      have hgv : A.tmps.getD 129 undef = .bool false := by rw [← hA]; exact (puts_get u 10 129 _ _ (by decide) (by decide) (by kernel_rfl)).trans hJ10
      have hgs : 129 < A.tmps.size := by rw [← hA]; exact puts_room u (by kernel_rfl)
      refine wpOp_guard rfl 10 129 false rfl rfl hgs hgv (fun K hK => ?_)
      subst hA
      simp only [puts, List.foldl]
      go_simp
      exact hK _ _ ⟨rfl, rfl, hg, Below.refl _ _⟩
    case ns21 =>
      intro u wx hg hC
      have hJ10 : u 10 = (.bool false) := hC.at 10 (by kernel_rfl)
      have hJ12 : u 12 = (.int .i64 sl) := hC.at 12 (by kernel_rfl)
      have hJ20 : u 20 = (.int .i64 sl) := hC.at 20 (by kernel_rfl)
      clear hC
      generalize hA : puts [(0, 119), (1, 120), (2, 121), (3, 122), (4, 123), (5, 124), (6, 125), (7, 126), (8, 127), (9, 128), (10, 129), (11, 130), (12, 131), (13, 132), (14, 133), (15, 134), (16, 135), (17, 136), (18, 137), (19, 138), (20, 139), (21, 140), (22, 141), (23, 142), (24, 143), (25, 144), (26, 145), (27, 146), (28, 147), (29, 148), (30, 149), (31, 150), (32, 151), (33, 152), (34, 153), (35, 154), (36, 155), (37, 156), (38, 157), (39, 158), (40, 159), (41, 160), (42, 161), (43, 162), (44, 163), (45, 164), (46, 165), (47, 166), (48, 167), (49, 168)] _ u = A
      have hgv : A.tmps.getD 129 undef = .bool false := by rw [← hA]; exact (puts_get u 10 129 _ _ (by decide) (by decide) (by kernel_rfl)).trans hJ10
      have hgs : 129 < A.tmps.size := by rw [← hA]; exact puts_room u (by kernel_rfl)
      refine wpOp_guard rfl 10 129 false rfl rfl hgs hgv (fun K hK => ?_)
      subst hA
      simp only [puts, List.foldl]
      go_simp
      exact hK _ _ ⟨rfl, rfl, hg, Below.refl _ _⟩
    case ns22 =>
      intro u wx hg hC
      have hJ10 : u 10 = (.bool false) := hC.at 10 (by kernel_rfl)
      have hJ21 : u 21 = (.bool false) := hC.at 21 (by kernel_rfl)
      clear hC
      refine wpOp_step rfl (fun K hK => ?_)
      simp only [puts, List.foldl]
      go_simp
      exact hK _ _ ⟨rfl, rfl, hg, Below.refl _ _⟩
    case ns23 =>
      intro u wx hg hC
      have hJ22 : u 22 = (.bool false) := hC.at 22 (by kernel_rfl)
      clear hC
      refine wpOp_step rfl (fun K hK => ?_)
      simp only [puts, List.foldl]
      go_simp
      exact hK _ _ ⟨rfl, rfl, hg, Below.refl _ _⟩
    case ns24 =>
      intro u wx hg hC
      have hJ23 : u 23 = (.bool false) := hC.at 23 (by kernel_rfl)
      clear hC
      have hcl0 : wx.cell? ⟨w.heap.size, 0, none⟩ = some (.int .i64 d) := (hg.cell (p := ⟨w.heap.size, 0, none⟩) LG.out).trans CG0.out
      have hcl1 : wx.cell? ⟨w.heap.size, 1, none⟩ = some (.int .i64 p) := (hg.cell (p := ⟨w.heap.size, 1, none⟩) LG.out).trans CG1.out
      have hcl2 : wx.cell? ⟨w.heap.size, 2, none⟩ = some (.int .i64 s) := (hg.cell (p := ⟨w.heap.size, 2, none⟩) LG.out).trans CG2.out
      generalize hA : puts [(0, 119), (1, 120), (2, 121), (3, 122), (4, 123), (5, 124), (6, 125), (7, 126), (8, 127), (9, 128), (10, 129), (11, 130), (12, 131), (13, 132), (14, 133), (15, 134), (16, 135), (17, 136), (18, 137), (19, 138), (20, 139), (21, 140), (22, 141), (23, 142), (24, 143), (25, 144), (26, 145), (27, 146), (28, 147), (29, 148), (30, 149), (31, 150), (32, 151), (33, 152), (34, 153), (35, 154), (36, 155), (37, 156), (38, 157), (39, 158), (40, 159), (41, 160), (42, 161), (43, 162), (44, 163), (45, 164), (46, 165), (47, 166), (48, 167), (49, 168)] _ u = A
      have hgv : A.tmps.getD 142 undef = .bool false := by rw [← hA]; exact (puts_get u 23 142 _ _ (by decide) (by decide) (by kernel_rfl)).trans hJ23
      have hgs : 142 < A.tmps.size := by rw [← hA]; exact puts_room u (by kernel_rfl)
      refine wpOp_guard rfl 23 142 false rfl rfl hgs hgv (fun K hK => ?_)
      subst hA
      simp only [puts, List.foldl]
      go_simp
      exact hK _ _ ⟨rfl, rfl, hg, Below.refl _ _⟩
    case ns25 =>
      intro u wx hg hC
      have hJ23 : u 23 = (.bool false) := hC.at 23 (by kernel_rfl)
      have hJ24 : u 24 = (.agg #[(.int .i64 d), (.int .i64 p), (.int .i64 s)]) := hC.at 24 (by kernel_rfl)
      clear hC
      generalize hA : puts [(0, 119), (1, 120), (2, 121), (3, 122), (4, 123), (5, 124), (6, 125), (7, 126), (8, 127), (9, 128), (10, 129), (11, 130), (12, 131), (13, 132), (14, 133), (15, 134), (16, 135), (17, 136), (18, 137), (19, 138), (20, 139), (21, 140), (22, 141), (23, 142), (24, 143), (25, 144), (26, 145), (27, 146), (28, 147), (29, 148), (30, 149), (31, 150), (32, 151), (33, 152), (34, 153), (35, 154), (36, 155), (37, 156), (38, 157), (39, 158), (40, 159), (41, 160), (42, 161), (43, 162), (44, 163), (45, 164), (46, 165), (47, 166), (48, 167), (49, 168)] _ u = A
      have hgv : A.tmps.getD 142 undef = .bool false := by rw [← hA]; exact (puts_get u 23 142 _ _ (by decide) (by decide) (by kernel_rfl)).trans hJ23
      have hgs : 142 < A.tmps.size := by rw [← hA]; exact puts_room u (by kernel_rfl)
      refine wpOp_guard rfl 23 142 false rfl rfl hgs hgv (fun K hK => ?_)
      subst hA
      simp only [puts, List.foldl]
      go_simp
      refine (HWI.out wx).mono ?_
      rintro e w' ⟨rfl, hb'⟩
      exact hK _ _ ⟨rfl, rfl, hg.next hb', hb'⟩
    case ns26 =>
      intro u wx hg hC
      have hJ23 : u 23 = (.bool false) := hC.at 23 (by kernel_rfl)
      clear hC
      generalize hA : puts [(0, 119), (1, 120), (2, 121), (3, 122), (4, 123), (5, 124), (6, 125), (7, 126), (8, 127), (9, 128), (10, 129), (11, 130), (12, 131), (13, 132), (14, 133), (15, 134), (16, 135), (17, 136), (18, 137), (19, 138), (20, 139), (21, 140), (22, 141), (23, 142), (24, 143), (25, 144), (26, 145), (27, 146), (28, 147), (29, 148), (30, 149), (31, 150), (32, 151), (33, 152), (34, 153), (35, 154), (36, 155), (37, 156), (38, 157), (39, 158), (40, 159), (41, 160), (42, 161), (43, 162), (44, 163), (45, 164), (46, 165), (47, 166), (48, 167), (49, 168)] _ u = A
      have hgv : A.tmps.getD 142 undef = .bool false := by rw [← hA]; exact (puts_get u 23 142 _ _ (by decide) (by decide) (by kernel_rfl)).trans hJ23
      have hgs : 142 < A.tmps.size := by rw [← hA]; exact puts_room u (by kernel_rfl)
      refine wpOp_guard rfl 23 142 false rfl rfl hgs hgv (fun K hK => ?_)
      subst hA
      simp only [puts, List.foldl]
      go_simp
      exact hK _ _ ⟨rfl, rfl, hg, Below.refl _ _⟩
    case ns27 =>
      intro u wx hg hC
      have hJ23 : u 23 = (.bool false) := hC.at 23 (by kernel_rfl)
      have hJ26 : u 26 = (.pointer (some ⟨w.heap.size, 0, none⟩)) := hC.at 26 (by kernel_rfl)
      clear hC
      have hcl : wx.cell? ⟨w.heap.size, 0, none⟩ = some (.int .i64 d) := (hg.cell (p := ⟨w.heap.size, 0, none⟩) LG.out).trans CG0.out
      generalize hA : puts [(0, 119), (1, 120), (2, 121), (3, 122), (4, 123), (5, 124), (6, 125), (7, 126), (8, 127), (9, 128), (10, 129), (11, 130), (12, 131), (13, 132), (14, 133), (15, 134), (16, 135), (17, 136), (18, 137), (19, 138), (20, 139), (21, 140), (22, 141), (23, 142), (24, 143), (25, 144), (26, 145), (27, 146), (28, 147), (29, 148), (30, 149), (31, 150), (32, 151), (33, 152), (34, 153), (35, 154), (36, 155), (37, 156), (38, 157), (39, 158), (40, 159), (41, 160), (42, 161), (43, 162), (44, 163), (45, 164), (46, 165), (47, 166), (48, 167), (49, 168)] _ u = A
      have hgv : A.tmps.getD 142 undef = .bool false := by rw [← hA]; exact (puts_get u 23 142 _ _ (by decide) (by decide) (by kernel_rfl)).trans hJ23
      have hgs : 142 < A.tmps.size := by rw [← hA]; exact puts_room u (by kernel_rfl)
      refine wpOp_guard rfl 23 142 false rfl rfl hgs hgv (fun K hK => ?_)
      subst hA
      simp only [puts, List.foldl]
      go_simp
      exact hK _ _ ⟨rfl, rfl, hg, Below.refl _ _⟩
    case ns28 =>
      intro u wx hg hC
      have hJ23 : u 23 = (.bool false) := hC.at 23 (by kernel_rfl)
      clear hC
      generalize hA : puts [(0, 119), (1, 120), (2, 121), (3, 122), (4, 123), (5, 124), (6, 125), (7, 126), (8, 127), (9, 128), (10, 129), (11, 130), (12, 131), (13, 132), (14, 133), (15, 134), (16, 135), (17, 136), (18, 137), (19, 138), (20, 139), (21, 140), (22, 141), (23, 142), (24, 143), (25, 144), (26, 145), (27, 146), (28, 147), (29, 148), (30, 149), (31, 150), (32, 151), (33, 152), (34, 153), (35, 154), (36, 155), (37, 156), (38, 157), (39, 158), (40, 159), (41, 160), (42, 161), (43, 162), (44, 163), (45, 164), (46, 165), (47, 166), (48, 167), (49, 168)] _ u = A
      have hgv : A.tmps.getD 142 undef = .bool false := by rw [← hA]; exact (puts_get u 23 142 _ _ (by decide) (by decide) (by kernel_rfl)).trans hJ23
      have hgs : 142 < A.tmps.size := by rw [← hA]; exact puts_room u (by kernel_rfl)
      refine wpOp_guard rfl 23 142 false rfl rfl hgs hgv (fun K hK => ?_)
      subst hA
      simp only [puts, List.foldl]
      go_simp
      exact hK _ _ ⟨rfl, rfl, hg, Below.refl _ _⟩
    case ns29 =>
      intro u wx hg hC
      have hJ23 : u 23 = (.bool false) := hC.at 23 (by kernel_rfl)
      have hJ28 : u 28 = (.pointer (some ⟨w.heap.size, 1, none⟩)) := hC.at 28 (by kernel_rfl)
      clear hC
      have hcl : wx.cell? ⟨w.heap.size, 1, none⟩ = some (.int .i64 p) := (hg.cell (p := ⟨w.heap.size, 1, none⟩) LG.out).trans CG1.out
      generalize hA : puts [(0, 119), (1, 120), (2, 121), (3, 122), (4, 123), (5, 124), (6, 125), (7, 126), (8, 127), (9, 128), (10, 129), (11, 130), (12, 131), (13, 132), (14, 133), (15, 134), (16, 135), (17, 136), (18, 137), (19, 138), (20, 139), (21, 140), (22, 141), (23, 142), (24, 143), (25, 144), (26, 145), (27, 146), (28, 147), (29, 148), (30, 149), (31, 150), (32, 151), (33, 152), (34, 153), (35, 154), (36, 155), (37, 156), (38, 157), (39, 158), (40, 159), (41, 160), (42, 161), (43, 162), (44, 163), (45, 164), (46, 165), (47, 166), (48, 167), (49, 168)] _ u = A
      have hgv : A.tmps.getD 142 undef = .bool false := by rw [← hA]; exact (puts_get u 23 142 _ _ (by decide) (by decide) (by kernel_rfl)).trans hJ23
      have hgs : 142 < A.tmps.size := by rw [← hA]; exact puts_room u (by kernel_rfl)
      refine wpOp_guard rfl 23 142 false rfl rfl hgs hgv (fun K hK => ?_)
      subst hA
      simp only [puts, List.foldl]
      go_simp
      exact hK _ _ ⟨rfl, rfl, hg, Below.refl _ _⟩
    case ns30 =>
      intro u wx hg hC
      have hJ23 : u 23 = (.bool false) := hC.at 23 (by kernel_rfl)
      have hJ27 : u 27 = (.int .i64 d) := hC.at 27 (by kernel_rfl)
      have hJ29 : u 29 = (.int .i64 p) := hC.at 29 (by kernel_rfl)
      clear hC
      have hw : IntKind.i64.wrap (d + p) = wd := WA.out
      generalize hA : puts [(0, 119), (1, 120), (2, 121), (3, 122), (4, 123), (5, 124), (6, 125), (7, 126), (8, 127), (9, 128), (10, 129), (11, 130), (12, 131), (13, 132), (14, 133), (15, 134), (16, 135), (17, 136), (18, 137), (19, 138), (20, 139), (21, 140), (22, 141), (23, 142), (24, 143), (25, 144), (26, 145), (27, 146), (28, 147), (29, 148), (30, 149), (31, 150), (32, 151), (33, 152), (34, 153), (35, 154), (36, 155), (37, 156), (38, 157), (39, 158), (40, 159), (41, 160), (42, 161), (43, 162), (44, 163), (45, 164), (46, 165), (47, 166), (48, 167), (49, 168)] _ u = A
      have hgv : A.tmps.getD 142 undef = .bool false := by rw [← hA]; exact (puts_get u 23 142 _ _ (by decide) (by decide) (by kernel_rfl)).trans hJ23
      have hgs : 142 < A.tmps.size := by rw [← hA]; exact puts_room u (by kernel_rfl)
      refine wpOp_guard rfl 23 142 false rfl rfl hgs hgv (fun K hK => ?_)
      subst hA
      simp only [puts, List.foldl]
      go_simp
      exact hK _ _ ⟨rfl, rfl, hg, Below.refl _ _⟩
    case ns31 =>
      intro u wx hg hC
      have hJ23 : u 23 = (.bool false) := hC.at 23 (by kernel_rfl)
      have hJ25 : u 25 = (.int .i64 wd) := hC.at 25 (by kernel_rfl)
      have hJ30 : u 30 = (.int .i64 wd) := hC.at 30 (by kernel_rfl)
      clear hC
      generalize hA : puts [(0, 119), (1, 120), (2, 121), (3, 122), (4, 123), (5, 124), (6, 125), (7, 126), (8, 127), (9, 128), (10, 129), (11, 130), (12, 131), (13, 132), (14, 133), (15, 134), (16, 135), (17, 136), (18, 137), (19, 138), (20, 139), (21, 140), (22, 141), (23, 142), (24, 143), (25, 144), (26, 145), (27, 146), (28, 147), (29, 148), (30, 149), (31, 150), (32, 151), (33, 152), (34, 153), (35, 154), (36, 155), (37, 156), (38, 157), (39, 158), (40, 159), (41, 160), (42, 161), (43, 162), (44, 163), (45, 164), (46, 165), (47, 166), (48, 167), (49, 168)] _ u = A
      have hgv : A.tmps.getD 142 undef = .bool false := by rw [← hA]; exact (puts_get u 23 142 _ _ (by decide) (by decide) (by kernel_rfl)).trans hJ23
      have hgs : 142 < A.tmps.size := by rw [← hA]; exact puts_room u (by kernel_rfl)
      refine wpOp_guard rfl 23 142 false rfl rfl hgs hgv (fun K hK => ?_)
      subst hA
      simp only [puts, List.foldl]
      go_simp
      exact hK _ _ ⟨rfl, rfl, hg, Below.refl _ _⟩
    case ns32 =>
      intro u wx hg hC
      have hJ23 : u 23 = (.bool false) := hC.at 23 (by kernel_rfl)
      have hJ31 : u 31 = (.bool false) := hC.at 31 (by kernel_rfl)
      clear hC
      refine wpOp_step rfl (fun K hK => ?_)
      simp only [puts, List.foldl]
      go_simp
      exact hK _ _ ⟨rfl, rfl, hg, Below.refl _ _⟩
    case ns33 =>
      intro u wx hg hC
      have hJ32 : u 32 = (.bool false) := hC.at 32 (by kernel_rfl)
      clear hC
      refine wpOp_step rfl (fun K hK => ?_)
      simp only [puts, List.foldl]
      go_simp
      exact hK _ _ ⟨rfl, rfl, hg, Below.refl _ _⟩
    case ns34 =>
      intro u wx hg hC
      have hJ33 : u 33 = (.bool false) := hC.at 33 (by kernel_rfl)
      clear hC
      have hcl0 : wx.cell? ⟨w.heap.size, 0, none⟩ = some (.int .i64 d) := (hg.cell (p := ⟨w.heap.size, 0, none⟩) LG.out).trans CG0.out
      have hcl1 : wx.cell? ⟨w.heap.size, 1, none⟩ = some (.int .i64 p) := (hg.cell (p := ⟨w.heap.size, 1, none⟩) LG.out).trans CG1.out
      have hcl2 : wx.cell? ⟨w.heap.size, 2, none⟩ = some (.int .i64 s) := (hg.cell (p := ⟨w.heap.size, 2, none⟩) LG.out).trans CG2.out
      generalize hA : puts [(0, 119), (1, 120), (2, 121), (3, 122), (4, 123), (5, 124), (6, 125), (7, 126), (8, 127), (9, 128), (10, 129), (11, 130), (12, 131), (13, 132), (14, 133), (15, 134), (16, 135), (17, 136), (18, 137), (19, 138), (20, 139), (21, 140), (22, 141), (23, 142), (24, 143), (25, 144), (26, 145), (27, 146), (28, 147), (29, 148), (30, 149), (31, 150), (32, 151), (33, 152), (34, 153), (35, 154), (36, 155), (37, 156), (38, 157), (39, 158), (40, 159), (41, 160), (42, 161), (43, 162), (44, 163), (45, 164), (46, 165), (47, 166), (48, 167), (49, 168)] _ u = A
      have hgv : A.tmps.getD 152 undef = .bool false := by rw [← hA]; exact (puts_get u 33 152 _ _ (by decide) (by decide) (by kernel_rfl)).trans hJ33
      have hgs : 152 < A.tmps.size := by rw [← hA]; exact puts_room u (by kernel_rfl)
      refine wpOp_guard rfl 33 152 false rfl rfl hgs hgv (fun K hK => ?_)
      subst hA
      simp only [puts, List.foldl]
      go_simp
      exact hK _ _ ⟨rfl, rfl, hg, Below.refl _ _⟩
    case ns35 =>
      intro u wx hg hC
      have hJ33 : u 33 = (.bool false) := hC.at 33 (by kernel_rfl)
      have hJ34 : u 34 = (.agg #[(.int .i64 d), (.int .i64 p), (.int .i64 s)]) := hC.at 34 (by kernel_rfl)
      clear hC
      generalize hA : puts [(0, 119), (1, 120), (2, 121), (3, 122), (4, 123), (5, 124), (6, 125), (7, 126), (8, 127), (9, 128), (10, 129), (11, 130), (12, 131), (13, 132), (14, 133), (15, 134), (16, 135), (17, 136), (18, 137), (19, 138), (20, 139), (21, 140), (22, 141), (23, 142), (24, 143), (25, 144), (26, 145), (27, 146), (28, 147), (29, 148), (30, 149), (31, 150), (32, 151), (33, 152), (34, 153), (35, 154), (36, 155), (37, 156), (38, 157), (39, 158), (40, 159), (41, 160), (42, 161), (43, 162), (44, 163), (45, 164), (46, 165), (47, 166), (48, 167), (49, 168)] _ u = A
      have hgv : A.tmps.getD 152 undef = .bool false := by rw [← hA]; exact (puts_get u 33 152 _ _ (by decide) (by decide) (by kernel_rfl)).trans hJ33
      have hgs : 152 < A.tmps.size := by rw [← hA]; exact puts_room u (by kernel_rfl)
      refine wpOp_guard rfl 33 152 false rfl rfl hgs hgv (fun K hK => ?_)
      subst hA
      simp only [puts, List.foldl]
      go_simp
      refine (HRO.out wx).mono ?_
      rintro e w' ⟨rfl, hb'⟩
      exact hK _ _ ⟨rfl, rfl, hg.next hb', hb'⟩
    case ns36 =>
      intro u wx hg hC
      have hJ33 : u 33 = (.bool false) := hC.at 33 (by kernel_rfl)
      clear hC
      have hcl0 : wx.cell? ⟨w4.heap.size, 0, none⟩ = some (.int .i64 d) := (hg.cell (p := ⟨w4.heap.size, 0, none⟩) LF.out).trans CF0.out
      have hcl1 : wx.cell? ⟨w4.heap.size, 1, none⟩ = some (.int .i64 p) := (hg.cell (p := ⟨w4.heap.size, 1, none⟩) LF.out).trans CF1.out
      have hcl2 : wx.cell? ⟨w4.heap.size, 2, none⟩ = some (.int .i64 s) := (hg.cell (p := ⟨w4.heap.size, 2, none⟩) LF.out).trans CF2.out
      generalize hA : puts [(0, 119), (1, 120), (2, 121), (3, 122), (4, 123), (5, 124), (6, 125), (7, 126), (8, 127), (9, 128), (10, 129), (11, 130), (12, 131), (13, 132), (14, 133), (15, 134), (16, 135), (17, 136), (18, 137), (19, 138), (20, 139), (21, 140), (22, 141), (23, 142), (24, 143), (25, 144), (26, 145), (27, 146), (28, 147), (29, 148), (30, 149), (31, 150), (32, 151), (33, 152), (34, 153), (35, 154), (36, 155), (37, 156), (38, 157), (39, 158), (40, 159), (41, 160), (42, 161), (43, 162), (44, 163), (45, 164), (46, 165), (47, 166), (48, 167), (49, 168)] _ u = A
      have hgv : A.tmps.getD 152 undef = .bool false := by rw [← hA]; exact (puts_get u 33 152 _ _ (by decide) (by decide) (by kernel_rfl)).trans hJ33
      have hgs : 152 < A.tmps.size := by rw [← hA]; exact puts_room u (by kernel_rfl)
      refine wpOp_guard rfl 33 152 false rfl rfl hgs hgv (fun K hK => ?_)
      subst hA
      simp only [puts, List.foldl]
      go_simp
      exact hK _ _ ⟨rfl, rfl, hg, Below.refl _ _⟩
    case ns37 =>
      intro u wx hg hC
      have hJ33 : u 33 = (.bool false) := hC.at 33 (by kernel_rfl)
      have hJ36 : u 36 = (.agg #[(.int .i64 d), (.int .i64 p), (.int .i64 s)]) := hC.at 36 (by kernel_rfl)
      clear hC
      generalize hA : puts [(0, 119), (1, 120), (2, 121), (3, 122), (4, 123), (5, 124), (6, 125), (7, 126), (8, 127), (9, 128), (10, 129), (11, 130), (12, 131), (13, 132), (14, 133), (15, 134), (16, 135), (17, 136), (18, 137), (19, 138), (20, 139), (21, 140), (22, 141), (23, 142), (24, 143), (25, 144), (26, 145), (27, 146), (28, 147), (29, 148), (30, 149), (31, 150), (32, 151), (33, 152), (34, 153), (35, 154), (36, 155), (37, 156), (38, 157), (39, 158), (40, 159), (41, 160), (42, 161), (43, 162), (44, 163), (45, 164), (46, 165), (47, 166), (48, 167), (49, 168)] _ u = A
      have hgv : A.tmps.getD 152 undef = .bool false := by rw [← hA]; exact (puts_get u 33 152 _ _ (by decide) (by decide) (by kernel_rfl)).trans hJ33
      have hgs : 152 < A.tmps.size := by rw [← hA]; exact puts_room u (by kernel_rfl)
      refine wpOp_guard rfl 33 152 false rfl rfl hgs hgv (fun K hK => ?_)
      subst hA
      simp only [puts, List.foldl]
      go_simp
      refine (HRM.out wx).mono ?_
      rintro e w' ⟨rfl, hb'⟩
      exact hK _ _ ⟨rfl, rfl, hg.next hb', hb'⟩
    case ns38 =>
      intro u wx hg hC
      have hJ33 : u 33 = (.bool false) := hC.at 33 (by kernel_rfl)
      have hJ35 : u 35 = (.int .i64 rm) := hC.at 35 (by kernel_rfl)
      have hJ37 : u 37 = (.int .i64 rm) := hC.at 37 (by kernel_rfl)
      clear hC
      generalize hA : puts [(0, 119), (1, 120), (2, 121), (3, 122), (4, 123), (5, 124), (6, 125), (7, 126), (8, 127), (9, 128), (10, 129), (11, 130), (12, 131), (13, 132), (14, 133), (15, 134), (16, 135), (17, 136), (18, 137), (19, 138), (20, 139), (21, 140), (22, 141), (23, 142), (24, 143), (25, 144), (26, 145), (27, 146), (28, 147), (29, 148), (30, 149), (31, 150), (32, 151), (33, 152), (34, 153), (35, 154), (36, 155), (37, 156), (38, 157), (39, 158), (40, 159), (41, 160), (42, 161), (43, 162), (44, 163), (45, 164), (46, 165), (47, 166), (48, 167), (49, 168)] _ u = A
      have hgv : A.tmps.getD 152 undef = .bool false := by rw [← hA]; exact (puts_get u 33 152 _ _ (by decide) (by decide) (by kernel_rfl)).trans hJ33
      have hgs : 152 < A.tmps.size := by rw [← hA]; exact puts_room u (by kernel_rfl)
      refine wpOp_guard rfl 33 152 false rfl rfl hgs hgv (fun K hK => ?_)
      subst hA
      simp only [puts, List.foldl]
      go_simp
      exact hK _ _ ⟨rfl, rfl, hg, Below.refl _ _⟩
    case ns39 =>
      intro u wx hg hC
      have hJ33 : u 33 = (.bool false) := hC.at 33 (by kernel_rfl)
      have hJ38 : u 38 = (.bool false) := hC.at 38 (by kernel_rfl)
      clear hC
      refine wpOp_step rfl (fun K hK => ?_)
      simp only [puts, List.foldl]
      go_simp
      exact hK _ _ ⟨rfl, rfl, hg, Below.refl _ _⟩
    case ns40 =>
      intro u wx hg hC
      have hJ39 : u 39 = (.bool false) := hC.at 39 (by kernel_rfl)
      clear hC
      refine wpOp_step rfl (fun K hK => ?_)
      simp only [puts, List.foldl]
      go_simp
      exact hK _ _ ⟨rfl, rfl, hg, Below.refl _ _⟩
    case ns41 =>
      intro u wx hg hC
      have hJ40 : u 40 = (.bool false) := hC.at 40 (by kernel_rfl)
      clear hC
      generalize hA : puts [(0, 119), (1, 120), (2, 121), (3, 122), (4, 123), (5, 124), (6, 125), (7, 126), (8, 127), (9, 128), (10, 129), (11, 130), (12, 131), (13, 132), (14, 133), (15, 134), (16, 135), (17, 136), (18, 137), (19, 138), (20, 139), (21, 140), (22, 141), (23, 142), (24, 143), (25, 144), (26, 145), (27, 146), (28, 147), (29, 148), (30, 149), (31, 150), (32, 151), (33, 152), (34, 153), (35, 154), (36, 155), (37, 156), (38, 157), (39, 158), (40, 159), (41, 160), (42, 161), (43, 162), (44, 163), (45, 164), (46, 165), (47, 166), (48, 167), (49, 168)] _ u = A
      have hgv : A.tmps.getD 159 undef = .bool false := by rw [← hA]; exact (puts_get u 40 159 _ _ (by decide) (by decide) (by kernel_rfl)).trans hJ40
      have hgs : 159 < A.tmps.size := by rw [← hA]; exact puts_room u (by kernel_rfl)
      refine wpOp_guard rfl 40 159 false rfl rfl hgs hgv (fun K hK => ?_)
      subst hA
      simp only [puts, List.foldl]
      go_simp
      exact hK _ _ ⟨rfl, rfl, hg, Below.refl _ _⟩
    case ns42 =>
      intro u wx hg hC
      have hJ40 : u 40 = (.bool false) := hC.at 40 (by kernel_rfl)
      have hJ41 : u 41 = (.int .i64 0) := hC.at 41 (by kernel_rfl)
      clear hC
      generalize hA : puts [(0, 119), (1, 120), (2, 121), (3, 122), (4, 123), (5, 124), (6, 125), (7, 126), (8, 127), (9, 128), (10, 129), (11, 130), (12, 131), (13, 132), (14, 133), (15, 134), (16, 135), (17, 136), (18, 137), (19, 138), (20, 139), (21, 140), (22, 141), (23, 142), (24, 143), (25, 144), (26, 145), (27, 146), (28, 147), (29, 148), (30, 149), (31, 150), (32, 151), (33, 152), (34, 153), (35, 154), (36, 155), (37, 156), (38, 157), (39, 158), (40, 159), (41, 160), (42, 161), (43, 162), (44, 163), (45, 164), (46, 165), (47, 166), (48, 167), (49, 168)] _ u = A
      have hgv : A.tmps.getD 159 undef = .bool false := by rw [← hA]; exact (puts_get u 40 159 _ _ (by decide) (by decide) (by kernel_rfl)).trans hJ40
      have hgs : 159 < A.tmps.size := by rw [← hA]; exact puts_room u (by kernel_rfl)
      refine wpOp_guard rfl 40 159 false rfl rfl hgs hgv (fun K hK => ?_)
      subst hA
      simp only [puts, List.foldl]
      go_simp
      exact hK _ _ ⟨rfl, rfl, hg, Below.refl _ _⟩
    case ns43 =>
      intro u wx hg hC
      have hJ40 : u 40 = (.bool false) := hC.at 40 (by kernel_rfl)
      have hJ42 : u 42 = (.bool false) := hC.at 42 (by kernel_rfl)
      clear hC
      refine wpOp_step rfl (fun K hK => ?_)
      simp only [puts, List.foldl]
      go_simp
      exact hK _ _ ⟨rfl, rfl, hg, Below.refl _ _⟩
    case ns44 =>
      intro u wx hg hC
      have hJ43 : u 43 = (.bool false) := hC.at 43 (by kernel_rfl)
      clear hC
      refine wpOp_step rfl (fun K hK => ?_)
      simp only [puts, List.foldl]
      go_simp
      exact hK _ _ ⟨rfl, rfl, hg, Below.refl _ _⟩
    case ns45 =>
      intro u wx hg hC
      have hJ44 : u 44 = (.bool false) := hC.at 44 (by kernel_rfl)
      clear hC
      generalize hA : puts [(0, 119), (1, 120), (2, 121), (3, 122), (4, 123), (5, 124), (6, 125), (7, 126), (8, 127), (9, 128), (10, 129), (11, 130), (12, 131), (13, 132), (14, 133), (15, 134), (16, 135), (17, 136), (18, 137), (19, 138), (20, 139), (21, 140), (22, 141), (23, 142), (24, 143), (25, 144), (26, 145), (27, 146), (28, 147), (29, 148), (30, 149), (31, 150), (32, 151), (33, 152), (34, 153), (35, 154), (36, 155), (37, 156), (38, 157), (39, 158), (40, 159), (41, 160), (42, 161), (43, 162), (44, 163), (45, 164), (46, 165), (47, 166), (48, 167), (49, 168)] _ u = A
      have hgv : A.tmps.getD 163 undef = .bool false := by rw [← hA]; exact (puts_get u 44 163 _ _ (by decide) (by decide) (by kernel_rfl)).trans hJ44
      have hgs : 163 < A.tmps.size := by rw [← hA]; exact puts_room u (by kernel_rfl)
      refine wpOp_guard rfl 44 163 false rfl rfl hgs hgv (fun K hK => ?_)
      subst hA
      simp only [puts, List.foldl]
      go_simp
      exact hK _ _ ⟨rfl, rfl, hg, Below.refl _ _⟩
    case ns46 =>
      intro u wx hg hC
      have hJ44 : u 44 = (.bool false) := hC.at 44 (by kernel_rfl)
      clear hC
      have hcl0 : wx.cell? ⟨w.heap.size, 0, none⟩ = some (.int .i64 d) := (hg.cell (p := ⟨w.heap.size, 0, none⟩) LG.out).trans CG0.out
      have hcl1 : wx.cell? ⟨w.heap.size, 1, none⟩ = some (.int .i64 p) := (hg.cell (p := ⟨w.heap.size, 1, none⟩) LG.out).trans CG1.out
      have hcl2 : wx.cell? ⟨w.heap.size, 2, none⟩ = some (.int .i64 s) := (hg.cell (p := ⟨w.heap.size, 2, none⟩) LG.out).trans CG2.out
      generalize hA : puts [(0, 119), (1, 120), (2, 121), (3, 122), (4, 123), (5, 124), (6, 125), (7, 126), (8, 127), (9, 128), (10, 129), (11, 130), (12, 131), (13, 132), (14, 133), (15, 134), (16, 135), (17, 136), (18, 137), (19, 138), (20, 139), (21, 140), (22, 141), (23, 142), (24, 143), (25, 144), (26, 145), (27, 146), (28, 147), (29, 148), (30, 149), (31, 150), (32, 151), (33, 152), (34, 153), (35, 154), (36, 155), (37, 156), (38, 157), (39, 158), (40, 159), (41, 160), (42, 161), (43, 162), (44, 163), (45, 164), (46, 165), (47, 166), (48, 167), (49, 168)] _ u = A
      have hgv : A.tmps.getD 163 undef = .bool false := by rw [← hA]; exact (puts_get u 44 163 _ _ (by decide) (by decide) (by kernel_rfl)).trans hJ44
      have hgs : 163 < A.tmps.size := by rw [← hA]; exact puts_room u (by kernel_rfl)
      refine wpOp_guard rfl 44 163 false rfl rfl hgs hgv (fun K hK => ?_)
      subst hA
      simp only [puts, List.foldl]
      go_simp
      exact hK _ _ ⟨rfl, rfl, hg, Below.refl _ _⟩
    case ns47 =>
      intro u wx hg hC
      have hJ44 : u 44 = (.bool false) := hC.at 44 (by kernel_rfl)
      have hJ46 : u 46 = (.agg #[(.int .i64 d), (.int .i64 p), (.int .i64 s)]) := hC.at 46 (by kernel_rfl)
      clear hC
      generalize hA : puts [(0, 119), (1, 120), (2, 121), (3, 122), (4, 123), (5, 124), (6, 125), (7, 126), (8, 127), (9, 128), (10, 129), (11, 130), (12, 131), (13, 132), (14, 133), (15, 134), (16, 135), (17, 136), (18, 137), (19, 138), (20, 139), (21, 140), (22, 141), (23, 142), (24, 143), (25, 144), (26, 145), (27, 146), (28, 147), (29, 148), (30, 149), (31, 150), (32, 151), (33, 152), (34, 153), (35, 154), (36, 155), (37, 156), (38, 157), (39, 158), (40, 159), (41, 160), (42, 161), (43, 162), (44, 163), (45, 164), (46, 165), (47, 166), (48, 167), (49, 168)] _ u = A
      have hgv : A.tmps.getD 163 undef = .bool false := by rw [← hA]; exact (puts_get u 44 163 _ _ (by decide) (by decide) (by kernel_rfl)).trans hJ44
      have hgs : 163 < A.tmps.size := by rw [← hA]; exact puts_room u (by kernel_rfl)
      refine wpOp_guard rfl 44 163 false rfl rfl hgs hgv (fun K hK => ?_)
      subst hA
      simp only [puts, List.foldl]
      go_simp
      refine (HSL.out wx).mono ?_
      rintro e w' ⟨rfl, hb'⟩
      exact hK _ _ ⟨rfl, rfl, hg.next hb', hb'⟩
    case ns48 =>
      intro u wx hg hC
      have hJ44 : u 44 = (.bool false) := hC.at 44 (by kernel_rfl)
      have hJ45 : u 45 = (.int .i64 sl) := hC.at 45 (by kernel_rfl)
      have hJ47 : u 47 = (.int .i64 sl) := hC.at 47 (by kernel_rfl)
      clear hC
      generalize hA : puts [(0, 119), (1, 120), (2, 121), (3, 122), (4, 123), (5, 124), (6, 125), (7, 126), (8, 127), (9, 128), (10, 129), (11, 130), (12, 131), (13, 132), (14, 133), (15, 134), (16, 135), (17, 136), (18, 137), (19, 138), (20, 139), (21, 140), (22, 141), (23, 142), (24, 143), (25, 144), (26, 145), (27, 146), (28, 147), (29, 148), (30, 149), (31, 150), (32, 151), (33, 152), (34, 153), (35, 154), (36, 155), (37, 156), (38, 157), (39, 158), (40, 159), (41, 160), (42, 161), (43, 162), (44, 163), (45, 164), (46, 165), (47, 166), (48, 167), (49, 168)] _ u = A
      have hgv : A.tmps.getD 163 undef = .bool false := by rw [← hA]; exact (puts_get u 44 163 _ _ (by decide) (by decide) (by kernel_rfl)).trans hJ44
      have hgs : 163 < A.tmps.size := by rw [← hA]; exact puts_room u (by kernel_rfl)
      refine wpOp_guard rfl 44 163 false rfl rfl hgs hgv (fun K hK => ?_)
      subst hA
      simp only [puts, List.foldl]
      go_simp
      exact hK _ _ ⟨rfl, rfl, hg, Below.refl _ _⟩
    case ns49 =>
      intro u wx hg hC
      have hJ44 : u 44 = (.bool false) := hC.at 44 (by kernel_rfl)
      have hJ48 : u 48 = (.bool false) := hC.at 48 (by kernel_rfl)
      clear hC
      refine wpOp_step rfl (fun K hK => ?_)
      simp only [puts, List.foldl]
      go_simp
      exact hK _ _ ⟨rfl, rfl, hg, Below.refl _ _⟩
  case finn =>
    intro u wq hbq hφ
    have e6 : u 49 = .bool false := hφ (49, 168) (by decide)
    clear hφ
    simp only [puts, List.foldl]
    go_simp
    have HQ := Lib.hid hbq
    have BQ := Lib.hid (B13.out.next hbq)
    have RAQ := Lib.hid (RA13.out.step hbq)
    have RBQ := Lib.hid (RB13.out.step hbq)
    have xa0 := RAQ.out.cell 0
    have xa1 := RAQ.out.cell 1
    have xa2 := RAQ.out.cell 2
    clear hbq e6
    go_wp2_with (first
      | (go_at_call 21; (with_reducible refine (HF0.out wq HQ.out).mono ?_); rintro e w21 ⟨⟨r0, rfl, hr0⟩, b⟩; have HS0 := Lib.hid (sec_any _ _ _ w21 (HK0.out _ hr0)); have HQ21 := Lib.hid (HQ.out.next b); have B21 := Lib.hid (BQ.out.next b); have RA21 := Lib.hid (RAQ.out.step b); have RB21 := Lib.hid (RBQ.out.step b); clear b hr0 xa0 xa1 xa2; have xa0 := RA21.out.cell 0; have xa1 := RA21.out.cell 1; have xa2 := RA21.out.cell 2; have xb0 := RB21.out.cell 0)
      | (go_at_call 20; (with_reducible refine HS0.out.mono ?_); rintro e u_ ⟨rfl, rfl⟩)
      | (go_at_call 21; (with_reducible refine (HF1.out w21 HQ21.out).mono ?_); rintro e w22 ⟨⟨r1, rfl, hr1⟩, b⟩; have HS1 := Lib.hid (sec_any _ _ _ w22 (HK1.out _ hr1)); have HQ22 := Lib.hid (HQ21.out.next b); have B22 := Lib.hid (B21.out.next b); have RA22 := Lib.hid (RA21.out.step b); have RB22 := Lib.hid (RB21.out.step b); clear b hr1 xa0 xa1 xa2; have xa0 := RA22.out.cell 0; have xa1 := RA22.out.cell 1; have xa2 := RA22.out.cell 2; have xb0 := RB22.out.cell 0)
      | (go_at_call 20; (with_reducible refine HS1.out.mono ?_); rintro e u_ ⟨rfl, rfl⟩)
      | (go_at_call 21; (with_reducible refine (HF2.out w22 HQ22.out).mono ?_); rintro e w23 ⟨⟨r2, rfl, hr2⟩, b⟩; have HS2 := Lib.hid (sec_any _ _ _ w23 (HK2.out _ hr2)); have HQ23 := Lib.hid (HQ22.out.next b); have B23 := Lib.hid (B22.out.next b); have RA23 := Lib.hid (RA22.out.step b); have RB23 := Lib.hid (RB22.out.step b); clear b hr2 xa0 xa1 xa2; have xa0 := RA23.out.cell 0; have xa1 := RA23.out.cell 1; have xa2 := RA23.out.cell 2; have xb0 := RB23.out.cell 0)
      | (go_at_call 20; (with_reducible refine HS2.out.mono ?_); rintro e u_ ⟨rfl, rfl⟩)
      | (go_at_call 22; (with_reducible refine (HLO.out w23 HQ23.out).mono ?_); rintro e w30 ⟨rfl, b⟩; have B30 := Lib.hid (B23.out.next b); clear b))
    go_ret
    exact ⟨rfl, B30.out⟩
end Go.Proofs.Ytiakbdekleaaoaa
