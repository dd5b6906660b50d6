/- GeoMaps: the walk (gen_geo_w.py). -/
import Derived.Test.YtiakbdekleaaoaaDoorGeoV
import Derived.Test.YtiakbdekleaaoaaDoorGeoH
import Derived.Test.YtiakbdekleaaoaaDoorGeoI
namespace Go.Proofs.YtiakbdekleaaoaaDoor
open Go.RowKit GeoMath
set_option linter.unusedVariables false
set_option maxRecDepth 100000

def nm3 : List Value := [.string ⟨#[103, 111, 108, 100, 101, 110]⟩, .string ⟨#[97]⟩, .string ⟨#[98]⟩]
def NmS (x : Nat) (NM : ByteArray) : Value → World → Prop := fun v w => ∃ b, v = .slice (some ⟨b, 0, none⟩) 3 3 ∧ b < w.heap.size ∧ w.cell? ⟨b, x, none⟩ = some (.string NM)
def NmP (x : Nat) (NM : ByteArray) : Value → World → Prop := fun v w => ∃ b, v = .pointer (some ⟨b, x, none⟩) ∧ b < w.heap.size ∧ w.cell? ⟨b, x, none⟩ = some (.string NM)
theorem NmS.monot (x : Nat) (NM : ByteArray) : Monot (NmS x NM) := fun _ _ _ ⟨b, h1, h2, h3⟩ hb => ⟨b, h1, Nat.lt_of_lt_of_le h2 hb.size, (hb.cell (p := ⟨b, x, none⟩) h2).trans h3⟩
theorem NmP.monot (x : Nat) (NM : ByteArray) : Monot (NmP x NM) := fun _ _ _ ⟨b, h1, h2, h3⟩ hb => ⟨b, h1, Nat.lt_of_lt_of_le h2 hb.size, (hb.cell (p := ⟨b, x, none⟩) h2).trans h3⟩
theorem nms_new (x : Nat) (NM : ByteArray) (h : nm3[x]? = some (.string NM)) (w : World) (T : TypeId) : NmS x NM (.slice (some ⟨w.heap.size, 0, none⟩) 3 3) (w.alloc (.cells #[.string ⟨#[103, 111, 108, 100, 101, 110]⟩, .string ⟨#[97]⟩, .string ⟨#[98]⟩] T)) := by
  have hr : Row (w.alloc (.cells nm3.toArray T)) w.heap.size T nm3 := Row.new w T nm3
  exact ⟨w.heap.size, rfl, hr.lt, (hr.cell x).trans h⟩
theorem zero_place : ∀ u, (zeroValue 34).run Tryd.prog u = .ok (.agg [Value.int .i64 0, .int .i64 0, .int .i64 0, .int .i64 0].toArray) u := fun u => by kernel_rfl
theorem geoMaps_no (d p s : Int) (w : World) (hr : right ⟨d, p, s⟩ = false) : Calls Tryd.prog 3 #[.agg #[.int .i64 d, .int .i64 p, .int .i64 s]] w fun e w' => e = .returned (.bool true) ∧ Below w.heap.size w w' := by
  have HAW := Lib.hid geoAwake_any
  have HMP := Lib.hid fun w1 => map_no d p s w1 hr
  have HRR : Hid (∀ w1, Calls Tryd.prog 6 #[.agg #[.int .i64 d, .int .i64 p, .int .i64 s]] w1 fun e w' => e = .returned (.bool false) ∧ Below w1.heap.size w1 w') := Lib.hid fun w1 => (rright_any ⟨d, p, s⟩ w1).mono fun e w' h => by rw [hr] at h; exact h
  clear hr
  go_enter Tryd.func3, Tryd.ntmps3
  go_wp2_with (first
    | ((with_reducible refine wpBoxK [Value.int .i64 d, .int .i64 p, .int .i64 s] 23 ?_ ?_); rfl; intro w1 r1 b1 s1; have R1 := Lib.hid r1; have B1 := Lib.hid b1; clear r1 b1 s1)
    | ((with_reducible refine R2.out.wpLoadK 23 fits_geo rfl ?_ ?_); rfl)
    | ((with_reducible refine R3.out.wpLoadK 23 fits_geo rfl ?_ ?_); rfl)
    | (go_at_call 4; (with_reducible refine (HAW.out w1).mono ?_); rintro e w2 ⟨rfl, b2⟩; have R2 := Lib.hid (R1.out.step b2); have B2 := Lib.hid (B1.out.next b2); clear b2)
    | (go_at_call 5; (with_reducible refine (HMP.out w2).mono ?_); rintro e w3 ⟨rfl, b3⟩; have R3 := Lib.hid (R2.out.step b3); have B3 := Lib.hid (B2.out.next b3); clear b3)
    | (go_at_call 6; (with_reducible refine (HRR.out w3).mono ?_); rintro e w4 ⟨rfl, b4⟩; have B4 := Lib.hid (B3.out.next b4); clear b4))
  go_ret
  exact ⟨rfl, B4.out⟩
set_option maxHeartbeats 8000000 in
theorem geoMaps_yes (d p s : Int) (W S : Nat) (D : Dim ⟨d, p, s⟩ W S) (w : World) : Calls Tryd.prog 3 #[.agg #[.int .i64 d, .int .i64 p, .int .i64 s]] w fun e w' => e = .returned (.bool true) ∧ Below w.heap.size w w' := by
  have hr := (right_iff ⟨d, p, s⟩).2 D.r
  have hd1 : 1 ≤ d := D.r.d1
  have hd8 : d ≤ 8 := D.r.d8
  have hp2 : 2 ≤ p := D.r.p2
  have hp6 : p ≤ 6 := D.r.p6
  have hs8 : s ≤ 8 := D.r.s8
  have hWW : d + p = (W : Int) := D.w
  have hSS : s = (S : Int) := D.s
  have HAW := Lib.hid geoAwake_any
  have hN4 : cnt W S ≤ 400 := by
    have h1 := D.slot
    have h2 := slot_le ⟨d, p, s⟩
    rw [cnt]
    omega
  have HMP := Lib.hid fun w1 => map_yes d p s W S D w1
  have HRR : Hid (∀ w1, Calls Tryd.prog 6 #[.agg #[.int .i64 d, .int .i64 p, .int .i64 s]] w1 fun e w' => e = .returned (.bool true) ∧ Below w1.heap.size w1 w') := Lib.hid fun w1 => (rright_any ⟨d, p, s⟩ w1).mono fun e w' h => by rw [hr] at h; exact h
  have HLI : Hid (∀ w1, Calls Tryd.prog 7 #[.agg #[.int .i64 d, .int .i64 p, .int .i64 s]] w1 fun e w' => (∃ v, e = .returned v ∧ w'.ownsRow w1.heap.size 34 4 v (cnt W S) (plc W S (cnt W S))) ∧ Below w1.heap.size w1 w') := Lib.hid fun w1 => by
    have h := list_any W S d p w1 hWW hd1 hd8 hp2 hp6 D.S1 (by omega)
    rw [← hSS] at h
    exact h
  have HCA : Hid (∀ k, k < cnt W S → (∃ a b c, a < 3 ∧ c < W ∧ b < S ∧ k = a * (W * S) + c * S + b ∧ pl W S k = ⟨0, (a : Nat), (b : Nat), (c : Nat)⟩) ∨
    (∃ a b c, a < 2 ∧ b < 2 ∧ c < 4 ∧ k = 3 * (W * S) + a * 8 + b * 4 + c ∧ pl W S k = ⟨1, (a : Nat), (b : Nat), (c : Nat)⟩) ∨
    (∃ a, a < 2 ∧ k = 3 * (W * S) + 16 + a ∧ pl W S k = ⟨2, (a : Nat), 0, 0⟩)) := Lib.hid fun k hk => pl_cases (by have := D.W3; omega) (by have := D.S1; omega) hk
  have HDB8 : Hid (S ≤ 8 ∧ (W : Int) = d + p) := Lib.hid ⟨by omega, hWW.symm⟩
  clear hr D hSS hWW
  generalize cnt W S = N at *
  have hn4 : (N : Int) ≤ 400 := by omega
  go_enter Tryd.func3, Tryd.ntmps3
  go_wp2_with (first
    | ((with_reducible refine wpBoxK [Value.int .i64 d, .int .i64 p, .int .i64 s] 23 ?_ ?_); rfl; intro w1 r1 b1 s1; have R1 := Lib.hid r1; have B1 := Lib.hid b1; clear r1 b1 s1)
    | ((with_reducible refine R2.out.wpLoadK 23 fits_geo rfl ?_ ?_); rfl)
    | ((with_reducible refine R3.out.wpLoadK 23 fits_geo rfl ?_ ?_); rfl)
    | ((with_reducible refine R4.out.wpLoadK 23 fits_geo rfl ?_ ?_); rfl)
    | (go_at_call 4; (with_reducible refine (HAW.out w1).mono ?_); rintro e w2 ⟨rfl, b2⟩; have R2 := Lib.hid (R1.out.step b2); have B2 := Lib.hid (B1.out.next b2); clear b2)
    | (go_at_call 5; (with_reducible refine (HMP.out w2).mono ?_); rintro e w3 ⟨⟨ma, mc, rfl, hml⟩, b3⟩; have HML3 := Lib.hid hml; have R3 := Lib.hid (R2.out.step b3); have B3 := Lib.hid (B2.out.next b3); clear b3 hml)
    | (go_at_call 6; (with_reducible refine (HRR.out w3).mono ?_); rintro e w4 ⟨rfl, b4⟩; have HML4 := Lib.hid (HML3.out.step b4); have R4 := Lib.hid (R3.out.step b4); have B4 := Lib.hid (B3.out.next b4); clear b4)
    | (go_at_call 7; (with_reducible refine (HLI.out w4).mono ?_); rintro e w5 ⟨⟨v, rfl, hv⟩, b5⟩; obtain ⟨la, lc, rfl, hl⟩ := own_formM hv; have HPL := Lib.hid hl; have HML := Lib.hid (HML4.out.step b5); have R5 := Lib.hid (R4.out.step b5); have B5 := Lib.hid (B4.out.next b5); clear b5 hv hl))
  go_loopw [28] (fun i wr => ∃ k : Nat, k ≤ N ∧ i = .int .i64 k ∧ Below w5.heap.size w5 wr) (fun i _ => N - (intOf i).toNat)
  case atStart => exact ⟨0, Nat.zero_le _, rfl, Below.refl _ _⟩
  case round =>
    obtain ⟨k, hk, rfl, hbw⟩ := hrel
    have HBW := Lib.hid hbw
    have RG := Lib.hid R5.out
    clear hbw
    by_cases hlt : k < N
    · have e1 : (k : Int) < (N : Int) := by omega
      rcases HCA.out k hlt with ⟨x, y, z, l1, l2, l3, ek, hpl⟩ | ⟨x, y, z, l1, l2, l3, ek, hpl⟩ | ⟨x, l1, ek, hpl⟩
      · clear ek
        have h8 := HDB8.out
        by_cases hcd0 : (z : Int) < d
        · have hzz : (z : Int) ≤ 7 := by omega
          have hyy : (y : Int) ≤ 7 := by omega
          clear h8
          obtain ⟨b, hb⟩ : ∃ a : Int, (y : Int) = a := ⟨_, rfl⟩
          obtain ⟨c, hc⟩ : ∃ a : Int, (z : Int) = a := ⟨_, rfl⟩
          have hcd : c < d := by omega
          have hbb := HDB8.out.1
          rw [hb, hc] at hpl
          have HDA : Hid (∀ w1, Calls Tryd.prog 8 #[.int .i64 (x : Int)] w1 fun e w' => e = .returned (.string (dg (x : Int))) ∧ Below w1.heap.size w1 w') := Lib.hid fun w1 => digit_any (x : Int) w1 (by omega) (by omega)
          have hsDA := dg_size (x : Int)
          have HDB : Hid (∀ w1, Calls Tryd.prog 8 #[.int .i64 b] w1 fun e w' => e = .returned (.string (dg b)) ∧ Below w1.heap.size w1 w') := Lib.hid fun w1 => digit_any b w1 (by omega) (by omega)
          have hsDB := dg_size b
          have HDC : Hid (∀ w1, Calls Tryd.prog 8 #[.int .i64 c] w1 fun e w' => e = .returned (.string (dg c)) ∧ Below w1.heap.size w1 w') := Lib.hid fun w1 => digit_any c w1 (by omega) (by omega)
          have hsDC := dg_size c
          obtain ⟨T, hT⟩ : ∃ T, txt d (pl W S k) = T := ⟨_, rfl⟩
          have HTX := Lib.hid hT
          have hTT : nm x ++ (⟨#[32]⟩ : ByteArray) ++ dg b ++ ⟨#[100]⟩ ++ dg c = T := by
            rw [← hT, hpl]
            show _ = nm x ++ (⟨#[32]⟩ : ByteArray) ++ dg b ++ partT d c
            rw [show partT d c = ⟨#[100]⟩ ++ dg c from if_pos hcd]
            exact ByteArray.append_assoc
          clear hT
          have HNM : Hid (nm3[x]? = some (.string (nm (x : Int)))) := Lib.hid (by
            have hx3 : x = 0 ∨ x = 1 ∨ x = 2 := by omega
            rcases hx3 with rfl | rfl | rfl <;> rfl)
          have HXX : Hid ((x : Int) < 3 ∧ 0 ≤ (x : Int)) := Lib.hid ⟨by omega, by omega⟩
          have hsNM := nm_size (x : Int)
          generalize nm (x : Int) = NM at HNM hsNM hTT
          generalize dg (x : Int) = DA at HDA hsDA
          generalize dg b = DB at HDB hsDB hTT
          generalize dg c = DC at HDC hsDC hTT
          obtain ⟨T1, hT1⟩ : ∃ T1, NM ++ (⟨#[32]⟩ : ByteArray) = T1 := ⟨_, rfl⟩
          obtain ⟨T2, hT2⟩ : ∃ T2, T1 ++ DB = T2 := ⟨_, rfl⟩
          obtain ⟨T3, hT3⟩ : ∃ T3, T2 ++ (⟨#[100]⟩ : ByteArray) = T3 := ⟨_, rfl⟩
          rw [hT1, hT2, hT3] at hTT
          have z1 : T1.size = NM.size + 1 := by rw [← hT1, ByteArray.size_append]; rfl
          have z2 : T2.size = T1.size + 1 := by rw [← hT2, ByteArray.size_append, hsDB]
          have z3 : T3.size = T2.size + 1 := by rw [← hT3, ByteArray.size_append]; rfl
          have HZ : Hid (¬ 9223372036854775807 < NM.size + 1 ∧ ¬ 9223372036854775807 < T1.size + DB.size ∧ ¬ 9223372036854775807 < T2.size + 1 ∧ ¬ 9223372036854775807 < T3.size + DC.size) := Lib.hid ⟨by omega, by omega, by omega, by omega⟩
          have HT1 := Lib.hid hT1
          have HT2 := Lib.hid hT2
          have HT3 := Lib.hid hT3
          have HT4 := Lib.hid hTT
          clear hT1 hT2 hT3 hTT z1 z2 z3 hb hc hsDB hsDC hsNM hbb
          obtain ⟨pb, po, ep, hpb, hpc⟩ := HPL.out (by
            have h0 : (plc W S N)[k * 4 + 0]? = some (Value.int .i64 (pl W S k).w) := plc_get W S N k hlt 0 _ rfl
            have h1 := (List.getElem?_eq_some_iff.1 h0).1
            omega)
          have hra := plc_at (fun j v hj => ((HBW.out.cell (p := ⟨pb, po + j, none⟩) hpb).trans (hpc j v hj))) hlt
          rw [hpl] at hra
          have HRA : Hid (wr.rangeAt pb (po + k * 4) [.int .i64 0, .int .i64 (x : Int), .int .i64 b, .int .i64 c]) := Lib.hid hra
          subst ep
          clear hpc hpb hra hpl
          go_wp2_with (first
            | ((with_reducible refine wpLoadAtG HRA.out 34 fits_place rfl ?_ ?_); rfl)
            | ((with_reducible refine wpAllocK [Value.int .i64 0, .int .i64 0, .int .i64 0, .int .i64 0] 34 zero_place ?_ ?_); rfl; intro w8 r8 b8 s8; have R8 := Lib.hid r8; have B8 := Lib.hid (HBW.out.next b8); have GB := Lib.hid b8; clear r8 b8 s8)
            | ((with_reducible refine R8.out.wpStoreK 34 [.int .i64 0, .int .i64 (x : Int), .int .i64 b, .int .i64 c] fits_place rfl rfl rfl ?_ ?_); rfl; intro w9 r9 o9 s9; have R9 := Lib.hid r9; have B9 := Lib.hid (B8.out.trans (o9.below HBW.out.size B8.out.size)); have c1 := R9.out.cell 1; clear r9 o9 s9)
            | (go_at_call 8; (with_reducible refine (HDA.out w9).mono ?_); rintro e w10 ⟨rfl, b10⟩; have R10 := Lib.hid (R9.out.step b10); have B10 := Lib.hid (B9.out.next b10); have q0 := R10.out.cell 0; have q3 := R10.out.cell 3; have g0 : w10.cell? ⟨w.heap.size, 0, none⟩ = some (.int .i64 d) := (RG.out.step B10.out).cell 0; clear b10))
          have LP : Hid (wr.heap.size < w10.heap.size) := Lib.hid R10.out.lt
          have LG : Hid (w.heap.size < w10.heap.size) := Lib.hid (RG.out.step B10.out).lt
          have P0 := Lib.hid (R10.out.cell 0)
          have P1 := Lib.hid (R10.out.cell 1)
          have P2 := Lib.hid (R10.out.cell 2)
          have P3 := Lib.hid (R10.out.cell 3)
          have G0 := Lib.hid ((RG.out.step B10.out).cell 0)
          have P0 : Hid (w10.cell? ⟨wr.heap.size, 0, none⟩ = some (.int .i64 0)) := Lib.hid P0.out
          have P1 : Hid (w10.cell? ⟨wr.heap.size, 1, none⟩ = some (.int .i64 (x : Int))) := Lib.hid P1.out
          have P2 : Hid (w10.cell? ⟨wr.heap.size, 2, none⟩ = some (.int .i64 b)) := Lib.hid P2.out
          have P3 : Hid (w10.cell? ⟨wr.heap.size, 3, none⟩ = some (.int .i64 c)) := Lib.hid P3.out
          have G0 : Hid (w10.cell? ⟨w.heap.size, 0, none⟩ = some (.int .i64 d)) := Lib.hid G0.out
          clear q0 q3 g0 c1
          refine region_invX [(0, 70), (1, 71), (2, 72), (3, 73), (4, 74), (5, 75), (6, 76), (7, 77), (8, 78), (9, 79), (10, 80), (11, 81), (12, 82), (13, 83), (14, 84), (15, 85), (16, 86), (17, 8)]
            (fun ii => [NmS x NM, Is (.pointer (some ⟨wr.heap.size, 1, none⟩)), Is (.int .i64 (x : Int)), NmP x NM, Is (.string NM), Is (.string T1), Is (.func (.func 8) #[] #[]), Is (.pointer (some ⟨wr.heap.size, 2, none⟩)), Is (.int .i64 b), Is (.string DB), Is (.string T2), Is (.string T3), Is (.func (.func 8) #[] #[]), Is (.pointer (some ⟨wr.heap.size, 3, none⟩)), Is (.int .i64 c), Is (.string DC), Is (.string T), Is (.string T)].getD ii (Is undef))
            (fun w' => Below w10.heap.size w10 w') (by kernel_rfl) (by kernel_rfl) (by decide) (by decide) (by kernel_rfl) rfl ?monon ((Below.refl _ _).drew) ?stepn ?finn
          case monon =>
            intro i
            match i with
            | 0 => exact NmS.monot _ _
            | 1 | 2 | 4 | 5 | 6 | 7 | 8 | 9 | 10 | 11 | 12 | 13 | 14 | 15 | 16 | 17 => exact Is.monot _
            | 3 => exact NmP.monot _ _
            | _ + 18 => exact Is.monot _
          case stepn =>
            refine List.forall_mem_cons.2 ⟨?ns0, List.forall_mem_cons.2 ⟨?ns1, List.forall_mem_cons.2 ⟨?ns2, List.forall_mem_cons.2 ⟨?ns3, List.forall_mem_cons.2 ⟨?ns4, List.forall_mem_cons.2 ⟨?ns5, List.forall_mem_cons.2 ⟨?ns6, List.forall_mem_cons.2 ⟨?ns7, List.forall_mem_cons.2 ⟨?ns8, List.forall_mem_cons.2 ⟨?ns9, List.forall_mem_cons.2 ⟨?ns10, List.forall_mem_cons.2 ⟨?ns11, List.forall_mem_cons.2 ⟨?ns12, List.forall_mem_cons.2 ⟨?ns13, List.forall_mem_cons.2 ⟨?ns14, List.forall_mem_cons.2 ⟨?ns15, List.forall_mem_cons.2 ⟨?ns16, List.forall_mem_cons.2 ⟨?ns17, List.forall_mem_nil _⟩⟩⟩⟩⟩⟩⟩⟩⟩⟩⟩⟩⟩⟩⟩⟩⟩⟩
            case ns0 =>
              intro u wx hg hC
              clear hC
              refine wpOp_step rfl (fun K hK => ?_)
              simp only [puts, List.foldl]
              go_simp
              exact hK _ _ ⟨rfl, nms_new x NM HNM.out _ _, hg.alloc hg.size _, alloc_below _ _⟩
            case ns1 =>
              intro u wx hg hC
              clear hC
              refine wpOp_step rfl (fun K hK => ?_)
              simp only [puts, List.foldl]
              go_simp
              exact hK _ _ ⟨rfl, rfl, hg, Below.refl _ _⟩
            case ns2 =>
              intro u wx hg hC
              have hJ1 : u 1 = (.pointer (some ⟨wr.heap.size, 1, none⟩)) := hC.at 1 (by kernel_rfl)
              clear hC
              have hcl : wx.cell? ⟨wr.heap.size, 1, none⟩ = some (.int .i64 (x : Int)) := (hg.cell (p := ⟨wr.heap.size, 1, none⟩) LP.out).trans P1.out
              refine wpOp_step rfl (fun K hK => ?_)
              simp only [puts, List.foldl]
              go_simp
              exact hK _ _ ⟨rfl, rfl, hg, Below.refl _ _⟩
            case ns3 =>
              intro u wx hg hC
              have hJ0 : (NmS x NM) (u 0) wx := hC.at 0 (by kernel_rfl)
              have hJ2 : u 2 = (.int .i64 (x : Int)) := hC.at 2 (by kernel_rfl)
              clear hC
              obtain ⟨nb, en, ln, cn⟩ := hJ0
              have hx0 := HXX.out.1
              have hx1 := HXX.out.2
              refine wpOp_step rfl (fun K hK => ?_)
              simp only [puts, List.foldl]
              go_simp
              exact hK _ _ ⟨rfl, ⟨nb, rfl, ln, cn⟩, hg, Below.refl _ _⟩
            case ns4 =>
              intro u wx hg hC
              have hJ3 : (NmP x NM) (u 3) wx := hC.at 3 (by kernel_rfl)
              clear hC
              obtain ⟨nb, en, ln, cn⟩ := hJ3
              refine wpOp_step rfl (fun K hK => ?_)
              simp only [puts, List.foldl]
              go_simp
              exact hK _ _ ⟨rfl, rfl, hg, Below.refl _ _⟩
            case ns5 =>
              intro u wx hg hC
              have hJ4 : u 4 = (.string NM) := hC.at 4 (by kernel_rfl)
              clear hC
              have hw : NM ++ { data := #[32] } = T1 := HT1.out
              have hz : ¬ 9223372036854775807 < NM.size + 1 := HZ.out.1
              refine wpOp_step rfl (fun K hK => ?_)
              simp only [puts, List.foldl]
              go_simp
              exact hK _ _ ⟨rfl, rfl, hg, Below.refl _ _⟩
            case ns6 =>
              intro u wx hg hC
              clear hC
              refine wpOp_step rfl (fun K hK => ?_)
              simp only [puts, List.foldl]
              go_simp
              exact hK _ _ ⟨rfl, rfl, hg, Below.refl _ _⟩
            case ns7 =>
              intro u wx hg hC
              clear hC
              refine wpOp_step rfl (fun K hK => ?_)
              simp only [puts, List.foldl]
              go_simp
              exact hK _ _ ⟨rfl, rfl, hg, Below.refl _ _⟩
            case ns8 =>
              intro u wx hg hC
              have hJ7 : u 7 = (.pointer (some ⟨wr.heap.size, 2, none⟩)) := hC.at 7 (by kernel_rfl)
              clear hC
              have hcl : wx.cell? ⟨wr.heap.size, 2, none⟩ = some (.int .i64 b) := (hg.cell (p := ⟨wr.heap.size, 2, none⟩) LP.out).trans P2.out
              refine wpOp_step rfl (fun K hK => ?_)
              simp only [puts, List.foldl]
              go_simp
              exact hK _ _ ⟨rfl, rfl, hg, Below.refl _ _⟩
            case ns9 =>
              intro u wx hg hC
              have hJ6 : u 6 = (.func (.func 8) #[] #[]) := hC.at 6 (by kernel_rfl)
              have hJ8 : u 8 = (.int .i64 b) := hC.at 8 (by kernel_rfl)
              clear hC
              refine wpOp_step rfl (fun K hK => ?_)
              simp only [puts, List.foldl]
              go_simp
              refine (HDB.out wx).mono ?_
              rintro e w' ⟨rfl, hb'⟩
              exact hK _ _ ⟨rfl, rfl, hg.next hb', hb'⟩
            case ns10 =>
              intro u wx hg hC
              have hJ5 : u 5 = (.string T1) := hC.at 5 (by kernel_rfl)
              have hJ9 : u 9 = (.string DB) := hC.at 9 (by kernel_rfl)
              clear hC
              have hw : T1 ++ DB = T2 := HT2.out
              have hz : ¬ 9223372036854775807 < T1.size + DB.size := HZ.out.2.1
              refine wpOp_step rfl (fun K hK => ?_)
              simp only [puts, List.foldl]
              go_simp
              exact hK _ _ ⟨rfl, rfl, hg, Below.refl _ _⟩
            case ns11 =>
              intro u wx hg hC
              have hJ10 : u 10 = (.string T2) := hC.at 10 (by kernel_rfl)
              clear hC
              have hw : T2 ++ { data := #[100] } = T3 := HT3.out
              have hz : ¬ 9223372036854775807 < T2.size + 1 := HZ.out.2.2.1
              refine wpOp_step rfl (fun K hK => ?_)
              simp only [puts, List.foldl]
              go_simp
              exact hK _ _ ⟨rfl, rfl, hg, Below.refl _ _⟩
            case ns12 =>
              intro u wx hg hC
              clear hC
              refine wpOp_step rfl (fun K hK => ?_)
              simp only [puts, List.foldl]
              go_simp
              exact hK _ _ ⟨rfl, rfl, hg, Below.refl _ _⟩
            case ns13 =>
              intro u wx hg hC
              clear hC
              refine wpOp_step rfl (fun K hK => ?_)
              simp only [puts, List.foldl]
              go_simp
              exact hK _ _ ⟨rfl, rfl, hg, Below.refl _ _⟩
            case ns14 =>
              intro u wx hg hC
              have hJ13 : u 13 = (.pointer (some ⟨wr.heap.size, 3, none⟩)) := hC.at 13 (by kernel_rfl)
              clear hC
              have hcl : wx.cell? ⟨wr.heap.size, 3, none⟩ = some (.int .i64 c) := (hg.cell (p := ⟨wr.heap.size, 3, none⟩) LP.out).trans P3.out
              refine wpOp_step rfl (fun K hK => ?_)
              simp only [puts, List.foldl]
              go_simp
              exact hK _ _ ⟨rfl, rfl, hg, Below.refl _ _⟩
            case ns15 =>
              intro u wx hg hC
              have hJ12 : u 12 = (.func (.func 8) #[] #[]) := hC.at 12 (by kernel_rfl)
              have hJ14 : u 14 = (.int .i64 c) := hC.at 14 (by kernel_rfl)
              clear hC
              refine wpOp_step rfl (fun K hK => ?_)
              simp only [puts, List.foldl]
              go_simp
              refine (HDC.out wx).mono ?_
              rintro e w' ⟨rfl, hb'⟩
              exact hK _ _ ⟨rfl, rfl, hg.next hb', hb'⟩
            case ns16 =>
              intro u wx hg hC
              have hJ11 : u 11 = (.string T3) := hC.at 11 (by kernel_rfl)
              have hJ15 : u 15 = (.string DC) := hC.at 15 (by kernel_rfl)
              clear hC
              have hw : T3 ++ DC = T := HT4.out
              have hz : ¬ 9223372036854775807 < T3.size + DC.size := HZ.out.2.2.2
              refine wpOp_step rfl (fun K hK => ?_)
              simp only [puts, List.foldl]
              go_simp
              exact hK _ _ ⟨rfl, rfl, hg, Below.refl _ _⟩
            case ns17 =>
              intro u wx hg hC
              have hJ16 : u 16 = (.string T) := hC.at 16 (by kernel_rfl)
              clear hC
              refine wpOp_step rfl (fun K hK => ?_)
              simp only [puts, List.foldl]
              go_simp
              exact hK _ _ ⟨rfl, rfl, hg, Below.refl _ _⟩
          case finn =>
            intro u wq hbq hφ
            have e8 : u 17 = .string T := hφ (17, 8) (by decide)
            clear hφ
            simp only [puts, List.foldl]
            go_simp
            clear e8
            have HBQ := Lib.hid (B10.out.next hbq)
            obtain ⟨mb, mo, e, hmb, hmc⟩ := HML.out (by rw [strs_length, txs_length]; omega)
            have hcm : wq.cell? ⟨mb, mo + k, none⟩ = some (.string T) := (HBQ.out.cell (p := ⟨mb, mo + k, none⟩) hmb).trans (by
              refine hmc k _ ?_
              rw [strs, List.getElem?_map, txs_get d W S N k hlt, HTX.out]
              rfl)
            subst e
            have hbt : (T.toList == T.toList) = true := beq_self_eq_true _
            clear hbq hmc hmb
            go_wp2
            go_roundw
            case rel => exact ⟨k + 1, by omega, by go_num, HBQ.out⟩
            case measure => simp [intOf]; omega
        · have hzz : (z : Int) - d ≤ 9 := by omega
          have hyy : (y : Int) ≤ 7 := by omega
          have hzp : (z : Int) ≤ 14 := by omega
          clear h8
          obtain ⟨b, hb⟩ : ∃ a : Int, (y : Int) = a := ⟨_, rfl⟩
          obtain ⟨c, hc⟩ : ∃ a : Int, (z : Int) = a := ⟨_, rfl⟩
          have hcd : ¬ c < d := by omega
          have hbb := HDB8.out.1
          rw [hb, hc] at hpl
          obtain ⟨c2, hc2⟩ : ∃ a : Int, c - d = a := ⟨_, rfl⟩
          have HC2 : Hid (IntKind.i64.wrap (c - d) = c2 ∧ IntKind.i64.wrap c2 = c2) := Lib.hid ⟨by rw [IntKind.wrap_i64]; omega, by rw [IntKind.wrap_i64]; omega⟩
          have HDA : Hid (∀ w1, Calls Tryd.prog 8 #[.int .i64 (x : Int)] w1 fun e w' => e = .returned (.string (dg (x : Int))) ∧ Below w1.heap.size w1 w') := Lib.hid fun w1 => digit_any (x : Int) w1 (by omega) (by omega)
          have hsDA := dg_size (x : Int)
          have HDB : Hid (∀ w1, Calls Tryd.prog 8 #[.int .i64 b] w1 fun e w' => e = .returned (.string (dg b)) ∧ Below w1.heap.size w1 w') := Lib.hid fun w1 => digit_any b w1 (by omega) (by omega)
          have hsDB := dg_size b
          have HDC : Hid (∀ w1, Calls Tryd.prog 8 #[.int .i64 c2] w1 fun e w' => e = .returned (.string (dg c2)) ∧ Below w1.heap.size w1 w') := Lib.hid fun w1 => digit_any c2 w1 (by omega) (by omega)
          have hsDC := dg_size c2
          obtain ⟨T, hT⟩ : ∃ T, txt d (pl W S k) = T := ⟨_, rfl⟩
          have HTX := Lib.hid hT
          have hTT : nm x ++ (⟨#[32]⟩ : ByteArray) ++ dg b ++ ⟨#[112]⟩ ++ dg c2 = T := by
            rw [← hT, hpl]
            show _ = nm x ++ (⟨#[32]⟩ : ByteArray) ++ dg b ++ partT d c
            rw [show partT d c = ⟨#[112]⟩ ++ dg c2 from by rw [← hc2]; exact if_neg hcd]
            exact ByteArray.append_assoc
          clear hT
          have HNM : Hid (nm3[x]? = some (.string (nm (x : Int)))) := Lib.hid (by
            have hx3 : x = 0 ∨ x = 1 ∨ x = 2 := by omega
            rcases hx3 with rfl | rfl | rfl <;> rfl)
          have HXX : Hid ((x : Int) < 3 ∧ 0 ≤ (x : Int)) := Lib.hid ⟨by omega, by omega⟩
          have hsNM := nm_size (x : Int)
          generalize nm (x : Int) = NM at HNM hsNM hTT
          generalize dg (x : Int) = DA at HDA hsDA
          generalize dg b = DB at HDB hsDB hTT
          generalize dg c2 = DC at HDC hsDC hTT
          obtain ⟨T1, hT1⟩ : ∃ T1, NM ++ (⟨#[32]⟩ : ByteArray) = T1 := ⟨_, rfl⟩
          obtain ⟨T2, hT2⟩ : ∃ T2, T1 ++ DB = T2 := ⟨_, rfl⟩
          obtain ⟨T3, hT3⟩ : ∃ T3, T2 ++ (⟨#[112]⟩ : ByteArray) = T3 := ⟨_, rfl⟩
          rw [hT1, hT2, hT3] at hTT
          have z1 : T1.size = NM.size + 1 := by rw [← hT1, ByteArray.size_append]; rfl
          have z2 : T2.size = T1.size + 1 := by rw [← hT2, ByteArray.size_append, hsDB]
          have z3 : T3.size = T2.size + 1 := by rw [← hT3, ByteArray.size_append]; rfl
          have HZ : Hid (¬ 9223372036854775807 < NM.size + 1 ∧ ¬ 9223372036854775807 < T1.size + DB.size ∧ ¬ 9223372036854775807 < T2.size + 1 ∧ ¬ 9223372036854775807 < T3.size + DC.size) := Lib.hid ⟨by omega, by omega, by omega, by omega⟩
          have HT1 := Lib.hid hT1
          have HT2 := Lib.hid hT2
          have HT3 := Lib.hid hT3
          have HT4 := Lib.hid hTT
          clear hT1 hT2 hT3 hTT z1 z2 z3 hb hc hsDB hsDC hsNM hbb
          obtain ⟨pb, po, ep, hpb, hpc⟩ := HPL.out (by
            have h0 : (plc W S N)[k * 4 + 0]? = some (Value.int .i64 (pl W S k).w) := plc_get W S N k hlt 0 _ rfl
            have h1 := (List.getElem?_eq_some_iff.1 h0).1
            omega)
          have hra := plc_at (fun j v hj => ((HBW.out.cell (p := ⟨pb, po + j, none⟩) hpb).trans (hpc j v hj))) hlt
          rw [hpl] at hra
          have HRA : Hid (wr.rangeAt pb (po + k * 4) [.int .i64 0, .int .i64 (x : Int), .int .i64 b, .int .i64 c]) := Lib.hid hra
          subst ep
          clear hpc hpb hra hpl
          go_wp2_with (first
            | ((with_reducible refine wpLoadAtG HRA.out 34 fits_place rfl ?_ ?_); rfl)
            | ((with_reducible refine wpAllocK [Value.int .i64 0, .int .i64 0, .int .i64 0, .int .i64 0] 34 zero_place ?_ ?_); rfl; intro w8 r8 b8 s8; have R8 := Lib.hid r8; have B8 := Lib.hid (HBW.out.next b8); have GB := Lib.hid b8; clear r8 b8 s8)
            | ((with_reducible refine R8.out.wpStoreK 34 [.int .i64 0, .int .i64 (x : Int), .int .i64 b, .int .i64 c] fits_place rfl rfl rfl ?_ ?_); rfl; intro w9 r9 o9 s9; have R9 := Lib.hid r9; have B9 := Lib.hid (B8.out.trans (o9.below HBW.out.size B8.out.size)); have c1 := R9.out.cell 1; clear r9 o9 s9)
            | (go_at_call 8; (with_reducible refine (HDA.out w9).mono ?_); rintro e w10 ⟨rfl, b10⟩; have R10 := Lib.hid (R9.out.step b10); have B10 := Lib.hid (B9.out.next b10); have q0 := R10.out.cell 0; have q3 := R10.out.cell 3; have g0 : w10.cell? ⟨w.heap.size, 0, none⟩ = some (.int .i64 d) := (RG.out.step B10.out).cell 0; clear b10))
          have LP : Hid (wr.heap.size < w10.heap.size) := Lib.hid R10.out.lt
          have LG : Hid (w.heap.size < w10.heap.size) := Lib.hid (RG.out.step B10.out).lt
          have P0 := Lib.hid (R10.out.cell 0)
          have P1 := Lib.hid (R10.out.cell 1)
          have P2 := Lib.hid (R10.out.cell 2)
          have P3 := Lib.hid (R10.out.cell 3)
          have G0 := Lib.hid ((RG.out.step B10.out).cell 0)
          have P0 : Hid (w10.cell? ⟨wr.heap.size, 0, none⟩ = some (.int .i64 0)) := Lib.hid P0.out
          have P1 : Hid (w10.cell? ⟨wr.heap.size, 1, none⟩ = some (.int .i64 (x : Int))) := Lib.hid P1.out
          have P2 : Hid (w10.cell? ⟨wr.heap.size, 2, none⟩ = some (.int .i64 b)) := Lib.hid P2.out
          have P3 : Hid (w10.cell? ⟨wr.heap.size, 3, none⟩ = some (.int .i64 c)) := Lib.hid P3.out
          have G0 : Hid (w10.cell? ⟨w.heap.size, 0, none⟩ = some (.int .i64 d)) := Lib.hid G0.out
          clear q0 q3 g0 c1
          refine region_invX [(0, 91), (1, 92), (2, 93), (3, 94), (4, 95), (5, 96), (6, 97), (7, 98), (8, 99), (9, 100), (10, 101), (11, 102), (12, 103), (13, 104), (14, 105), (15, 106), (16, 107), (17, 108), (18, 109), (19, 110), (20, 8)]
            (fun ii => [NmS x NM, Is (.pointer (some ⟨wr.heap.size, 1, none⟩)), Is (.int .i64 (x : Int)), NmP x NM, Is (.string NM), Is (.string T1), Is (.func (.func 8) #[] #[]), Is (.pointer (some ⟨wr.heap.size, 2, none⟩)), Is (.int .i64 b), Is (.string DB), Is (.string T2), Is (.string T3), Is (.func (.func 8) #[] #[]), Is (.pointer (some ⟨wr.heap.size, 3, none⟩)), Is (.int .i64 c), Is (.pointer (some ⟨w.heap.size, 0, none⟩)), Is (.int .i64 d), Is (.int .i64 c2), Is (.string DC), Is (.string T), Is (.string T)].getD ii (Is undef))
            (fun w' => Below w10.heap.size w10 w') (by kernel_rfl) (by kernel_rfl) (by decide) (by decide) (by kernel_rfl) rfl ?monon ((Below.refl _ _).drew) ?stepn ?finn
          case monon =>
            intro i
            match i with
            | 0 => exact NmS.monot _ _
            | 1 | 2 | 4 | 5 | 6 | 7 | 8 | 9 | 10 | 11 | 12 | 13 | 14 | 15 | 16 | 17 | 18 | 19 | 20 => exact Is.monot _
            | 3 => exact NmP.monot _ _
            | _ + 21 => exact Is.monot _
          case stepn =>
            refine List.forall_mem_cons.2 ⟨?ns0, List.forall_mem_cons.2 ⟨?ns1, List.forall_mem_cons.2 ⟨?ns2, List.forall_mem_cons.2 ⟨?ns3, List.forall_mem_cons.2 ⟨?ns4, List.forall_mem_cons.2 ⟨?ns5, List.forall_mem_cons.2 ⟨?ns6, List.forall_mem_cons.2 ⟨?ns7, List.forall_mem_cons.2 ⟨?ns8, List.forall_mem_cons.2 ⟨?ns9, List.forall_mem_cons.2 ⟨?ns10, List.forall_mem_cons.2 ⟨?ns11, List.forall_mem_cons.2 ⟨?ns12, List.forall_mem_cons.2 ⟨?ns13, List.forall_mem_cons.2 ⟨?ns14, List.forall_mem_cons.2 ⟨?ns15, List.forall_mem_cons.2 ⟨?ns16, List.forall_mem_cons.2 ⟨?ns17, List.forall_mem_cons.2 ⟨?ns18, List.forall_mem_cons.2 ⟨?ns19, List.forall_mem_cons.2 ⟨?ns20, List.forall_mem_nil _⟩⟩⟩⟩⟩⟩⟩⟩⟩⟩⟩⟩⟩⟩⟩⟩⟩⟩⟩⟩⟩
            case ns0 =>
              intro u wx hg hC
              clear hC
              refine wpOp_step rfl (fun K hK => ?_)
              simp only [puts, List.foldl]
              go_simp
              exact hK _ _ ⟨rfl, nms_new x NM HNM.out _ _, hg.alloc hg.size _, alloc_below _ _⟩
            case ns1 =>
              intro u wx hg hC
              clear hC
              refine wpOp_step rfl (fun K hK => ?_)
              simp only [puts, List.foldl]
              go_simp
              exact hK _ _ ⟨rfl, rfl, hg, Below.refl _ _⟩
            case ns2 =>
              intro u wx hg hC
              have hJ1 : u 1 = (.pointer (some ⟨wr.heap.size, 1, none⟩)) := hC.at 1 (by kernel_rfl)
              clear hC
              have hcl : wx.cell? ⟨wr.heap.size, 1, none⟩ = some (.int .i64 (x : Int)) := (hg.cell (p := ⟨wr.heap.size, 1, none⟩) LP.out).trans P1.out
              refine wpOp_step rfl (fun K hK => ?_)
              simp only [puts, List.foldl]
              go_simp
              exact hK _ _ ⟨rfl, rfl, hg, Below.refl _ _⟩
            case ns3 =>
              intro u wx hg hC
              have hJ0 : (NmS x NM) (u 0) wx := hC.at 0 (by kernel_rfl)
              have hJ2 : u 2 = (.int .i64 (x : Int)) := hC.at 2 (by kernel_rfl)
              clear hC
              obtain ⟨nb, en, ln, cn⟩ := hJ0
              have hx0 := HXX.out.1
              have hx1 := HXX.out.2
              refine wpOp_step rfl (fun K hK => ?_)
              simp only [puts, List.foldl]
              go_simp
              exact hK _ _ ⟨rfl, ⟨nb, rfl, ln, cn⟩, hg, Below.refl _ _⟩
            case ns4 =>
              intro u wx hg hC
              have hJ3 : (NmP x NM) (u 3) wx := hC.at 3 (by kernel_rfl)
              clear hC
              obtain ⟨nb, en, ln, cn⟩ := hJ3
              refine wpOp_step rfl (fun K hK => ?_)
              simp only [puts, List.foldl]
              go_simp
              exact hK _ _ ⟨rfl, rfl, hg, Below.refl _ _⟩
            case ns5 =>
              intro u wx hg hC
              have hJ4 : u 4 = (.string NM) := hC.at 4 (by kernel_rfl)
              clear hC
              have hw : NM ++ { data := #[32] } = T1 := HT1.out
              have hz : ¬ 9223372036854775807 < NM.size + 1 := HZ.out.1
              refine wpOp_step rfl (fun K hK => ?_)
              simp only [puts, List.foldl]
              go_simp
              exact hK _ _ ⟨rfl, rfl, hg, Below.refl _ _⟩
            case ns6 =>
              intro u wx hg hC
              clear hC
              refine wpOp_step rfl (fun K hK => ?_)
              simp only [puts, List.foldl]
              go_simp
              exact hK _ _ ⟨rfl, rfl, hg, Below.refl _ _⟩
            case ns7 =>
              intro u wx hg hC
              clear hC
              refine wpOp_step rfl (fun K hK => ?_)
              simp only [puts, List.foldl]
              go_simp
              exact hK _ _ ⟨rfl, rfl, hg, Below.refl _ _⟩
            case ns8 =>
              intro u wx hg hC
              have hJ7 : u 7 = (.pointer (some ⟨wr.heap.size, 2, none⟩)) := hC.at 7 (by kernel_rfl)
              clear hC
              have hcl : wx.cell? ⟨wr.heap.size, 2, none⟩ = some (.int .i64 b) := (hg.cell (p := ⟨wr.heap.size, 2, none⟩) LP.out).trans P2.out
              refine wpOp_step rfl (fun K hK => ?_)
              simp only [puts, List.foldl]
              go_simp
              exact hK _ _ ⟨rfl, rfl, hg, Below.refl _ _⟩
            case ns9 =>
              intro u wx hg hC
              have hJ6 : u 6 = (.func (.func 8) #[] #[]) := hC.at 6 (by kernel_rfl)
              have hJ8 : u 8 = (.int .i64 b) := hC.at 8 (by kernel_rfl)
              clear hC
              refine wpOp_step rfl (fun K hK => ?_)
              simp only [puts, List.foldl]
              go_simp
              refine (HDB.out wx).mono ?_
              rintro e w' ⟨rfl, hb'⟩
              exact hK _ _ ⟨rfl, rfl, hg.next hb', hb'⟩
            case ns10 =>
              intro u wx hg hC
              have hJ5 : u 5 = (.string T1) := hC.at 5 (by kernel_rfl)
              have hJ9 : u 9 = (.string DB) := hC.at 9 (by kernel_rfl)
              clear hC
              have hw : T1 ++ DB = T2 := HT2.out
              have hz : ¬ 9223372036854775807 < T1.size + DB.size := HZ.out.2.1
              refine wpOp_step rfl (fun K hK => ?_)
              simp only [puts, List.foldl]
              go_simp
              exact hK _ _ ⟨rfl, rfl, hg, Below.refl _ _⟩
            case ns11 =>
              intro u wx hg hC
              have hJ10 : u 10 = (.string T2) := hC.at 10 (by kernel_rfl)
              clear hC
              have hw : T2 ++ { data := #[112] } = T3 := HT3.out
              have hz : ¬ 9223372036854775807 < T2.size + 1 := HZ.out.2.2.1
              refine wpOp_step rfl (fun K hK => ?_)
              simp only [puts, List.foldl]
              go_simp
              exact hK _ _ ⟨rfl, rfl, hg, Below.refl _ _⟩
            case ns12 =>
              intro u wx hg hC
              clear hC
              refine wpOp_step rfl (fun K hK => ?_)
              simp only [puts, List.foldl]
              go_simp
              exact hK _ _ ⟨rfl, rfl, hg, Below.refl _ _⟩
            case ns13 =>
              intro u wx hg hC
              clear hC
              refine wpOp_step rfl (fun K hK => ?_)
              simp only [puts, List.foldl]
              go_simp
              exact hK _ _ ⟨rfl, rfl, hg, Below.refl _ _⟩
            case ns14 =>
              intro u wx hg hC
              have hJ13 : u 13 = (.pointer (some ⟨wr.heap.size, 3, none⟩)) := hC.at 13 (by kernel_rfl)
              clear hC
              have hcl : wx.cell? ⟨wr.heap.size, 3, none⟩ = some (.int .i64 c) := (hg.cell (p := ⟨wr.heap.size, 3, none⟩) LP.out).trans P3.out
              refine wpOp_step rfl (fun K hK => ?_)
              simp only [puts, List.foldl]
              go_simp
              exact hK _ _ ⟨rfl, rfl, hg, Below.refl _ _⟩
            case ns15 =>
              intro u wx hg hC
              clear hC
              refine wpOp_step rfl (fun K hK => ?_)
              simp only [puts, List.foldl]
              go_simp
              exact hK _ _ ⟨rfl, rfl, hg, Below.refl _ _⟩
            case ns16 =>
              intro u wx hg hC
              have hJ15 : u 15 = (.pointer (some ⟨w.heap.size, 0, none⟩)) := hC.at 15 (by kernel_rfl)
              clear hC
              have hcl : wx.cell? ⟨w.heap.size, 0, none⟩ = some (.int .i64 d) := (hg.cell (p := ⟨w.heap.size, 0, none⟩) LG.out).trans G0.out
              refine wpOp_step rfl (fun K hK => ?_)
              simp only [puts, List.foldl]
              go_simp
              exact hK _ _ ⟨rfl, rfl, hg, Below.refl _ _⟩
            case ns17 =>
              intro u wx hg hC
              have hJ14 : u 14 = (.int .i64 c) := hC.at 14 (by kernel_rfl)
              have hJ16 : u 16 = (.int .i64 d) := hC.at 16 (by kernel_rfl)
              clear hC
              have hw : IntKind.i64.wrap (c - d) = c2 := HC2.out.1
              have hw2 : IntKind.i64.wrap c2 = c2 := HC2.out.2
              refine wpOp_step rfl (fun K hK => ?_)
              simp only [puts, List.foldl]
              go_simp
              exact hK _ _ ⟨rfl, rfl, hg, Below.refl _ _⟩
            case ns18 =>
              intro u wx hg hC
              have hJ12 : u 12 = (.func (.func 8) #[] #[]) := hC.at 12 (by kernel_rfl)
              have hJ17 : u 17 = (.int .i64 c2) := hC.at 17 (by kernel_rfl)
              clear hC
              refine wpOp_step rfl (fun K hK => ?_)
              simp only [puts, List.foldl]
              go_simp
              refine (HDC.out wx).mono ?_
              rintro e w' ⟨rfl, hb'⟩
              exact hK _ _ ⟨rfl, rfl, hg.next hb', hb'⟩
            case ns19 =>
              intro u wx hg hC
              have hJ11 : u 11 = (.string T3) := hC.at 11 (by kernel_rfl)
              have hJ18 : u 18 = (.string DC) := hC.at 18 (by kernel_rfl)
              clear hC
              have hw : T3 ++ DC = T := HT4.out
              have hz : ¬ 9223372036854775807 < T3.size + DC.size := HZ.out.2.2.2
              refine wpOp_step rfl (fun K hK => ?_)
              simp only [puts, List.foldl]
              go_simp
              exact hK _ _ ⟨rfl, rfl, hg, Below.refl _ _⟩
            case ns20 =>
              intro u wx hg hC
              have hJ19 : u 19 = (.string T) := hC.at 19 (by kernel_rfl)
              clear hC
              refine wpOp_step rfl (fun K hK => ?_)
              simp only [puts, List.foldl]
              go_simp
              exact hK _ _ ⟨rfl, rfl, hg, Below.refl _ _⟩
          case finn =>
            intro u wq hbq hφ
            have e8 : u 20 = .string T := hφ (20, 8) (by decide)
            clear hφ
            simp only [puts, List.foldl]
            go_simp
            clear e8
            have HBQ := Lib.hid (B10.out.next hbq)
            obtain ⟨mb, mo, e, hmb, hmc⟩ := HML.out (by rw [strs_length, txs_length]; omega)
            have hcm : wq.cell? ⟨mb, mo + k, none⟩ = some (.string T) := (HBQ.out.cell (p := ⟨mb, mo + k, none⟩) hmb).trans (by
              refine hmc k _ ?_
              rw [strs, List.getElem?_map, txs_get d W S N k hlt, HTX.out]
              rfl)
            subst e
            have hbt : (T.toList == T.toList) = true := beq_self_eq_true _
            clear hbq hmc hmb
            go_wp2
            go_roundw
            case rel => exact ⟨k + 1, by omega, by go_num, HBQ.out⟩
            case measure => simp [intOf]; omega
      · clear ek
        obtain ⟨a, ha⟩ : ∃ a : Int, (x : Int) = a := ⟨_, rfl⟩
        obtain ⟨b, hb⟩ : ∃ a : Int, (y : Int) = a := ⟨_, rfl⟩
        obtain ⟨c, hc⟩ : ∃ a : Int, (z : Int) = a := ⟨_, rfl⟩
        rw [ha, hb, hc] at hpl
        have HDA : Hid (∀ w1, Calls Tryd.prog 8 #[.int .i64 a] w1 fun e w' => e = .returned (.string (dg a)) ∧ Below w1.heap.size w1 w') := Lib.hid fun w1 => digit_any a w1 (by omega) (by omega)
        have hsDA := dg_size a
        have HDB : Hid (∀ w1, Calls Tryd.prog 8 #[.int .i64 b] w1 fun e w' => e = .returned (.string (dg b)) ∧ Below w1.heap.size w1 w') := Lib.hid fun w1 => digit_any b w1 (by omega) (by omega)
        have hsDB := dg_size b
        have HDC : Hid (∀ w1, Calls Tryd.prog 8 #[.int .i64 c] w1 fun e w' => e = .returned (.string (dg c)) ∧ Below w1.heap.size w1 w') := Lib.hid fun w1 => digit_any c w1 (by omega) (by omega)
        have hsDC := dg_size c
        obtain ⟨T, hT⟩ : ∃ T, txt d (pl W S k) = T := ⟨_, rfl⟩
        have HTX := Lib.hid hT
        have hTT : (⟨#[108, 111, 103, 32]⟩ : ByteArray) ++ dg a ++ ⟨#[46]⟩ ++ dg b ++ ⟨#[46]⟩ ++ dg c = T := by rw [← hT, hpl]; rfl
        clear hT
        generalize dg a = DA at HDA hsDA hTT
        generalize dg b = DB at HDB hsDB hTT
        generalize dg c = DC at HDC hsDC hTT
        obtain ⟨T1, hT1⟩ : ∃ T1, (⟨#[108, 111, 103, 32]⟩ : ByteArray) ++ DA = T1 := ⟨_, rfl⟩
        obtain ⟨T2, hT2⟩ : ∃ T2, T1 ++ (⟨#[46]⟩ : ByteArray) = T2 := ⟨_, rfl⟩
        obtain ⟨T3, hT3⟩ : ∃ T3, T2 ++ DB = T3 := ⟨_, rfl⟩
        obtain ⟨T4, hT4⟩ : ∃ T4, T3 ++ (⟨#[46]⟩ : ByteArray) = T4 := ⟨_, rfl⟩
        rw [hT1, hT2, hT3, hT4] at hTT
        have z1 : T1.size = 5 := by rw [← hT1, ByteArray.size_append, hsDA]; rfl
        have z2 : T2.size = 6 := by rw [← hT2, ByteArray.size_append, z1]; rfl
        have z3 : T3.size = 7 := by rw [← hT3, ByteArray.size_append, z2, hsDB]
        have z4 : T4.size = 8 := by rw [← hT4, ByteArray.size_append, z3]; rfl
        have HZ : Hid (¬ 9223372036854775807 < 4 + DA.size ∧ ¬ 9223372036854775807 < T1.size + 1 ∧ ¬ 9223372036854775807 < T2.size + DB.size ∧ ¬ 9223372036854775807 < T3.size + 1 ∧ ¬ 9223372036854775807 < T4.size + DC.size) := Lib.hid ⟨by omega, by omega, by omega, by omega, by omega⟩
        have HT1 := Lib.hid hT1
        have HT2 := Lib.hid hT2
        have HT3 := Lib.hid hT3
        have HT4 := Lib.hid hT4
        have HT5 := Lib.hid hTT
        clear hT1 hT2 hT3 hT4 hTT z1 z2 z3 z4 ha hb hc hsDB hsDC
        obtain ⟨pb, po, ep, hpb, hpc⟩ := HPL.out (by
          have h0 : (plc W S N)[k * 4 + 0]? = some (Value.int .i64 (pl W S k).w) := plc_get W S N k hlt 0 _ rfl
          have h1 := (List.getElem?_eq_some_iff.1 h0).1
          omega)
        have hra := plc_at (fun j v hj => ((HBW.out.cell (p := ⟨pb, po + j, none⟩) hpb).trans (hpc j v hj))) hlt
        rw [hpl] at hra
        have HRA : Hid (wr.rangeAt pb (po + k * 4) [.int .i64 1, .int .i64 a, .int .i64 b, .int .i64 c]) := Lib.hid hra
        subst ep
        clear hpc hpb hra hpl
        go_wp2_with (first
          | ((with_reducible refine wpLoadAtG HRA.out 34 fits_place rfl ?_ ?_); rfl)
          | ((with_reducible refine wpAllocK [Value.int .i64 0, .int .i64 0, .int .i64 0, .int .i64 0] 34 zero_place ?_ ?_); rfl; intro w8 r8 b8 s8; have R8 := Lib.hid r8; have B8 := Lib.hid (HBW.out.next b8); have GB := Lib.hid b8; clear r8 b8 s8)
          | ((with_reducible refine R8.out.wpStoreK 34 [.int .i64 1, .int .i64 a, .int .i64 b, .int .i64 c] fits_place rfl rfl rfl ?_ ?_); rfl; intro w9 r9 o9 s9; have R9 := Lib.hid r9; have B9 := Lib.hid (B8.out.trans (o9.below HBW.out.size B8.out.size)); have c1 := R9.out.cell 1; clear r9 o9 s9)
          | (go_at_call 8; (with_reducible refine (HDA.out w9).mono ?_); rintro e w10 ⟨rfl, b10⟩; have R10 := Lib.hid (R9.out.step b10); have B10 := Lib.hid (B9.out.next b10); have q0 := R10.out.cell 0; have q3 := R10.out.cell 3; have g0 : w10.cell? ⟨w.heap.size, 0, none⟩ = some (.int .i64 d) := (RG.out.step B10.out).cell 0; clear b10))
        have LP : Hid (wr.heap.size < w10.heap.size) := Lib.hid R10.out.lt
        have LG : Hid (w.heap.size < w10.heap.size) := Lib.hid (RG.out.step B10.out).lt
        have P0 := Lib.hid (R10.out.cell 0)
        have P1 := Lib.hid (R10.out.cell 1)
        have P2 := Lib.hid (R10.out.cell 2)
        have P3 := Lib.hid (R10.out.cell 3)
        have G0 := Lib.hid ((RG.out.step B10.out).cell 0)
        have P0 : Hid (w10.cell? ⟨wr.heap.size, 0, none⟩ = some (.int .i64 1)) := Lib.hid P0.out
        have P1 : Hid (w10.cell? ⟨wr.heap.size, 1, none⟩ = some (.int .i64 a)) := Lib.hid P1.out
        have P2 : Hid (w10.cell? ⟨wr.heap.size, 2, none⟩ = some (.int .i64 b)) := Lib.hid P2.out
        have P3 : Hid (w10.cell? ⟨wr.heap.size, 3, none⟩ = some (.int .i64 c)) := Lib.hid P3.out
        have G0 : Hid (w10.cell? ⟨w.heap.size, 0, none⟩ = some (.int .i64 d)) := Lib.hid G0.out
        clear q0 q3 g0 c1
        refine region_invX [(0, 42), (1, 43), (2, 44), (3, 45), (4, 46), (5, 47), (6, 48), (7, 49), (8, 50), (9, 51), (10, 52), (11, 53), (12, 54), (13, 55), (14, 56), (15, 57), (16, 58), (17, 8)]
          (fun ii => [Is (.func (.func 8) #[] #[]), Is (.pointer (some ⟨wr.heap.size, 1, none⟩)), Is (.int .i64 a), Is (.string DA), Is (.string T1), Is (.string T2), Is (.func (.func 8) #[] #[]), Is (.pointer (some ⟨wr.heap.size, 2, none⟩)), Is (.int .i64 b), Is (.string DB), Is (.string T3), Is (.string T4), Is (.func (.func 8) #[] #[]), Is (.pointer (some ⟨wr.heap.size, 3, none⟩)), Is (.int .i64 c), Is (.string DC), Is (.string T), Is (.string T)].getD ii (Is undef))
          (fun w' => Below w10.heap.size w10 w') (by kernel_rfl) (by kernel_rfl) (by decide) (by decide) (by kernel_rfl) rfl ?monon ((Below.refl _ _).drew) ?stepn ?finn
        case monon =>
          intro i
          match i with
          | 0 | 1 | 2 | 3 | 4 | 5 | 6 | 7 | 8 | 9 | 10 | 11 | 12 | 13 | 14 | 15 | 16 | 17 => exact Is.monot _
          | _ + 18 => exact Is.monot _
        case stepn =>
          refine List.forall_mem_cons.2 ⟨?ns0, List.forall_mem_cons.2 ⟨?ns1, List.forall_mem_cons.2 ⟨?ns2, List.forall_mem_cons.2 ⟨?ns3, List.forall_mem_cons.2 ⟨?ns4, List.forall_mem_cons.2 ⟨?ns5, List.forall_mem_cons.2 ⟨?ns6, List.forall_mem_cons.2 ⟨?ns7, List.forall_mem_cons.2 ⟨?ns8, List.forall_mem_cons.2 ⟨?ns9, List.forall_mem_cons.2 ⟨?ns10, List.forall_mem_cons.2 ⟨?ns11, List.forall_mem_cons.2 ⟨?ns12, List.forall_mem_cons.2 ⟨?ns13, List.forall_mem_cons.2 ⟨?ns14, List.forall_mem_cons.2 ⟨?ns15, List.forall_mem_cons.2 ⟨?ns16, List.forall_mem_cons.2 ⟨?ns17, List.forall_mem_nil _⟩⟩⟩⟩⟩⟩⟩⟩⟩⟩⟩⟩⟩⟩⟩⟩⟩⟩
          case ns0 =>
            intro u wx hg hC
            clear hC
            refine wpOp_step rfl (fun K hK => ?_)
            simp only [puts, List.foldl]
            go_simp
            exact hK _ _ ⟨rfl, rfl, hg, Below.refl _ _⟩
          case ns1 =>
            intro u wx hg hC
            clear hC
            refine wpOp_step rfl (fun K hK => ?_)
            simp only [puts, List.foldl]
            go_simp
            exact hK _ _ ⟨rfl, rfl, hg, Below.refl _ _⟩
          case ns2 =>
            intro u wx hg hC
            have hJ1 : u 1 = (.pointer (some ⟨wr.heap.size, 1, none⟩)) := hC.at 1 (by kernel_rfl)
            clear hC
            have hcl : wx.cell? ⟨wr.heap.size, 1, none⟩ = some (.int .i64 a) := (hg.cell (p := ⟨wr.heap.size, 1, none⟩) LP.out).trans P1.out
            refine wpOp_step rfl (fun K hK => ?_)
            simp only [puts, List.foldl]
            go_simp
            exact hK _ _ ⟨rfl, rfl, hg, Below.refl _ _⟩
          case ns3 =>
            intro u wx hg hC
            have hJ0 : u 0 = (.func (.func 8) #[] #[]) := hC.at 0 (by kernel_rfl)
            have hJ2 : u 2 = (.int .i64 a) := hC.at 2 (by kernel_rfl)
            clear hC
            refine wpOp_step rfl (fun K hK => ?_)
            simp only [puts, List.foldl]
            go_simp
            refine (HDA.out wx).mono ?_
            rintro e w' ⟨rfl, hb'⟩
            exact hK _ _ ⟨rfl, rfl, hg.next hb', hb'⟩
          case ns4 =>
            intro u wx hg hC
            have hJ3 : u 3 = (.string DA) := hC.at 3 (by kernel_rfl)
            clear hC
            have hw : { data := #[108, 111, 103, 32] } ++ DA = T1 := HT1.out
            have hz : ¬ 9223372036854775807 < 4 + DA.size := HZ.out.1
            refine wpOp_step rfl (fun K hK => ?_)
            simp only [puts, List.foldl]
            go_simp
            exact hK _ _ ⟨rfl, rfl, hg, Below.refl _ _⟩
          case ns5 =>
            intro u wx hg hC
            have hJ4 : u 4 = (.string T1) := hC.at 4 (by kernel_rfl)
            clear hC
            have hw : T1 ++ { data := #[46] } = T2 := HT2.out
            have hz : ¬ 9223372036854775807 < T1.size + 1 := HZ.out.2.1
            refine wpOp_step rfl (fun K hK => ?_)
            simp only [puts, List.foldl]
            go_simp
            exact hK _ _ ⟨rfl, rfl, hg, Below.refl _ _⟩
          case ns6 =>
            intro u wx hg hC
            clear hC
            refine wpOp_step rfl (fun K hK => ?_)
            simp only [puts, List.foldl]
            go_simp
            exact hK _ _ ⟨rfl, rfl, hg, Below.refl _ _⟩
          case ns7 =>
            intro u wx hg hC
            clear hC
            refine wpOp_step rfl (fun K hK => ?_)
            simp only [puts, List.foldl]
            go_simp
            exact hK _ _ ⟨rfl, rfl, hg, Below.refl _ _⟩
          case ns8 =>
            intro u wx hg hC
            have hJ7 : u 7 = (.pointer (some ⟨wr.heap.size, 2, none⟩)) := hC.at 7 (by kernel_rfl)
            clear hC
            have hcl : wx.cell? ⟨wr.heap.size, 2, none⟩ = some (.int .i64 b) := (hg.cell (p := ⟨wr.heap.size, 2, none⟩) LP.out).trans P2.out
            refine wpOp_step rfl (fun K hK => ?_)
            simp only [puts, List.foldl]
            go_simp
            exact hK _ _ ⟨rfl, rfl, hg, Below.refl _ _⟩
          case ns9 =>
            intro u wx hg hC
            have hJ6 : u 6 = (.func (.func 8) #[] #[]) := hC.at 6 (by kernel_rfl)
            have hJ8 : u 8 = (.int .i64 b) := hC.at 8 (by kernel_rfl)
            clear hC
            refine wpOp_step rfl (fun K hK => ?_)
            simp only [puts, List.foldl]
            go_simp
            refine (HDB.out wx).mono ?_
            rintro e w' ⟨rfl, hb'⟩
            exact hK _ _ ⟨rfl, rfl, hg.next hb', hb'⟩
          case ns10 =>
            intro u wx hg hC
            have hJ5 : u 5 = (.string T2) := hC.at 5 (by kernel_rfl)
            have hJ9 : u 9 = (.string DB) := hC.at 9 (by kernel_rfl)
            clear hC
            have hw : T2 ++ DB = T3 := HT3.out
            have hz : ¬ 9223372036854775807 < T2.size + DB.size := HZ.out.2.2.1
            refine wpOp_step rfl (fun K hK => ?_)
            simp only [puts, List.foldl]
            go_simp
            exact hK _ _ ⟨rfl, rfl, hg, Below.refl _ _⟩
          case ns11 =>
            intro u wx hg hC
            have hJ10 : u 10 = (.string T3) := hC.at 10 (by kernel_rfl)
            clear hC
            have hw : T3 ++ { data := #[46] } = T4 := HT4.out
            have hz : ¬ 9223372036854775807 < T3.size + 1 := HZ.out.2.2.2.1
            refine wpOp_step rfl (fun K hK => ?_)
            simp only [puts, List.foldl]
            go_simp
            exact hK _ _ ⟨rfl, rfl, hg, Below.refl _ _⟩
          case ns12 =>
            intro u wx hg hC
            clear hC
            refine wpOp_step rfl (fun K hK => ?_)
            simp only [puts, List.foldl]
            go_simp
            exact hK _ _ ⟨rfl, rfl, hg, Below.refl _ _⟩
          case ns13 =>
            intro u wx hg hC
            clear hC
            refine wpOp_step rfl (fun K hK => ?_)
            simp only [puts, List.foldl]
            go_simp
            exact hK _ _ ⟨rfl, rfl, hg, Below.refl _ _⟩
          case ns14 =>
            intro u wx hg hC
            have hJ13 : u 13 = (.pointer (some ⟨wr.heap.size, 3, none⟩)) := hC.at 13 (by kernel_rfl)
            clear hC
            have hcl : wx.cell? ⟨wr.heap.size, 3, none⟩ = some (.int .i64 c) := (hg.cell (p := ⟨wr.heap.size, 3, none⟩) LP.out).trans P3.out
            refine wpOp_step rfl (fun K hK => ?_)
            simp only [puts, List.foldl]
            go_simp
            exact hK _ _ ⟨rfl, rfl, hg, Below.refl _ _⟩
          case ns15 =>
            intro u wx hg hC
            have hJ12 : u 12 = (.func (.func 8) #[] #[]) := hC.at 12 (by kernel_rfl)
            have hJ14 : u 14 = (.int .i64 c) := hC.at 14 (by kernel_rfl)
            clear hC
            refine wpOp_step rfl (fun K hK => ?_)
            simp only [puts, List.foldl]
            go_simp
            refine (HDC.out wx).mono ?_
            rintro e w' ⟨rfl, hb'⟩
            exact hK _ _ ⟨rfl, rfl, hg.next hb', hb'⟩
          case ns16 =>
            intro u wx hg hC
            have hJ11 : u 11 = (.string T4) := hC.at 11 (by kernel_rfl)
            have hJ15 : u 15 = (.string DC) := hC.at 15 (by kernel_rfl)
            clear hC
            have hw : T4 ++ DC = T := HT5.out
            have hz : ¬ 9223372036854775807 < T4.size + DC.size := HZ.out.2.2.2.2
            refine wpOp_step rfl (fun K hK => ?_)
            simp only [puts, List.foldl]
            go_simp
            exact hK _ _ ⟨rfl, rfl, hg, Below.refl _ _⟩
          case ns17 =>
            intro u wx hg hC
            have hJ16 : u 16 = (.string T) := hC.at 16 (by kernel_rfl)
            clear hC
            refine wpOp_step rfl (fun K hK => ?_)
            simp only [puts, List.foldl]
            go_simp
            exact hK _ _ ⟨rfl, rfl, hg, Below.refl _ _⟩
        case finn =>
          intro u wq hbq hφ
          have e8 : u 17 = .string T := hφ (17, 8) (by decide)
          clear hφ
          simp only [puts, List.foldl]
          go_simp
          clear e8
          have HBQ := Lib.hid (B10.out.next hbq)
          obtain ⟨mb, mo, e, hmb, hmc⟩ := HML.out (by rw [strs_length, txs_length]; omega)
          have hcm : wq.cell? ⟨mb, mo + k, none⟩ = some (.string T) := (HBQ.out.cell (p := ⟨mb, mo + k, none⟩) hmb).trans (by
            refine hmc k _ ?_
            rw [strs, List.getElem?_map, txs_get d W S N k hlt, HTX.out]
            rfl)
          subst e
          have hbt : (T.toList == T.toList) = true := beq_self_eq_true _
          clear hbq hmc hmb
          go_wp2
          go_roundw
          case rel => exact ⟨k + 1, by omega, by go_num, HBQ.out⟩
          case measure => simp [intOf]; omega
      · clear ek
        obtain ⟨a, ha⟩ : ∃ a : Int, (x : Int) = a := ⟨_, rfl⟩
        rw [ha] at hpl
        have HDA : Hid (∀ w1, Calls Tryd.prog 8 #[.int .i64 a] w1 fun e w' => e = .returned (.string (dg a)) ∧ Below w1.heap.size w1 w') := Lib.hid fun w1 => digit_any a w1 (by omega) (by omega)
        have hsDA := dg_size a
        obtain ⟨T, hT⟩ : ∃ T, txt d (pl W S k) = T := ⟨_, rfl⟩
        have HTX := Lib.hid hT
        have hT1 : (⟨#[116, 97, 108, 108, 121, 32]⟩ : ByteArray) ++ dg a = T := by rw [← hT, hpl]; rfl
        clear hT
        generalize dg a = DA at HDA hsDA hT1
        obtain ⟨pb, po, ep, hpb, hpc⟩ := HPL.out (by
          have h0 : (plc W S N)[k * 4 + 0]? = some (Value.int .i64 (pl W S k).w) := plc_get W S N k hlt 0 _ rfl
          have h1 := (List.getElem?_eq_some_iff.1 h0).1
          omega)
        have hra := plc_at (fun j v hj => ((HBW.out.cell (p := ⟨pb, po + j, none⟩) hpb).trans (hpc j v hj))) hlt
        rw [hpl] at hra
        have HRA : Hid (wr.rangeAt pb (po + k * 4) [.int .i64 2, .int .i64 a, .int .i64 0, .int .i64 0]) := Lib.hid hra
        subst ep
        clear hpc hpb hra hpl
        go_wp2_with (first
          | ((with_reducible refine wpLoadAtG HRA.out 34 fits_place rfl ?_ ?_); rfl)
          | ((with_reducible refine wpAllocK [Value.int .i64 0, .int .i64 0, .int .i64 0, .int .i64 0] 34 zero_place ?_ ?_); rfl; intro w8 r8 b8 s8; have R8 := Lib.hid r8; have B8 := Lib.hid (HBW.out.next b8); have GB := Lib.hid b8; clear r8 b8 s8)
          | ((with_reducible refine R8.out.wpStoreK 34 [.int .i64 2, .int .i64 a, .int .i64 0, .int .i64 0] fits_place rfl rfl rfl ?_ ?_); rfl; intro w9 r9 o9 s9; have R9 := Lib.hid r9; have B9 := Lib.hid (B8.out.trans (o9.below HBW.out.size B8.out.size)); have c1 := R9.out.cell 1; clear r9 o9 s9)
          | (go_at_call 8; (with_reducible refine (HDA.out w9).mono ?_); rintro e wq ⟨rfl, b10⟩; have R10 := Lib.hid (R9.out.step b10); have HBQ := Lib.hid (B9.out.next b10); have q0 := R10.out.cell 0; have g0 : wq.cell? ⟨w.heap.size, 0, none⟩ = some (.int .i64 d) := (RG.out.step HBQ.out).cell 0; obtain ⟨mb, mo, em, hmb, hmc⟩ := HML.out (by rw [strs_length, txs_length]; omega); have hcm : wq.cell? ⟨mb, mo + k, none⟩ = some (.string T) := ((HBQ.out.cell (p := ⟨mb, mo + k, none⟩) hmb).trans (hmc k _ (by rw [strs, List.getElem?_map, txs_get d W S N k hlt, HTX.out]; rfl))); subst em; have hbt : (T.toList == T.toList) = true := beq_self_eq_true _; clear hmc hmb b10))
        go_roundw
        case rel => exact ⟨k + 1, by omega, by go_num, HBQ.out⟩
        case measure => simp [intOf]; omega
    · have e1 : ¬ (k : Int) < (N : Int) := by omega
      go_wp2
      go_ret
      exact ⟨rfl, B5.out.trans (HBW.out.mono B5.out.size)⟩
end Go.Proofs.YtiakbdekleaaoaaDoor
