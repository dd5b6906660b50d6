/- The walk of PolyDivides. -/
import Derived.Test.YtligaipkdabmoaaPolyX
import Derived.Test.YtligaipkdabmoaaPolyU
namespace Go.Proofs.Ytligaipkdabmoaa
open Go.RowKit GfMath PolyMath
set_option linter.unusedVariables false

set_option maxRecDepth 100000 in
set_option maxHeartbeats 4000000 in
theorem polyDivides_walk (a c : Option Addr) (ca cc : Nat) (X Y : List Nat) (w : World) (hX : By X) (hY : By Y) (h1 : X.length ≤ ca) (h2 : Y.length ≤ cc) (h3 : ca ≤ 140737488351232) (h4 : cc ≤ 140737488351232)
    (hr : Lies w w.heap.size a (u8s X)) (hs : Lies w w.heap.size c (u8s Y)) :
    Calls Try.prog 4 #[.slice a X.length ca, .slice c Y.length cc] w fun e w' => e = .returned (.bool true) ∧ Below w.heap.size w w' := by
  have HG := Lib.hid (great_two a X.length ca c Y.length cc (by omega) (by omega))
  have HR := Lib.hid hr
  have HS := Lib.hid hs
  clear hr hs
  by_cases h60 : 60 < X.length ∨ 60 < Y.length
  · have HG2 : Hid (∀ u : World, Calls Try.prog 12 #[.slice (some ⟨u.heap.size, 0, none⟩) 2 2] (u.alloc (.cells #[.slice a X.length ca, .slice c Y.length cc] 28)) fun e w' => e = .returned (.bool true) ∧ Below u.heap.size u w') := Lib.hid fun u => by have := HG.out u; rwa [decide_eq_true h60] at this
    clear HG h60
    go_enter Try.func4, Try.ntmps4
    go_wp2_with (first
      | (go_at_call 11; (with_reducible refine (awake_any w).mono ?_); rintro e u1 ⟨rfl, b1⟩; have B1 := Lib.hid b1; clear b1)
      | (go_at_call 12; (with_reducible refine (HG2.out u1).mono ?_); rintro e u2 ⟨rfl, b2⟩; have B2 := Lib.hid (B1.out.next b2); clear b2))
    go_ret
    exact ⟨rfl, B2.out⟩
  · have HG2 : Hid (∀ u : World, Calls Try.prog 12 #[.slice (some ⟨u.heap.size, 0, none⟩) 2 2] (u.alloc (.cells #[.slice a X.length ca, .slice c Y.length cc] 28)) fun e w' => e = .returned (.bool false) ∧ Below u.heap.size u w') := Lib.hid fun u => by have := HG.out u; rwa [decide_eq_false h60] at this
    have hla : X.length ≤ 60 := by omega
    have hlc : Y.length ≤ 60 := by omega
    have hbx := beh_le X
    have hby := beh_le Y
    by_cases h0 : (beh Y).length = 0
    · have HDM : Hid (∀ (u : World) (b : Nat), Lies u u.heap.size a (u8s X) → Lies u u.heap.size c (u8s Y) → Calls Try.prog 20 #[.pointer (some ⟨b, 0, none⟩), .slice a X.length ca, .slice c Y.length cc] u fun e w' => e = .returned (.tuple #[.slice none 0 0, .slice none 0 0, .bool false]) ∧ u = w') := Lib.hid fun u b h5 h6 => divmod_zero b a c ca cc X Y u (by omega) (by omega) h1 h2 h0 h5 h6
      have HDG : Hid (∀ u : World, Lies u u.heap.size c (u8s Y) → Calls Try.prog 21 #[.slice c Y.length cc] u fun e w' => e = .returned (.int .i64 (-1)) ∧ u = w') := Lib.hid fun u h5 => by
        have h := degree_any c cc Y u (by omega) h2 h5
        rw [h0] at h
        exact h
      clear HG h60 h0 hbx hby hX hY hla hlc h1 h2 h3 h4
      go_enter Try.func4, Try.ntmps4
      go_wp2_with (first
        | (go_at_call 11; (with_reducible refine (awake_any w).mono ?_); rintro e u1 ⟨rfl, b1⟩; have B1 := Lib.hid b1; clear b1)
        | (go_at_call 12; (with_reducible refine (HG2.out u1).mono ?_); rintro e u2 ⟨rfl, b2⟩; have B2 := Lib.hid (B1.out.next b2); clear b2)
        | (go_at_call 13; (with_reducible refine (gfNew_any u2).mono ?_); rintro e u3 ⟨rfl, f3, b3⟩; have B3 := Lib.hid (B2.out.next b3); clear f3 b3; generalize u2.heap.size = b at *)
        | (go_at_call 20; (with_reducible refine (HDM.out u3 b (HR.out.step B3.out) (HS.out.step B3.out)).mono ?_); rintro e u4 ⟨rfl, rfl⟩)
        | (go_at_call 21; (with_reducible refine (HDG.out u3 (HS.out.step B3.out)).mono ?_); rintro e u4 ⟨rfl, rfl⟩))
      go_ret
      exact ⟨rfl, B3.out⟩
    · obtain ⟨hQ8, hQc, hR8, hRc, hRl, hQl, hcf⟩ := div_spec hX hY (by omega)
      have HDM : Hid (∀ (u : World) (b : Nat), Fld u b → Lies u u.heap.size a (u8s X) → Lies u u.heap.size c (u8s Y) → Calls Try.prog 20 #[.pointer (some ⟨b, 0, none⟩), .slice a X.length ca, .slice c Y.length cc] u fun e w' =>
          (∃ v v2, e = .returned (.tuple #[v, v2, .bool true]) ∧ Reads w' v (dq X Y) ∧ Reads w' v2 (dr X Y)) ∧ Below u.heap.size u w') := Lib.hid fun u b hf h5 h6 => divmod_any b a c ca cc X Y u hf hX hY (by omega) (by omega) h1 h2 (by omega) h5 h6
      have HTX : Hid (∀ u : World, Lies u u.heap.size a (u8s X) → Calls Try.prog 22 #[.slice a X.length ca] u fun e w' => (∃ v, e = .returned v ∧ Reads w' v (beh X)) ∧ Below u.heap.size u w') := Lib.hid fun u hl => trim_any a ca X u (by omega) h1 hl
      have HOY : Hid (∀ u : World, Lies u u.heap.size c (u8s Y) → Calls Try.prog 15 #[.slice c Y.length cc] u fun e w' => (∃ v, e = .returned v ∧ IReads w' v (lo Y)) ∧ Below u.heap.size u w') := Lib.hid fun u hl => of_any c cc Y u hY (by omega) hl
      have HDG0 : ∀ u : World, Lies u u.heap.size c (u8s Y) → Calls Try.prog 21 #[.slice c Y.length cc] u fun e w' => e = .returned (.int .i64 (((beh Y).length : Int) - 1)) ∧ u = w' := fun u h5 => degree_any c cc Y u (by omega) h2 h5
      have hloY := lo_by hY
      have hloYl := lo_le Y
      have hbx8 := hX.beh
      have hsame : ∀ k, cf (beh X) k = sq (radd (rmul (lo (dq X Y)) (lo Y)) (lo (dr X Y))) k := fun k => by
        have e1 : sq (lo (dq X Y)) = cf (dq X Y) := funext fun k => sq_lo _ k
        have e2 : sq (lo Y) = cf Y := funext fun k => sq_lo _ k
        rw [cf_beh, hcf k, sq_radd, sq_rmul, e1, e2, sq_lo]
      have hsb := same_of (beh_can X) hsame
      obtain ⟨Q, hQ⟩ : ∃ Q, dq X Y = Q := ⟨_, rfl⟩
      obtain ⟨R, hRe⟩ : ∃ R, dr X Y = R := ⟨_, rfl⟩
      rw [hQ] at hQ8 hQc hQl HDM hsb
      rw [hRe] at hR8 hRc hRl HDM hsb
      have HTQ : Hid (∀ (u : World) (a4 : Option Addr) (c4 : Nat), Q.length ≤ c4 → Lies u u.heap.size a4 (u8s Q) → Calls Try.prog 22 #[.slice a4 Q.length c4] u fun e w' => (∃ v, e = .returned v ∧ Reads w' v Q) ∧ Below u.heap.size u w') := Lib.hid fun u a4 c4 h5 h6 => by
        have h := trim_any a4 c4 Q u (by omega) h5 h6
        rwa [hQc.beh] at h
      have HTR : Hid (∀ (u : World) (a4 : Option Addr) (c4 : Nat), R.length ≤ c4 → Lies u u.heap.size a4 (u8s R) → Calls Try.prog 22 #[.slice a4 R.length c4] u fun e w' => (∃ v, e = .returned v ∧ Reads w' v R) ∧ Below u.heap.size u w') := Lib.hid fun u a4 c4 h5 h6 => by
        have h := trim_any a4 c4 R u (by omega) h5 h6
        rwa [hRc.beh] at h
      have HDR0 : ∀ (u : World) (a4 : Option Addr) (c4 : Nat), R.length ≤ c4 → Lies u u.heap.size a4 (u8s R) → Calls Try.prog 21 #[.slice a4 R.length c4] u fun e w' => e = .returned (.int .i64 ((R.length : Int) - 1)) ∧ u = w' := fun u a4 c4 h5 h6 => by
        have h := degree_any a4 c4 R u (by omega) h5 h6
        rwa [hRc.beh] at h
      have HOQ : Hid (∀ (u : World) (a4 : Option Addr) (c4 : Nat), Lies u u.heap.size a4 (u8s Q) → Calls Try.prog 15 #[.slice a4 Q.length c4] u fun e w' => (∃ v, e = .returned v ∧ IReads w' v (lo Q)) ∧ Below u.heap.size u w') := Lib.hid fun u a4 c4 hl => of_any a4 c4 Q u hQ8 (by omega) hl
      have HOR : Hid (∀ (u : World) (a4 : Option Addr) (c4 : Nat), Lies u u.heap.size a4 (u8s R) → Calls Try.prog 15 #[.slice a4 R.length c4] u fun e w' => (∃ v, e = .returned v ∧ IReads w' v (lo R)) ∧ Below u.heap.size u w') := Lib.hid fun u a4 c4 hl => of_any a4 c4 R u hR8 (by omega) hl
      have hloQ := lo_by hQ8
      have hloR := lo_by hR8
      have hloQl := lo_le Q
      have hloRl := lo_le R
      have HRM : Hid (∀ (u : World) (a4 : Option Addr) (c4 : Nat) (a5 : Option Addr) (c5 : Nat), Lies u u.heap.size a4 (nats (lo Q)) → Lies u u.heap.size a5 (nats (lo Y)) → Calls Try.prog 16 #[.slice a4 (lo Q).length c4, .slice a5 (lo Y).length c5] u fun e w' => (∃ v, e = .returned v ∧ IReads w' v (rmul (lo Q) (lo Y))) ∧ Below u.heap.size u w') := Lib.hid fun u a4 c4 a5 c5 h5 h6 => rmulp_any a4 a5 c4 c5 _ _ u hloQ hloY (by omega) (by omega) h5 h6
      have hml := rmul_le (lo Q) (lo Y)
      have hm8 := rmul_by hloQ hloY
      have HRA : Hid (∀ (u : World) (a4 : Option Addr) (c4 : Nat) (a5 : Option Addr) (c5 : Nat), Lies u u.heap.size a4 (nats (rmul (lo Q) (lo Y))) → Lies u u.heap.size a5 (nats (lo R)) → Calls Try.prog 14 #[.slice a4 (rmul (lo Q) (lo Y)).length c4, .slice a5 (lo R).length c5] u fun e w' => (∃ v, e = .returned v ∧ IReads w' v (radd (rmul (lo Q) (lo Y)) (lo R))) ∧ Below u.heap.size u w') := Lib.hid fun u a4 c4 a5 c5 h5 h6 => radd_any a4 a5 c4 c5 _ _ u hm8 hloR (by omega) (by omega) h5 h6
      have hal := radd_le (rmul (lo Q) (lo Y)) (lo R)
      have ha8 := radd_by hm8 hloR
      have HSA : Hid (∀ (u : World) (a4 : Option Addr) (c4 : Nat) (a5 : Option Addr) (c5 : Nat), (radd (rmul (lo Q) (lo Y)) (lo R)).length ≤ c5 → Lies u u.heap.size a4 (u8s (beh X)) → Lies u u.heap.size a5 (nats (radd (rmul (lo Q) (lo Y)) (lo R))) → Calls Try.prog 17 #[.slice a4 (beh X).length c4, .slice a5 (radd (rmul (lo Q) (lo Y)) (lo R)).length c5] u fun e w' => e = .returned (.bool true) ∧ Below u.heap.size u w') := Lib.hid fun u a4 c4 a5 c5 h5 h6 h7 => same_true a4 a5 c4 c5 _ _ u hbx8 ha8 (by omega) h5 hsb h6 h7
      obtain ⟨BX, hBX⟩ : ∃ BX, beh X = BX := ⟨_, rfl⟩
      obtain ⟨LQ, hLQ⟩ : ∃ LQ, lo Q = LQ := ⟨_, rfl⟩
      obtain ⟨LY, hLY⟩ : ∃ LY, lo Y = LY := ⟨_, rfl⟩
      obtain ⟨LR, hLR⟩ : ∃ LR, lo R = LR := ⟨_, rfl⟩
      rw [hLQ, hLY] at HRM
      rw [hLQ, hLY, hLR] at HRA HSA
      rw [hBX] at HSA HTX
      rw [hLQ] at HOQ
      rw [hLY] at HOY
      rw [hLR] at HOR
      obtain ⟨RM, hRM⟩ : ∃ RM, rmul LQ LY = RM := ⟨_, rfl⟩
      rw [hRM] at HRM HRA HSA
      obtain ⟨RA, hRA⟩ : ∃ RA, radd RM LR = RA := ⟨_, rfl⟩
      rw [hRA] at HRA HSA
      obtain ⟨dy, hdy⟩ : ∃ dy : Int, ((beh Y).length : Int) - 1 = dy := ⟨_, rfl⟩
      obtain ⟨dR, hdR⟩ : ∃ dR : Int, (R.length : Int) - 1 = dR := ⟨_, rfl⟩
      rw [hdy] at HDG0
      rw [hdR] at HDR0
      have hdd : dR < dy := by omega
      have hd0 : 0 ≤ dy := by omega
      have hd1 : ¬ dy < 0 := by omega
      have HDG := Lib.hid HDG0
      have HDR := Lib.hid HDR0
      clear HG h60 h0 hbx hby hX hY hla hlc h1 h2 h3 h4 HDG0 HDR0 hdy hdR hRA hRM hLR hLY hLQ hBX hal ha8 hml hm8 hloQ hloR hloQl hloRl hQ hRe hsb hsame hloY hloYl hbx8 hcf hQl hRl hRc hR8 hQc hQ8
      go_enter Try.func4, Try.ntmps4
      go_wp2_with (first
        | (go_at_call 11; (with_reducible refine (awake_any w).mono ?_); rintro e u1 ⟨rfl, b1⟩; have B1 := Lib.hid b1; clear b1)
        | (go_at_call 12; (with_reducible refine (HG2.out u1).mono ?_); rintro e u2 ⟨rfl, b2⟩; have B2 := Lib.hid (B1.out.next b2); clear b2)
        | (go_at_call 13; (with_reducible refine (gfNew_any u2).mono ?_); rintro e u3 ⟨rfl, f3, b3⟩; have F3 := Lib.hid f3; have B3 := Lib.hid (B2.out.next b3); clear f3 b3; generalize u2.heap.size = b at *)
        | (go_at_call 20; (with_reducible refine (HDM.out u3 b F3.out (HR.out.step B3.out) (HS.out.step B3.out)).mono ?_); rintro e u4 ⟨⟨v4, v4', rfl, ⟨aq, cq, rfl, hcq, lq⟩, ⟨ar, cr, rfl, hcr, lr⟩⟩, b4⟩; have LQ4 := Lib.hid lq; have LR4 := Lib.hid lr; have HCQ := Lib.hid hcq; have HCR := Lib.hid hcr; have B4 := Lib.hid (B3.out.next b4); clear b4 lq lr hcq hcr)
        | (go_at_call 21; (with_reducible refine (HDG.out u4 (HS.out.step B4.out)).mono ?_); rintro e u4' ⟨rfl, rfl⟩)
        | (go_at_call 15; (with_reducible refine (HOQ.out u4 aq cq LQ4.out).mono ?_); rintro e u5 ⟨⟨v5, rfl, a5, c5, rfl, _, l5⟩, b5⟩; have L5 := Lib.hid l5; have B5 := Lib.hid b5; clear b5 l5)
        | (go_at_call 15; (with_reducible refine (HOY.out u5 (HS.out.step (B4.out.next B5.out))).mono ?_); rintro e u6 ⟨⟨v6, rfl, a6, c6, rfl, _, l6⟩, b6⟩; have L6 := Lib.hid l6; have L56 := Lib.hid (L5.out.step b6); have B6 := Lib.hid (B5.out.next b6); clear b6 l6)
        | (go_at_call 16; (with_reducible refine (HRM.out u6 a5 c5 a6 c6 L56.out L6.out).mono ?_); rintro e u7 ⟨⟨v7, rfl, a7, c7, rfl, _, l7⟩, b7⟩; have L7 := Lib.hid l7; have B7 := Lib.hid (B6.out.next b7); clear b7 l7)
        | (go_at_call 15; (with_reducible refine (HOR.out u7 ar cr (LR4.out.step B7.out)).mono ?_); rintro e u8 ⟨⟨v8, rfl, a8, c8, rfl, _, l8⟩, b8⟩; have L8 := Lib.hid l8; have L78 := Lib.hid (L7.out.step b8); have B8 := Lib.hid (B7.out.next b8); clear b8 l8)
        | (go_at_call 14; (with_reducible refine (HRA.out u8 a7 c7 a8 c8 L78.out L8.out).mono ?_); rintro e u9 ⟨⟨v9, rfl, a9, c9, rfl, hc9, l9⟩, b9⟩; have L9 := Lib.hid l9; have HC9 := Lib.hid hc9; have B9 := Lib.hid (B8.out.next b9); clear b9 l9 hc9)
        | (go_at_call 21; (with_reducible refine (HDR.out u9 ar cr HCR.out (LR4.out.step B9.out)).mono ?_); rintro e u9' ⟨rfl, rfl⟩)
        | (go_at_call 21; (with_reducible refine (HDG.out u9 (HS.out.step (B4.out.next B9.out))).mono ?_); rintro e u9' ⟨rfl, rfl⟩)
        | (go_at_call 22; (with_reducible refine (HTQ.out u9 aq cq HCQ.out (LQ4.out.step B9.out)).mono ?_); rintro e u10 ⟨⟨v10, rfl, a10, c10, rfl, _, _⟩, b10⟩; have S10 := Lib.hid b10; have B10 := Lib.hid (B9.out.next b10); clear b10)
        | (go_at_call 22; (with_reducible refine (HTR.out u10 ar cr HCR.out (LR4.out.step B10.out)).mono ?_); rintro e u11 ⟨⟨v11, rfl, a11, c11, rfl, _, _⟩, b11⟩; have S11 := Lib.hid (S10.out.next b11); have B11 := Lib.hid (B10.out.next b11); clear b11)
        | (go_at_call 22; (with_reducible refine (HTX.out u11 (HR.out.step (B4.out.next B11.out))).mono ?_); rintro e u12 ⟨⟨v12, rfl, a12, c12, rfl, _, l12⟩, b12⟩; have L12 := Lib.hid l12; have S12 := Lib.hid (S11.out.next b12); have B12 := Lib.hid (B11.out.next b12); clear b12 l12)
        | (go_at_call 17; (with_reducible refine (HSA.out u12 a12 c12 a9 c9 HC9.out L12.out (L9.out.step S12.out)).mono ?_); rintro e u13 ⟨rfl, b13⟩; have B13 := Lib.hid (B12.out.next b13); clear b13))
      go_ret
      exact ⟨rfl, B4.out.next B13.out⟩

end Go.Proofs.Ytligaipkdabmoaa
