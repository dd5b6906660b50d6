/- TagSeals: its walk. (gen_tag_h.py) -/
import Derived.Test.YtmffkfgcopaoeaaTagG
namespace Go.Proofs.Ytmffkfgcopaoeaa
open Go.RowKit CrcMath
set_option linter.unusedVariables false
set_option maxRecDepth 100000

set_option maxHeartbeats 4000000 in
theorem tagSeals_walk (H : List UInt8) (s : ByteArray) (w : World) (hH : H.length = 60) (hs : s.size ≤ 140737488351232) :
    Calls Try.prog 3 #[.agg (bytes H).toArray, .string s] w fun e w' => e = .returned (.bool true) ∧ Below w.heap.size w w' := by
  have HAW : Hid (∀ wx, Calls Try.prog 6 #[] wx fun e w' => e = .returned (.bool true) ∧ Below wx.heap.size wx w') := Lib.hid tag_awake
  by_cases hbig : 1000 < s.size
  · have hb2 : 1000 < (s.size : Int) := by omega
    obtain ⟨L, hL⟩ : ∃ L, L = bytes H := ⟨_, rfl⟩
    rw [← hL]
    clear hbig hs hL hH
    go_enter Try.func3, Try.ntmps3
    go_wp2_with (first
      | ((with_reducible refine wpBoxK (w := w) L 23 ?_ ?_); rfl; intro u1 r1 b1 s1; have B1 := Lib.hid b1; clear r1 b1 s1)
      | (go_at_call 6; (with_reducible refine (HAW.out u1).mono ?_); rintro e u2 ⟨rfl, b2⟩; have B2 : Hid (Below w.heap.size w u2) := Lib.hid (B1.out.next b2); clear b2))
    go_ret
    exact ⟨rfl, B2.out⟩
  have hb2 : (s.size : Int) ≤ 1000 := by omega
  clear hbig
  obtain ⟨O, hO⟩ : ∃ O : List UInt8, O = List.replicate 60 0 := ⟨_, rfl⟩
  obtain ⟨S, hS⟩ : ∃ S, S = str (sealB H) := ⟨_, rfl⟩
  obtain ⟨BL, hBL⟩ : ∃ BL, BL = blankS := ⟨_, rfl⟩
  obtain ⟨r, hr⟩ : ∃ r, r = rightT s.data.toList := ⟨_, rfl⟩
  obtain ⟨d, hd⟩ : ∃ d, d = decide (s = BL) := ⟨_, rfl⟩
  obtain ⟨C, hC⟩ : ∃ C, C = blk s.data.toList := ⟨_, rfl⟩
  obtain ⟨F, hF⟩ : ∃ F, F = blk blankS.data.toList := ⟨_, rfl⟩
  have hsl : (sealB H).length = 64 := by rw [sealB_length, hH]
  have hSz : S.size = 64 := by rw [hS, str_size, hsl]
  have hCl : C.length = 60 := by rw [hC, blk_length]
  have hFl : F.length = 60 := by rw [hF, blk_length]
  have HBQ : Hid ((S.toList == S.toList) = true) := Lib.hid (beq_self_eq_true _)
  have HDQ : Hid ((s.toList == BL.toList) = d) := Lib.hid (by
    rw [hd]
    by_cases h : s = BL
    · rw [decide_eq_true h]; exact beq_yes h
    · rw [decide_eq_false h]; exact beq_no h)
  have HRQ : Hid ((r == r) = true) := Lib.hid (by cases r <;> rfl)
  have HDD : Hid ((d == d) = true) := Lib.hid (by cases d <;> rfl)
  have HRS : Hid (∀ wx, Calls Try.prog 11 #[.agg (bytes H).toArray] wx fun e w' => e = .returned (.string S) ∧ Below wx.heap.size wx w') := Lib.hid fun wx => by rw [hS]; exact refTSeal_any H wx hH
  have HRB : Hid (∀ wx, Calls Try.prog 12 #[.string s] wx fun e w' => e = .returned (.agg (bytes C).toArray) ∧ Below wx.heap.size wx w') := Lib.hid fun wx => by rw [hC]; exact refBlock_any s wx (by omega)
  have HRR : Hid (∀ wx, Calls Try.prog 13 #[.string s] wx fun e w' => e = .returned (.bool r) ∧ Below wx.heap.size wx w') := Lib.hid fun wx => by rw [hr]; exact refRight_any s wx hs
  have HBK : Hid (∀ wx, Calls Try.prog 14 #[.string s] wx fun e w' => e = .returned (.bool d) ∧ Below wx.heap.size wx w') := Lib.hid fun wx => by rw [hd, hBL]; exact tag_blank_any s wx
  have HBB : Hid (∀ wx, Calls Try.prog 14 #[.string BL] wx fun e w' => e = .returned (.bool true) ∧ Below wx.heap.size wx w') := Lib.hid fun wx => by
    have := tag_blank_any BL wx
    rw [hBL, decide_eq_true rfl] at this
    rw [hBL]
    exact this
  have HSN : Hid (∀ wx, Calls Try.prog 8 #[.pointer none, .agg (bytes H).toArray] wx fun e w' => e = .returned (.string { data := #[] }) ∧ Below wx.heap.size wx w') := Lib.hid fun wx => tag_seal_none H wx hH
  have HSEAL : Hid (∀ wx v, Smr v wx → Calls Try.prog 8 #[v, .agg (bytes H).toArray] wx fun e w' => e = .returned (.string S) ∧ Below wx.heap.size wx w') := Lib.hid fun wx v h => by rw [hS]; exact seal_val v H wx h hH
  have HOS : Hid (∀ wx v, Smr v wx → Calls Try.prog 9 #[v, .string S] wx fun e w' => e = .returned (.tuple #[.agg (bytes H).toArray, .bool true]) ∧ Below wx.heap.size wx w') := Lib.hid fun wx v h => by
    have := open_val v S wx h (by rw [hSz]; omega)
    rw [hS, str_list, right_seal H hH, blk_seal H hH] at this
    rw [hS]
    exact this
  have HOT : Hid (∀ wx v, Smr v wx → Calls Try.prog 9 #[v, .string s] wx fun e w' => e = .returned (.tuple #[.agg (bytes C).toArray, .bool r]) ∧ Below wx.heap.size wx w') := Lib.hid fun wx v h => by
    rw [hC, hr]
    exact open_val v s wx h (by omega)
  have HOB : Hid (∀ wx v, Smr v wx → Calls Try.prog 9 #[v, .string BL] wx fun e w' => e = .returned (.tuple #[.agg (bytes F).toArray, .bool false]) ∧ Below wx.heap.size wx w') := Lib.hid fun wx v h => by
    have e1 : blankS.size = 64 := by rw [blankS, str_size, List.length_replicate]
    have := open_val v BL wx h (by rw [hBL, e1]; omega)
    have e : rightT blankS.data.toList = false := by rw [blankS, str_list]; exact right_blank
    rw [hBL, e] at this
    rw [hBL, hF]
    exact this
  have HON : Hid (∀ wx, Calls Try.prog 9 #[.pointer none, .string s] wx fun e w' => e = .returned (.tuple #[.agg (bytes C).toArray, .bool false]) ∧ Below wx.heap.size wx w') := Lib.hid fun wx => by
    rw [hC]
    exact tag_open_none s wx (by omega)
  have HREP : Hid (∀ wx, Calls Try.prog 10 #[.string { data := #[255] }, .int .i64 64] wx fun e w' => e = .returned (.string BL) ∧ Below wx.heap.size wx w') := Lib.hid fun wx => by rw [hBL]; exact tag_rep 255 64 wx (by omega)
  have HNEW : Hid (∀ wx, Calls Try.prog 7 #[] wx fun e w' => ∃ v, e = .returned v ∧ Smr v w' ∧ Below wx.heap.size wx w') := Lib.hid smr_new
  have HZ0 : Hid (∀ u, (zeroValue 23).run Try.prog u = .ok (.agg (bytes O).toArray) u) := Lib.hid (by rw [hO]; exact tag_zero)
  have LO : Hid ((bytes O).length = 60) := Lib.hid (by rw [hO, bytes_length, List.length_replicate])
  have LH : Hid ((bytes H).length = 60) := Lib.hid (by rw [bytes_length, hH])
  have LH1 : Hid ((bytes H).all (·.oneCell') = true) := Lib.hid (bytes_oneC _)
  have LC : Hid ((bytes C).length = 60) := Lib.hid (by rw [bytes_length, hCl])
  have LC1 : Hid ((bytes C).all (·.oneCell') = true) := Lib.hid (bytes_oneC _)
  have LF : Hid ((bytes F).length = 60) := Lib.hid (by rw [bytes_length, hFl])
  have LF1 : Hid ((bytes F).all (·.oneCell') = true) := Lib.hid (bytes_oneC _)
  have HEH : Hid (∀ u : World, (Op.equalIn 10000 23 (.agg (bytes H).toArray) (.agg (bytes H).toArray)).run Try.prog u = .ok true u) := Lib.hid (same_block H hH)
  have HEC : Hid (∀ u : World, (Op.equalIn 10000 23 (.agg (bytes C).toArray) (.agg (bytes C).toArray)).run Try.prog u = .ok true u) := Lib.hid (same_block C hCl)
  clear hO hS hBL hr hd hC hF hsl hSz hCl hFl hH hs
  generalize bytes H = L at *
  generalize bytes C = CC at *
  generalize bytes F = FF at *
  generalize bytes O = OO at *
  go_enter Try.func3, Try.ntmps3
  go_wp2_with (first
    | ((with_reducible refine wpBoxK (w := w) L 23 ?_ ?_); rfl; intro u1 r1 b1 s1; have R1 := Lib.hid r1; have B1 := Lib.hid b1; clear r1 b1 s1)
    | (go_at_call 6; (with_reducible refine (HAW.out u1).mono ?_); rintro e u2 ⟨rfl, b2⟩; have R2 := Lib.hid (R1.out.step b2); have B2 : Hid (Below w.heap.size w u2) := Lib.hid (B1.out.next b2); clear b2)
    | (go_at_call 7; (with_reducible refine (HNEW.out u2).mono ?_); rintro e u3 ⟨v, rfl, hv, b3⟩; have R3 := Lib.hid (R2.out.step b3); have B3 : Hid (Below w.heap.size w u3) := Lib.hid (B2.out.next b3); have S3 := Lib.hid hv; clear b3 hv)
    | ((with_reducible refine R3.out.wpLoadK 23 fits_block LH.out ?_ ?_); rfl)
    | (go_at_call 8; (with_reducible refine (HSEAL.out u3 _ S3.out).mono ?_); rintro e u4 ⟨rfl, b4⟩; have R4 := Lib.hid (R3.out.step b4); have B4 : Hid (Below w.heap.size w u4) := Lib.hid (B3.out.next b4); have S4 := Lib.hid (Smr.monot _ _ _ S3.out b4); clear b4)
    | (go_at_call 9; first
      | ((with_reducible refine (HOS.out u4 _ S4.out).mono ?_); rintro e u5 ⟨rfl, b5⟩; have R5 := Lib.hid (R4.out.step b5); have B5 : Hid (Below w.heap.size w u5) := Lib.hid (B4.out.next b5); have S5 := Lib.hid (Smr.monot _ _ _ S4.out b5); clear b5)
      | ((with_reducible refine (HOT.out u7 _ S7.out).mono ?_); rintro e u8 ⟨rfl, b8⟩; have B8 : Hid (Below w.heap.size w u8) := Lib.hid (B7.out.next b8); have R8 := Lib.hid (R7.out.step b8); have X8 := Lib.hid (X7.out.step b8); have S8 := Lib.hid (Smr.monot _ _ _ S7.out b8); clear b8)
      | ((with_reducible refine (HOB.out u11 _ S11.out).mono ?_); rintro e u12 ⟨rfl, b12⟩; have B12 : Hid (Below w.heap.size w u12) := Lib.hid (B11.out.next b12); have R12 := Lib.hid (R11.out.step b12); have X12 := Lib.hid (X11.out.step b12); have S12 := Lib.hid (Smr.monot _ _ _ S11.out b12); have Y12 := Lib.hid (Y11.out.step b12); clear b12)
      | ((with_reducible refine (HON.out u14).mono ?_); rintro e u15 ⟨rfl, b15⟩; have B15 : Hid (Below w.heap.size w u15) := Lib.hid (B14.out.next b15); have R15 := Lib.hid (R14.out.step b15); have X15 := Lib.hid (X14.out.step b15); have S15 := Lib.hid (Smr.monot _ _ _ S14.out b15); have Y15 := Lib.hid (Y14.out.step b15); clear b15))
    | ((with_reducible refine wpAllocK (w := u5) OO 23 HZ0.out ?_ ?_); rfl; intro u6 r6 b6 s6; obtain ⟨g1, hg1⟩ : ∃ g, g = u5.heap.size := ⟨_, rfl⟩; rw [← hg1] at r6 ⊢; have P6 := Lib.hid r6; have G1 : Hid (w.heap.size ≤ g1 ∧ w.heap.size < g1 ∧ g1 = u5.heap.size) := Lib.hid (by rw [hg1]; exact ⟨B5.out.size, R5.out.lt, rfl⟩); have R6 := Lib.hid (R5.out.step b6); have B6 : Hid (Below w.heap.size w u6) := Lib.hid (B5.out.next b6); have S6 := Lib.hid (Smr.monot _ _ _ S5.out b6); have V6 := Lib.hid b6; clear r6 b6 s6 hg1)
    | ((with_reducible refine P6.out.wpStoreK 23 L fits_block LO.out LH.out LH1.out ?_ ?_); rfl; intro u7 r7 o7 s7; have W7 : Hid (Below u5.heap.size u5 u7) := Lib.hid (V6.out.trans (o7.below (by rw [G1.out.2.2]; exact Nat.le_refl _) V6.out.size)); have X7 := Lib.hid r7; have B7 : Hid (Below w.heap.size w u7) := Lib.hid (B5.out.next W7.out); have R7 := Lib.hid (R5.out.step W7.out); have S7 := Lib.hid (Smr.monot _ _ _ S5.out W7.out); clear r7 o7 s7)
    | ((with_reducible refine wpAllocK (w := u8) OO 23 HZ0.out ?_ ?_); rfl; intro u9 r9 b9 s9; obtain ⟨g2, hg2⟩ : ∃ g, g = u8.heap.size := ⟨_, rfl⟩; rw [← hg2] at r9 ⊢; have P9 := Lib.hid r9; have G2 := Lib.hid hg2; have V9 := Lib.hid b9; clear r9 b9 s9 hg2)
    | ((with_reducible refine P9.out.wpStoreK 23 CC fits_block LO.out LC.out LC1.out ?_ ?_); rfl; intro u10 r10 o10 s10; have b10 : Below u8.heap.size u8 u10 := V9.out.trans (o10.below (by rw [G2.out]; exact Nat.le_refl _) V9.out.size); have B10 : Hid (Below w.heap.size w u10) := Lib.hid (B8.out.next b10); have R10 := Lib.hid (R8.out.step b10); have X10 := Lib.hid (X8.out.step b10); have S10 := Lib.hid (Smr.monot _ _ _ S8.out b10); clear b10; have Y10 := Lib.hid r10; clear r10 o10 s10)
    | (go_at_call 10; (with_reducible refine (HREP.out u10).mono ?_); rintro e u11 ⟨rfl, b11⟩; have Y11 := Lib.hid (Y10.out.step b11); have B11 : Hid (Below w.heap.size w u11) := Lib.hid (B10.out.next b11); have R11 := Lib.hid (R10.out.step b11); have X11 := Lib.hid (X10.out.step b11); have S11 := Lib.hid (Smr.monot _ _ _ S10.out b11); clear b11)
    | ((with_reducible refine wpAllocK (w := u12) OO 23 HZ0.out ?_ ?_); rfl; intro u13 r13 b13 s13; obtain ⟨g3, hg3⟩ : ∃ g, g = u12.heap.size := ⟨_, rfl⟩; rw [← hg3] at r13 ⊢; have P13 := Lib.hid r13; have G3 := Lib.hid hg3; have V13 := Lib.hid b13; clear r13 b13 s13 hg3)
    | ((with_reducible refine P13.out.wpStoreK 23 FF fits_block LO.out LF.out LF1.out ?_ ?_); rfl; intro u14 r14 o14 s14; have b14 : Below u12.heap.size u12 u14 := V13.out.trans (o14.below (by rw [G3.out]; exact Nat.le_refl _) V13.out.size); have B14 : Hid (Below w.heap.size w u14) := Lib.hid (B12.out.next b14); have R14 := Lib.hid (R12.out.step b14); have X14 := Lib.hid (X12.out.step b14); have S14 := Lib.hid (Smr.monot _ _ _ S12.out b14); have Y14 := Lib.hid (Y12.out.step b14); clear b14; clear r14 o14 s14)
    | ((with_reducible refine wpAllocK (w := u15) OO 23 HZ0.out ?_ ?_); rfl; intro u16 r16 b16 s16; obtain ⟨g4, hg4⟩ : ∃ g, g = u15.heap.size := ⟨_, rfl⟩; rw [← hg4] at r16 ⊢; have P16 := Lib.hid r16; have G4 := Lib.hid hg4; have V16 := Lib.hid b16; clear r16 b16 s16 hg4)
    | ((with_reducible refine P16.out.wpStoreK 23 CC fits_block LO.out LC.out LC1.out ?_ ?_); rfl; intro u17 r17 o17 s17; have b17 : Below u15.heap.size u15 u17 := V16.out.trans (o17.below (by rw [G4.out]; exact Nat.le_refl _) V16.out.size); have B17 : Hid (Below w.heap.size w u17) := Lib.hid (B15.out.next b17); have R17 := Lib.hid (R15.out.step b17); have X17 := Lib.hid (X15.out.step b17); have S17 := Lib.hid (Smr.monot _ _ _ S15.out b17); have Y17 := Lib.hid (Y15.out.step b17); clear b17; have Z17 := Lib.hid r17; clear r17 o17 s17))
  refine region_invX [(0, 49), (1, 50), (2, 51), (3, 52), (4, 53), (5, 54), (6, 55), (7, 56), (8, 57), (9, 58), (10, 59), (11, 60), (12, 61), (13, 62), (14, 63), (15, 64), (16, 65), (17, 66), (18, 67), (19, 68), (20, 69), (21, 70), (22, 71), (23, 72), (24, 73), (25, 74), (26, 75), (27, 76), (28, 77), (29, 78), (30, 79), (31, 80), (32, 81), (33, 82), (34, 83), (35, 84), (36, 85), (37, 86), (38, 87), (39, 88), (40, 89), (41, 90), (42, 91), (43, 92), (44, 93), (45, 94), (46, 95), (47, 96), (48, 97), (49, 98), (50, 99), (51, 100), (52, 101), (53, 102), (54, 4)]
    (fun ii => [Is (.string S), Is (.agg (L).toArray), Is (.string S), Is (.bool true), Is (.bool true), Is (.agg (L).toArray), Is (.agg (L).toArray), Is (.bool true), Is (.bool true), Is (.bool true), Is (.bool true), Is (.bool true), Is (.bool true), Is (.agg (CC).toArray), Is (.string s), Is (.agg CC.toArray), Is (.bool true), Is (.bool true), Is (.bool true), Is (.bool r), Is (.string s), Is (.bool r), Is (.bool true), Is (.bool true), Is (.bool true), Is (.string s), Is (.bool d), Is (.string s), Is (.string BL), Is (.bool d), Is (.bool true), Is (.bool true), Is (.bool true), Is (.string BL), Is (.bool true), Is (.bool true), Is (.bool true), Is (.bool false), Is (.bool true), Is (.bool true), Is (.bool true), Is (.agg (L).toArray), Is (.string { data := #[] }), Is (.bool true), Is (.bool true), Is (.bool true), Is (.bool false), Is (.bool true), Is (.bool true), Is (.bool true), Is (.agg (CC).toArray), Is (.agg (CC).toArray), Is (.bool true), Is (.bool true), Is (.bool true)].getD ii (Is undef))
    (fun w' => Below u17.heap.size u17 w') (by kernel_rfl) (by kernel_rfl) (by decide) (by decide) (by kernel_rfl) rfl ?monoA ((Below.refl _ _).drew) ?stepA ?finA
  case monoA =>
    intro i
    match i with
    | 0 | 1 | 2 | 3 | 4 | 5 | 6 | 7 | 8 | 9 | 10 | 11 | 12 | 13 | 14 | 15 | 16 | 17 | 18 | 19 | 20 | 21 | 22 | 23 | 24 | 25 | 26 | 27 | 28 | 29 | 30 | 31 | 32 | 33 | 34 | 35 | 36 | 37 | 38 | 39 | 40 | 41 | 42 | 43 | 44 | 45 | 46 | 47 | 48 | 49 | 50 | 51 | 52 | 53 | 54 => exact Is.monot _
    | _ + 55 => exact Is.monot _
  case stepA =>
    refine List.forall_mem_cons.2 ⟨?As0, List.forall_mem_cons.2 ⟨?As1, List.forall_mem_cons.2 ⟨?As2, List.forall_mem_cons.2 ⟨?As3, List.forall_mem_cons.2 ⟨?As4, List.forall_mem_cons.2 ⟨?As5, List.forall_mem_cons.2 ⟨?As6, List.forall_mem_cons.2 ⟨?As7, List.forall_mem_cons.2 ⟨?As8, List.forall_mem_cons.2 ⟨?As9, List.forall_mem_cons.2 ⟨?As10, List.forall_mem_cons.2 ⟨?As11, List.forall_mem_cons.2 ⟨?As12, List.forall_mem_cons.2 ⟨?As13, List.forall_mem_cons.2 ⟨?As14, List.forall_mem_cons.2 ⟨?As15, List.forall_mem_cons.2 ⟨?As16, List.forall_mem_cons.2 ⟨?As17, List.forall_mem_cons.2 ⟨?As18, List.forall_mem_cons.2 ⟨?As19, List.forall_mem_cons.2 ⟨?As20, List.forall_mem_cons.2 ⟨?As21, List.forall_mem_cons.2 ⟨?As22, List.forall_mem_cons.2 ⟨?As23, List.forall_mem_cons.2 ⟨?As24, List.forall_mem_cons.2 ⟨?As25, List.forall_mem_cons.2 ⟨?As26, List.forall_mem_cons.2 ⟨?As27, List.forall_mem_cons.2 ⟨?As28, List.forall_mem_cons.2 ⟨?As29, List.forall_mem_cons.2 ⟨?As30, List.forall_mem_cons.2 ⟨?As31, List.forall_mem_cons.2 ⟨?As32, List.forall_mem_cons.2 ⟨?As33, List.forall_mem_cons.2 ⟨?As34, List.forall_mem_cons.2 ⟨?As35, List.forall_mem_cons.2 ⟨?As36, List.forall_mem_cons.2 ⟨?As37, List.forall_mem_cons.2 ⟨?As38, List.forall_mem_cons.2 ⟨?As39, List.forall_mem_cons.2 ⟨?As40, List.forall_mem_cons.2 ⟨?As41, List.forall_mem_cons.2 ⟨?As42, List.forall_mem_cons.2 ⟨?As43, List.forall_mem_cons.2 ⟨?As44, List.forall_mem_cons.2 ⟨?As45, List.forall_mem_cons.2 ⟨?As46, List.forall_mem_cons.2 ⟨?As47, List.forall_mem_cons.2 ⟨?As48, List.forall_mem_cons.2 ⟨?As49, List.forall_mem_cons.2 ⟨?As50, List.forall_mem_cons.2 ⟨?As51, List.forall_mem_cons.2 ⟨?As52, List.forall_mem_cons.2 ⟨?As53, List.forall_mem_cons.2 ⟨?As54, List.forall_mem_nil _⟩⟩⟩⟩⟩⟩⟩⟩⟩⟩⟩⟩⟩⟩⟩⟩⟩⟩⟩⟩⟩⟩⟩⟩⟩⟩⟩⟩⟩⟩⟩⟩⟩⟩⟩⟩⟩⟩⟩⟩⟩⟩⟩⟩⟩⟩⟩⟩⟩⟩⟩⟩⟩⟩⟩
    case As0 =>
      intro u wx hg hC
      clear hC
      refine wpOp_step rfl (fun K hK => ?_)
      simp only [puts, List.foldl]
      go_simp
      exact hK _ _ ⟨rfl, rfl, hg, Below.refl _ _⟩
    case As1 =>
      intro u wx hg hC
      clear hC
      generalize hA : puts [(0, 49), (1, 50), (2, 51), (3, 52), (4, 53), (5, 54), (6, 55), (7, 56), (8, 57), (9, 58), (10, 59), (11, 60), (12, 61), (13, 62), (14, 63), (15, 64), (16, 65), (17, 66), (18, 67), (19, 68), (20, 69), (21, 70), (22, 71), (23, 72), (24, 73), (25, 74), (26, 75), (27, 76), (28, 77), (29, 78), (30, 79), (31, 80), (32, 81), (33, 82), (34, 83), (35, 84), (36, 85), (37, 86), (38, 87), (39, 88), (40, 89), (41, 90), (42, 91), (43, 92), (44, 93), (45, 94), (46, 95), (47, 96), (48, 97), (49, 98), (50, 99), (51, 100), (52, 101), (53, 102), (54, 4)] _ u = A
      have hp : A.tmps.getD 2 undef = (.pointer (some ⟨w.heap.size, 0, none⟩)) := by rw [← hA]; exact (puts_get_out u _ _ 2 (by decide)).trans (by rfl)
      have hsz : 50 < A.tmps.size := by rw [← hA]; exact puts_room u (by kernel_rfl)
      refine wpOp_step rfl (fun K hK => ?_)
      clear hA
      exact opLoadK (φ := Is (.agg (L).toArray)) (R17.out.step hg) _ (fits_block) (LH.out) 50 rfl hsz hK (.tmp 2) rfl hp rfl hg
    case As2 =>
      intro u wx hg hC
      have hJ1 : u 1 = (.agg (L).toArray) := hC.at 1 (by kernel_rfl)
      clear hC
      refine wpOp_step rfl (fun K hK => ?_)
      simp only [puts, List.foldl]
      go_simp
      refine (HRS.out wx).mono ?_
      rintro e w' ⟨rfl, hb'⟩
      exact hK _ _ ⟨rfl, rfl, hg.next hb', hb'⟩
    case As3 =>
      intro u wx hg hC
      have hJ0 : u 0 = (.string S) := hC.at 0 (by kernel_rfl)
      have hJ2 : u 2 = (.string S) := hC.at 2 (by kernel_rfl)
      clear hC
      have hbq := HBQ.out
      refine wpOp_step rfl (fun K hK => ?_)
      simp only [puts, List.foldl]
      go_simp
      exact hK _ _ ⟨rfl, rfl, hg, Below.refl _ _⟩
    case As4 =>
      intro u wx hg hC
      have hJ3 : u 3 = (.bool true) := hC.at 3 (by kernel_rfl)
      clear hC
      refine wpOp_step rfl (fun K hK => ?_)
      simp only [puts, List.foldl]
      go_simp
      exact hK _ _ ⟨rfl, rfl, hg, Below.refl _ _⟩
    case As5 =>
      intro u wx hg hC
      have hJ4 : u 4 = (.bool true) := hC.at 4 (by kernel_rfl)
      clear hC
      generalize hA : puts [(0, 49), (1, 50), (2, 51), (3, 52), (4, 53), (5, 54), (6, 55), (7, 56), (8, 57), (9, 58), (10, 59), (11, 60), (12, 61), (13, 62), (14, 63), (15, 64), (16, 65), (17, 66), (18, 67), (19, 68), (20, 69), (21, 70), (22, 71), (23, 72), (24, 73), (25, 74), (26, 75), (27, 76), (28, 77), (29, 78), (30, 79), (31, 80), (32, 81), (33, 82), (34, 83), (35, 84), (36, 85), (37, 86), (38, 87), (39, 88), (40, 89), (41, 90), (42, 91), (43, 92), (44, 93), (45, 94), (46, 95), (47, 96), (48, 97), (49, 98), (50, 99), (51, 100), (52, 101), (53, 102), (54, 4)] _ u = A
      have hgv : A.tmps.getD 53 undef = .bool true := by rw [← hA]; exact (puts_get u 4 53 _ _ (by decide) (by decide) (by kernel_rfl)).trans hJ4
      have hgs : 53 < A.tmps.size := by rw [← hA]; exact puts_room u (by kernel_rfl)
      have hp : A.tmps.getD 7 undef = (.pointer (some ⟨g1, 0, none⟩)) := by rw [← hA]; exact (puts_get_out u _ _ 7 (by decide)).trans (by rfl)
      have hsz : 54 < A.tmps.size := by rw [← hA]; exact puts_room u (by kernel_rfl)
      refine wpOp_guard rfl 4 53 true rfl rfl hgs hgv (fun K hK => ?_)
      clear hA
      exact opLoadK (φ := Is (.agg (L).toArray)) (X17.out.step hg) _ (fits_block) (LH.out) 54 rfl hsz hK (.tmp 7) rfl hp rfl hg
    case As6 =>
      intro u wx hg hC
      have hJ4 : u 4 = (.bool true) := hC.at 4 (by kernel_rfl)
      clear hC
      generalize hA : puts [(0, 49), (1, 50), (2, 51), (3, 52), (4, 53), (5, 54), (6, 55), (7, 56), (8, 57), (9, 58), (10, 59), (11, 60), (12, 61), (13, 62), (14, 63), (15, 64), (16, 65), (17, 66), (18, 67), (19, 68), (20, 69), (21, 70), (22, 71), (23, 72), (24, 73), (25, 74), (26, 75), (27, 76), (28, 77), (29, 78), (30, 79), (31, 80), (32, 81), (33, 82), (34, 83), (35, 84), (36, 85), (37, 86), (38, 87), (39, 88), (40, 89), (41, 90), (42, 91), (43, 92), (44, 93), (45, 94), (46, 95), (47, 96), (48, 97), (49, 98), (50, 99), (51, 100), (52, 101), (53, 102), (54, 4)] _ u = A
      have hgv : A.tmps.getD 53 undef = .bool true := by rw [← hA]; exact (puts_get u 4 53 _ _ (by decide) (by decide) (by kernel_rfl)).trans hJ4
      have hgs : 53 < A.tmps.size := by rw [← hA]; exact puts_room u (by kernel_rfl)
      have hp : A.tmps.getD 2 undef = (.pointer (some ⟨w.heap.size, 0, none⟩)) := by rw [← hA]; exact (puts_get_out u _ _ 2 (by decide)).trans (by rfl)
      have hsz : 55 < A.tmps.size := by rw [← hA]; exact puts_room u (by kernel_rfl)
      refine wpOp_guard rfl 4 53 true rfl rfl hgs hgv (fun K hK => ?_)
      clear hA
      exact opLoadK (φ := Is (.agg (L).toArray)) (R17.out.step hg) _ (fits_block) (LH.out) 55 rfl hsz hK (.tmp 2) rfl hp rfl hg
    case As7 =>
      intro u wx hg hC
      have hJ4 : u 4 = (.bool true) := hC.at 4 (by kernel_rfl)
      have hJ5 : u 5 = (.agg (L).toArray) := hC.at 5 (by kernel_rfl)
      have hJ6 : u 6 = (.agg (L).toArray) := hC.at 6 (by kernel_rfl)
      clear hC
      have heq := HEH.out
      generalize hA : puts [(0, 49), (1, 50), (2, 51), (3, 52), (4, 53), (5, 54), (6, 55), (7, 56), (8, 57), (9, 58), (10, 59), (11, 60), (12, 61), (13, 62), (14, 63), (15, 64), (16, 65), (17, 66), (18, 67), (19, 68), (20, 69), (21, 70), (22, 71), (23, 72), (24, 73), (25, 74), (26, 75), (27, 76), (28, 77), (29, 78), (30, 79), (31, 80), (32, 81), (33, 82), (34, 83), (35, 84), (36, 85), (37, 86), (38, 87), (39, 88), (40, 89), (41, 90), (42, 91), (43, 92), (44, 93), (45, 94), (46, 95), (47, 96), (48, 97), (49, 98), (50, 99), (51, 100), (52, 101), (53, 102), (54, 4)] _ u = A
      have hgv : A.tmps.getD 53 undef = .bool true := by rw [← hA]; exact (puts_get u 4 53 _ _ (by decide) (by decide) (by kernel_rfl)).trans hJ4
      have hgs : 53 < A.tmps.size := by rw [← hA]; exact puts_room u (by kernel_rfl)
      refine wpOp_guard rfl 4 53 true rfl rfl hgs hgv (fun K hK => ?_)
      subst hA
      simp only [puts, List.foldl]
      go_simp
      exact hK _ _ ⟨rfl, rfl, hg, Below.refl _ _⟩
    case As8 =>
      intro u wx hg hC
      have hJ4 : u 4 = (.bool true) := hC.at 4 (by kernel_rfl)
      have hJ7 : u 7 = (.bool true) := hC.at 7 (by kernel_rfl)
      clear hC
      refine wpOp_step rfl (fun K hK => ?_)
      simp only [puts, List.foldl]
      go_simp
      exact hK _ _ ⟨rfl, rfl, hg, Below.refl _ _⟩
    case As9 =>
      intro u wx hg hC
      have hJ8 : u 8 = (.bool true) := hC.at 8 (by kernel_rfl)
      clear hC
      refine wpOp_step rfl (fun K hK => ?_)
      simp only [puts, List.foldl]
      go_simp
      exact hK _ _ ⟨rfl, rfl, hg, Below.refl _ _⟩
    case As10 =>
      intro u wx hg hC
      have hJ9 : u 9 = (.bool true) := hC.at 9 (by kernel_rfl)
      clear hC
      generalize hA : puts [(0, 49), (1, 50), (2, 51), (3, 52), (4, 53), (5, 54), (6, 55), (7, 56), (8, 57), (9, 58), (10, 59), (11, 60), (12, 61), (13, 62), (14, 63), (15, 64), (16, 65), (17, 66), (18, 67), (19, 68), (20, 69), (21, 70), (22, 71), (23, 72), (24, 73), (25, 74), (26, 75), (27, 76), (28, 77), (29, 78), (30, 79), (31, 80), (32, 81), (33, 82), (34, 83), (35, 84), (36, 85), (37, 86), (38, 87), (39, 88), (40, 89), (41, 90), (42, 91), (43, 92), (44, 93), (45, 94), (46, 95), (47, 96), (48, 97), (49, 98), (50, 99), (51, 100), (52, 101), (53, 102), (54, 4)] _ u = A
      have hgv : A.tmps.getD 58 undef = .bool true := by rw [← hA]; exact (puts_get u 9 58 _ _ (by decide) (by decide) (by kernel_rfl)).trans hJ9
      have hgs : 58 < A.tmps.size := by rw [← hA]; exact puts_room u (by kernel_rfl)
      refine wpOp_guard rfl 9 58 true rfl rfl hgs hgv (fun K hK => ?_)
      subst hA
      simp only [puts, List.foldl]
      go_simp
      exact hK _ _ ⟨rfl, rfl, hg, Below.refl _ _⟩
    case As11 =>
      intro u wx hg hC
      have hJ9 : u 9 = (.bool true) := hC.at 9 (by kernel_rfl)
      have hJ10 : u 10 = (.bool true) := hC.at 10 (by kernel_rfl)
      clear hC
      refine wpOp_step rfl (fun K hK => ?_)
      simp only [puts, List.foldl]
      go_simp
      exact hK _ _ ⟨rfl, rfl, hg, Below.refl _ _⟩
    case As12 =>
      intro u wx hg hC
      have hJ11 : u 11 = (.bool true) := hC.at 11 (by kernel_rfl)
      clear hC
      refine wpOp_step rfl (fun K hK => ?_)
      simp only [puts, List.foldl]
      go_simp
      exact hK _ _ ⟨rfl, rfl, hg, Below.refl _ _⟩
    case As13 =>
      intro u wx hg hC
      have hJ12 : u 12 = (.bool true) := hC.at 12 (by kernel_rfl)
      clear hC
      generalize hA : puts [(0, 49), (1, 50), (2, 51), (3, 52), (4, 53), (5, 54), (6, 55), (7, 56), (8, 57), (9, 58), (10, 59), (11, 60), (12, 61), (13, 62), (14, 63), (15, 64), (16, 65), (17, 66), (18, 67), (19, 68), (20, 69), (21, 70), (22, 71), (23, 72), (24, 73), (25, 74), (26, 75), (27, 76), (28, 77), (29, 78), (30, 79), (31, 80), (32, 81), (33, 82), (34, 83), (35, 84), (36, 85), (37, 86), (38, 87), (39, 88), (40, 89), (41, 90), (42, 91), (43, 92), (44, 93), (45, 94), (46, 95), (47, 96), (48, 97), (49, 98), (50, 99), (51, 100), (52, 101), (53, 102), (54, 4)] _ u = A
      have hgv : A.tmps.getD 61 undef = .bool true := by rw [← hA]; exact (puts_get u 12 61 _ _ (by decide) (by decide) (by kernel_rfl)).trans hJ12
      have hgs : 61 < A.tmps.size := by rw [← hA]; exact puts_room u (by kernel_rfl)
      have hp : A.tmps.getD 9 undef = (.pointer (some ⟨g2, 0, none⟩)) := by rw [← hA]; exact (puts_get_out u _ _ 9 (by decide)).trans (by rfl)
      have hsz : 62 < A.tmps.size := by rw [← hA]; exact puts_room u (by kernel_rfl)
      refine wpOp_guard rfl 12 61 true rfl rfl hgs hgv (fun K hK => ?_)
      clear hA
      exact opLoadK (φ := Is (.agg (CC).toArray)) (Y17.out.step hg) _ (fits_block) (LC.out) 62 rfl hsz hK (.tmp 9) rfl hp rfl hg
    case As14 =>
      intro u wx hg hC
      have hJ12 : u 12 = (.bool true) := hC.at 12 (by kernel_rfl)
      clear hC
      generalize hA : puts [(0, 49), (1, 50), (2, 51), (3, 52), (4, 53), (5, 54), (6, 55), (7, 56), (8, 57), (9, 58), (10, 59), (11, 60), (12, 61), (13, 62), (14, 63), (15, 64), (16, 65), (17, 66), (18, 67), (19, 68), (20, 69), (21, 70), (22, 71), (23, 72), (24, 73), (25, 74), (26, 75), (27, 76), (28, 77), (29, 78), (30, 79), (31, 80), (32, 81), (33, 82), (34, 83), (35, 84), (36, 85), (37, 86), (38, 87), (39, 88), (40, 89), (41, 90), (42, 91), (43, 92), (44, 93), (45, 94), (46, 95), (47, 96), (48, 97), (49, 98), (50, 99), (51, 100), (52, 101), (53, 102), (54, 4)] _ u = A
      have hgv : A.tmps.getD 61 undef = .bool true := by rw [← hA]; exact (puts_get u 12 61 _ _ (by decide) (by decide) (by kernel_rfl)).trans hJ12
      have hgs : 61 < A.tmps.size := by rw [← hA]; exact puts_room u (by kernel_rfl)
      refine wpOp_guard rfl 12 61 true rfl rfl hgs hgv (fun K hK => ?_)
      subst hA
      simp only [puts, List.foldl]
      go_simp
      exact hK _ _ ⟨rfl, rfl, hg, Below.refl _ _⟩
    case As15 =>
      intro u wx hg hC
      have hJ12 : u 12 = (.bool true) := hC.at 12 (by kernel_rfl)
      have hJ14 : u 14 = (.string s) := hC.at 14 (by kernel_rfl)
      clear hC
      generalize hA : puts [(0, 49), (1, 50), (2, 51), (3, 52), (4, 53), (5, 54), (6, 55), (7, 56), (8, 57), (9, 58), (10, 59), (11, 60), (12, 61), (13, 62), (14, 63), (15, 64), (16, 65), (17, 66), (18, 67), (19, 68), (20, 69), (21, 70), (22, 71), (23, 72), (24, 73), (25, 74), (26, 75), (27, 76), (28, 77), (29, 78), (30, 79), (31, 80), (32, 81), (33, 82), (34, 83), (35, 84), (36, 85), (37, 86), (38, 87), (39, 88), (40, 89), (41, 90), (42, 91), (43, 92), (44, 93), (45, 94), (46, 95), (47, 96), (48, 97), (49, 98), (50, 99), (51, 100), (52, 101), (53, 102), (54, 4)] _ u = A
      have hgv : A.tmps.getD 61 undef = .bool true := by rw [← hA]; exact (puts_get u 12 61 _ _ (by decide) (by decide) (by kernel_rfl)).trans hJ12
      have hgs : 61 < A.tmps.size := by rw [← hA]; exact puts_room u (by kernel_rfl)
      refine wpOp_guard rfl 12 61 true rfl rfl hgs hgv (fun K hK => ?_)
      subst hA
      simp only [puts, List.foldl]
      go_simp
      refine (HRB.out wx).mono ?_
      rintro e w' ⟨rfl, hb'⟩
      exact hK _ _ ⟨rfl, rfl, hg.next hb', hb'⟩
    case As16 =>
      intro u wx hg hC
      have hJ12 : u 12 = (.bool true) := hC.at 12 (by kernel_rfl)
      have hJ13 : u 13 = (.agg (CC).toArray) := hC.at 13 (by kernel_rfl)
      have hJ15 : u 15 = (.agg CC.toArray) := hC.at 15 (by kernel_rfl)
      clear hC
      have heq := HEC.out
      generalize hA : puts [(0, 49), (1, 50), (2, 51), (3, 52), (4, 53), (5, 54), (6, 55), (7, 56), (8, 57), (9, 58), (10, 59), (11, 60), (12, 61), (13, 62), (14, 63), (15, 64), (16, 65), (17, 66), (18, 67), (19, 68), (20, 69), (21, 70), (22, 71), (23, 72), (24, 73), (25, 74), (26, 75), (27, 76), (28, 77), (29, 78), (30, 79), (31, 80), (32, 81), (33, 82), (34, 83), (35, 84), (36, 85), (37, 86), (38, 87), (39, 88), (40, 89), (41, 90), (42, 91), (43, 92), (44, 93), (45, 94), (46, 95), (47, 96), (48, 97), (49, 98), (50, 99), (51, 100), (52, 101), (53, 102), (54, 4)] _ u = A
      have hgv : A.tmps.getD 61 undef = .bool true := by rw [← hA]; exact (puts_get u 12 61 _ _ (by decide) (by decide) (by kernel_rfl)).trans hJ12
      have hgs : 61 < A.tmps.size := by rw [← hA]; exact puts_room u (by kernel_rfl)
      refine wpOp_guard rfl 12 61 true rfl rfl hgs hgv (fun K hK => ?_)
      subst hA
      simp only [puts, List.foldl]
      go_simp
      exact hK _ _ ⟨rfl, rfl, hg, Below.refl _ _⟩
    case As17 =>
      intro u wx hg hC
      have hJ12 : u 12 = (.bool true) := hC.at 12 (by kernel_rfl)
      have hJ16 : u 16 = (.bool true) := hC.at 16 (by kernel_rfl)
      clear hC
      refine wpOp_step rfl (fun K hK => ?_)
      simp only [puts, List.foldl]
      go_simp
      exact hK _ _ ⟨rfl, rfl, hg, Below.refl _ _⟩
    case As18 =>
      intro u wx hg hC
      have hJ17 : u 17 = (.bool true) := hC.at 17 (by kernel_rfl)
      clear hC
      refine wpOp_step rfl (fun K hK => ?_)
      simp only [puts, List.foldl]
      go_simp
      exact hK _ _ ⟨rfl, rfl, hg, Below.refl _ _⟩
    case As19 =>
      intro u wx hg hC
      have hJ18 : u 18 = (.bool true) := hC.at 18 (by kernel_rfl)
      clear hC
      generalize hA : puts [(0, 49), (1, 50), (2, 51), (3, 52), (4, 53), (5, 54), (6, 55), (7, 56), (8, 57), (9, 58), (10, 59), (11, 60), (12, 61), (13, 62), (14, 63), (15, 64), (16, 65), (17, 66), (18, 67), (19, 68), (20, 69), (21, 70), (22, 71), (23, 72), (24, 73), (25, 74), (26, 75), (27, 76), (28, 77), (29, 78), (30, 79), (31, 80), (32, 81), (33, 82), (34, 83), (35, 84), (36, 85), (37, 86), (38, 87), (39, 88), (40, 89), (41, 90), (42, 91), (43, 92), (44, 93), (45, 94), (46, 95), (47, 96), (48, 97), (49, 98), (50, 99), (51, 100), (52, 101), (53, 102), (54, 4)] _ u = A
      have hgv : A.tmps.getD 67 undef = .bool true := by rw [← hA]; exact (puts_get u 18 67 _ _ (by decide) (by decide) (by kernel_rfl)).trans hJ18
      have hgs : 67 < A.tmps.size := by rw [← hA]; exact puts_room u (by kernel_rfl)
      refine wpOp_guard rfl 18 67 true rfl rfl hgs hgv (fun K hK => ?_)
      subst hA
      simp only [puts, List.foldl]
      go_simp
      exact hK _ _ ⟨rfl, rfl, hg, Below.refl _ _⟩
    case As20 =>
      intro u wx hg hC
      have hJ18 : u 18 = (.bool true) := hC.at 18 (by kernel_rfl)
      clear hC
      generalize hA : puts [(0, 49), (1, 50), (2, 51), (3, 52), (4, 53), (5, 54), (6, 55), (7, 56), (8, 57), (9, 58), (10, 59), (11, 60), (12, 61), (13, 62), (14, 63), (15, 64), (16, 65), (17, 66), (18, 67), (19, 68), (20, 69), (21, 70), (22, 71), (23, 72), (24, 73), (25, 74), (26, 75), (27, 76), (28, 77), (29, 78), (30, 79), (31, 80), (32, 81), (33, 82), (34, 83), (35, 84), (36, 85), (37, 86), (38, 87), (39, 88), (40, 89), (41, 90), (42, 91), (43, 92), (44, 93), (45, 94), (46, 95), (47, 96), (48, 97), (49, 98), (50, 99), (51, 100), (52, 101), (53, 102), (54, 4)] _ u = A
      have hgv : A.tmps.getD 67 undef = .bool true := by rw [← hA]; exact (puts_get u 18 67 _ _ (by decide) (by decide) (by kernel_rfl)).trans hJ18
      have hgs : 67 < A.tmps.size := by rw [← hA]; exact puts_room u (by kernel_rfl)
      refine wpOp_guard rfl 18 67 true rfl rfl hgs hgv (fun K hK => ?_)
      subst hA
      simp only [puts, List.foldl]
      go_simp
      exact hK _ _ ⟨rfl, rfl, hg, Below.refl _ _⟩
    case As21 =>
      intro u wx hg hC
      have hJ18 : u 18 = (.bool true) := hC.at 18 (by kernel_rfl)
      have hJ20 : u 20 = (.string s) := hC.at 20 (by kernel_rfl)
      clear hC
      generalize hA : puts [(0, 49), (1, 50), (2, 51), (3, 52), (4, 53), (5, 54), (6, 55), (7, 56), (8, 57), (9, 58), (10, 59), (11, 60), (12, 61), (13, 62), (14, 63), (15, 64), (16, 65), (17, 66), (18, 67), (19, 68), (20, 69), (21, 70), (22, 71), (23, 72), (24, 73), (25, 74), (26, 75), (27, 76), (28, 77), (29, 78), (30, 79), (31, 80), (32, 81), (33, 82), (34, 83), (35, 84), (36, 85), (37, 86), (38, 87), (39, 88), (40, 89), (41, 90), (42, 91), (43, 92), (44, 93), (45, 94), (46, 95), (47, 96), (48, 97), (49, 98), (50, 99), (51, 100), (52, 101), (53, 102), (54, 4)] _ u = A
      have hgv : A.tmps.getD 67 undef = .bool true := by rw [← hA]; exact (puts_get u 18 67 _ _ (by decide) (by decide) (by kernel_rfl)).trans hJ18
      have hgs : 67 < A.tmps.size := by rw [← hA]; exact puts_room u (by kernel_rfl)
      refine wpOp_guard rfl 18 67 true rfl rfl hgs hgv (fun K hK => ?_)
      subst hA
      simp only [puts, List.foldl]
      go_simp
      refine (HRR.out wx).mono ?_
      rintro e w' ⟨rfl, hb'⟩
      exact hK _ _ ⟨rfl, rfl, hg.next hb', hb'⟩
    case As22 =>
      intro u wx hg hC
      have hJ18 : u 18 = (.bool true) := hC.at 18 (by kernel_rfl)
      have hJ19 : u 19 = (.bool r) := hC.at 19 (by kernel_rfl)
      have hJ21 : u 21 = (.bool r) := hC.at 21 (by kernel_rfl)
      clear hC
      have hrq := HRQ.out
      generalize hA : puts [(0, 49), (1, 50), (2, 51), (3, 52), (4, 53), (5, 54), (6, 55), (7, 56), (8, 57), (9, 58), (10, 59), (11, 60), (12, 61), (13, 62), (14, 63), (15, 64), (16, 65), (17, 66), (18, 67), (19, 68), (20, 69), (21, 70), (22, 71), (23, 72), (24, 73), (25, 74), (26, 75), (27, 76), (28, 77), (29, 78), (30, 79), (31, 80), (32, 81), (33, 82), (34, 83), (35, 84), (36, 85), (37, 86), (38, 87), (39, 88), (40, 89), (41, 90), (42, 91), (43, 92), (44, 93), (45, 94), (46, 95), (47, 96), (48, 97), (49, 98), (50, 99), (51, 100), (52, 101), (53, 102), (54, 4)] _ u = A
      have hgv : A.tmps.getD 67 undef = .bool true := by rw [← hA]; exact (puts_get u 18 67 _ _ (by decide) (by decide) (by kernel_rfl)).trans hJ18
      have hgs : 67 < A.tmps.size := by rw [← hA]; exact puts_room u (by kernel_rfl)
      refine wpOp_guard rfl 18 67 true rfl rfl hgs hgv (fun K hK => ?_)
      subst hA
      simp only [puts, List.foldl]
      go_simp
      exact hK _ _ ⟨rfl, rfl, hg, Below.refl _ _⟩
    case As23 =>
      intro u wx hg hC
      have hJ18 : u 18 = (.bool true) := hC.at 18 (by kernel_rfl)
      have hJ22 : u 22 = (.bool true) := hC.at 22 (by kernel_rfl)
      clear hC
      refine wpOp_step rfl (fun K hK => ?_)
      simp only [puts, List.foldl]
      go_simp
      exact hK _ _ ⟨rfl, rfl, hg, Below.refl _ _⟩
    case As24 =>
      intro u wx hg hC
      have hJ23 : u 23 = (.bool true) := hC.at 23 (by kernel_rfl)
      clear hC
      refine wpOp_step rfl (fun K hK => ?_)
      simp only [puts, List.foldl]
      go_simp
      exact hK _ _ ⟨rfl, rfl, hg, Below.refl _ _⟩
    case As25 =>
      intro u wx hg hC
      have hJ24 : u 24 = (.bool true) := hC.at 24 (by kernel_rfl)
      clear hC
      generalize hA : puts [(0, 49), (1, 50), (2, 51), (3, 52), (4, 53), (5, 54), (6, 55), (7, 56), (8, 57), (9, 58), (10, 59), (11, 60), (12, 61), (13, 62), (14, 63), (15, 64), (16, 65), (17, 66), (18, 67), (19, 68), (20, 69), (21, 70), (22, 71), (23, 72), (24, 73), (25, 74), (26, 75), (27, 76), (28, 77), (29, 78), (30, 79), (31, 80), (32, 81), (33, 82), (34, 83), (35, 84), (36, 85), (37, 86), (38, 87), (39, 88), (40, 89), (41, 90), (42, 91), (43, 92), (44, 93), (45, 94), (46, 95), (47, 96), (48, 97), (49, 98), (50, 99), (51, 100), (52, 101), (53, 102), (54, 4)] _ u = A
      have hgv : A.tmps.getD 73 undef = .bool true := by rw [← hA]; exact (puts_get u 24 73 _ _ (by decide) (by decide) (by kernel_rfl)).trans hJ24
      have hgs : 73 < A.tmps.size := by rw [← hA]; exact puts_room u (by kernel_rfl)
      refine wpOp_guard rfl 24 73 true rfl rfl hgs hgv (fun K hK => ?_)
      subst hA
      simp only [puts, List.foldl]
      go_simp
      exact hK _ _ ⟨rfl, rfl, hg, Below.refl _ _⟩
    case As26 =>
      intro u wx hg hC
      have hJ24 : u 24 = (.bool true) := hC.at 24 (by kernel_rfl)
      have hJ25 : u 25 = (.string s) := hC.at 25 (by kernel_rfl)
      clear hC
      generalize hA : puts [(0, 49), (1, 50), (2, 51), (3, 52), (4, 53), (5, 54), (6, 55), (7, 56), (8, 57), (9, 58), (10, 59), (11, 60), (12, 61), (13, 62), (14, 63), (15, 64), (16, 65), (17, 66), (18, 67), (19, 68), (20, 69), (21, 70), (22, 71), (23, 72), (24, 73), (25, 74), (26, 75), (27, 76), (28, 77), (29, 78), (30, 79), (31, 80), (32, 81), (33, 82), (34, 83), (35, 84), (36, 85), (37, 86), (38, 87), (39, 88), (40, 89), (41, 90), (42, 91), (43, 92), (44, 93), (45, 94), (46, 95), (47, 96), (48, 97), (49, 98), (50, 99), (51, 100), (52, 101), (53, 102), (54, 4)] _ u = A
      have hgv : A.tmps.getD 73 undef = .bool true := by rw [← hA]; exact (puts_get u 24 73 _ _ (by decide) (by decide) (by kernel_rfl)).trans hJ24
      have hgs : 73 < A.tmps.size := by rw [← hA]; exact puts_room u (by kernel_rfl)
      refine wpOp_guard rfl 24 73 true rfl rfl hgs hgv (fun K hK => ?_)
      subst hA
      simp only [puts, List.foldl]
      go_simp
      refine (HBK.out wx).mono ?_
      rintro e w' ⟨rfl, hb'⟩
      exact hK _ _ ⟨rfl, rfl, hg.next hb', hb'⟩
    case As27 =>
      intro u wx hg hC
      have hJ24 : u 24 = (.bool true) := hC.at 24 (by kernel_rfl)
      clear hC
      generalize hA : puts [(0, 49), (1, 50), (2, 51), (3, 52), (4, 53), (5, 54), (6, 55), (7, 56), (8, 57), (9, 58), (10, 59), (11, 60), (12, 61), (13, 62), (14, 63), (15, 64), (16, 65), (17, 66), (18, 67), (19, 68), (20, 69), (21, 70), (22, 71), (23, 72), (24, 73), (25, 74), (26, 75), (27, 76), (28, 77), (29, 78), (30, 79), (31, 80), (32, 81), (33, 82), (34, 83), (35, 84), (36, 85), (37, 86), (38, 87), (39, 88), (40, 89), (41, 90), (42, 91), (43, 92), (44, 93), (45, 94), (46, 95), (47, 96), (48, 97), (49, 98), (50, 99), (51, 100), (52, 101), (53, 102), (54, 4)] _ u = A
      have hgv : A.tmps.getD 73 undef = .bool true := by rw [← hA]; exact (puts_get u 24 73 _ _ (by decide) (by decide) (by kernel_rfl)).trans hJ24
      have hgs : 73 < A.tmps.size := by rw [← hA]; exact puts_room u (by kernel_rfl)
      refine wpOp_guard rfl 24 73 true rfl rfl hgs hgv (fun K hK => ?_)
      subst hA
      simp only [puts, List.foldl]
      go_simp
      exact hK _ _ ⟨rfl, rfl, hg, Below.refl _ _⟩
    case As28 =>
      intro u wx hg hC
      have hJ24 : u 24 = (.bool true) := hC.at 24 (by kernel_rfl)
      clear hC
      generalize hA : puts [(0, 49), (1, 50), (2, 51), (3, 52), (4, 53), (5, 54), (6, 55), (7, 56), (8, 57), (9, 58), (10, 59), (11, 60), (12, 61), (13, 62), (14, 63), (15, 64), (16, 65), (17, 66), (18, 67), (19, 68), (20, 69), (21, 70), (22, 71), (23, 72), (24, 73), (25, 74), (26, 75), (27, 76), (28, 77), (29, 78), (30, 79), (31, 80), (32, 81), (33, 82), (34, 83), (35, 84), (36, 85), (37, 86), (38, 87), (39, 88), (40, 89), (41, 90), (42, 91), (43, 92), (44, 93), (45, 94), (46, 95), (47, 96), (48, 97), (49, 98), (50, 99), (51, 100), (52, 101), (53, 102), (54, 4)] _ u = A
      have hgv : A.tmps.getD 73 undef = .bool true := by rw [← hA]; exact (puts_get u 24 73 _ _ (by decide) (by decide) (by kernel_rfl)).trans hJ24
      have hgs : 73 < A.tmps.size := by rw [← hA]; exact puts_room u (by kernel_rfl)
      refine wpOp_guard rfl 24 73 true rfl rfl hgs hgv (fun K hK => ?_)
      subst hA
      simp only [puts, List.foldl]
      go_simp
      exact hK _ _ ⟨rfl, rfl, hg, Below.refl _ _⟩
    case As29 =>
      intro u wx hg hC
      have hJ24 : u 24 = (.bool true) := hC.at 24 (by kernel_rfl)
      have hJ27 : u 27 = (.string s) := hC.at 27 (by kernel_rfl)
      have hJ28 : u 28 = (.string BL) := hC.at 28 (by kernel_rfl)
      clear hC
      have hdq := HDQ.out
      generalize hA : puts [(0, 49), (1, 50), (2, 51), (3, 52), (4, 53), (5, 54), (6, 55), (7, 56), (8, 57), (9, 58), (10, 59), (11, 60), (12, 61), (13, 62), (14, 63), (15, 64), (16, 65), (17, 66), (18, 67), (19, 68), (20, 69), (21, 70), (22, 71), (23, 72), (24, 73), (25, 74), (26, 75), (27, 76), (28, 77), (29, 78), (30, 79), (31, 80), (32, 81), (33, 82), (34, 83), (35, 84), (36, 85), (37, 86), (38, 87), (39, 88), (40, 89), (41, 90), (42, 91), (43, 92), (44, 93), (45, 94), (46, 95), (47, 96), (48, 97), (49, 98), (50, 99), (51, 100), (52, 101), (53, 102), (54, 4)] _ u = A
      have hgv : A.tmps.getD 73 undef = .bool true := by rw [← hA]; exact (puts_get u 24 73 _ _ (by decide) (by decide) (by kernel_rfl)).trans hJ24
      have hgs : 73 < A.tmps.size := by rw [← hA]; exact puts_room u (by kernel_rfl)
      refine wpOp_guard rfl 24 73 true rfl rfl hgs hgv (fun K hK => ?_)
      subst hA
      simp only [puts, List.foldl]
      go_simp
      exact hK _ _ ⟨rfl, rfl, hg, Below.refl _ _⟩
    case As30 =>
      intro u wx hg hC
      have hJ24 : u 24 = (.bool true) := hC.at 24 (by kernel_rfl)
      have hJ26 : u 26 = (.bool d) := hC.at 26 (by kernel_rfl)
      have hJ29 : u 29 = (.bool d) := hC.at 29 (by kernel_rfl)
      clear hC
      have hdd := HDD.out
      generalize hA : puts [(0, 49), (1, 50), (2, 51), (3, 52), (4, 53), (5, 54), (6, 55), (7, 56), (8, 57), (9, 58), (10, 59), (11, 60), (12, 61), (13, 62), (14, 63), (15, 64), (16, 65), (17, 66), (18, 67), (19, 68), (20, 69), (21, 70), (22, 71), (23, 72), (24, 73), (25, 74), (26, 75), (27, 76), (28, 77), (29, 78), (30, 79), (31, 80), (32, 81), (33, 82), (34, 83), (35, 84), (36, 85), (37, 86), (38, 87), (39, 88), (40, 89), (41, 90), (42, 91), (43, 92), (44, 93), (45, 94), (46, 95), (47, 96), (48, 97), (49, 98), (50, 99), (51, 100), (52, 101), (53, 102), (54, 4)] _ u = A
      have hgv : A.tmps.getD 73 undef = .bool true := by rw [← hA]; exact (puts_get u 24 73 _ _ (by decide) (by decide) (by kernel_rfl)).trans hJ24
      have hgs : 73 < A.tmps.size := by rw [← hA]; exact puts_room u (by kernel_rfl)
      refine wpOp_guard rfl 24 73 true rfl rfl hgs hgv (fun K hK => ?_)
      subst hA
      simp only [puts, List.foldl]
      go_simp
      exact hK _ _ ⟨rfl, rfl, hg, Below.refl _ _⟩
    case As31 =>
      intro u wx hg hC
      have hJ24 : u 24 = (.bool true) := hC.at 24 (by kernel_rfl)
      have hJ30 : u 30 = (.bool true) := hC.at 30 (by kernel_rfl)
      clear hC
      refine wpOp_step rfl (fun K hK => ?_)
      simp only [puts, List.foldl]
      go_simp
      exact hK _ _ ⟨rfl, rfl, hg, Below.refl _ _⟩
    case As32 =>
      intro u wx hg hC
      have hJ31 : u 31 = (.bool true) := hC.at 31 (by kernel_rfl)
      clear hC
      refine wpOp_step rfl (fun K hK => ?_)
      simp only [puts, List.foldl]
      go_simp
      exact hK _ _ ⟨rfl, rfl, hg, Below.refl _ _⟩
    case As33 =>
      intro u wx hg hC
      have hJ32 : u 32 = (.bool true) := hC.at 32 (by kernel_rfl)
      clear hC
      generalize hA : puts [(0, 49), (1, 50), (2, 51), (3, 52), (4, 53), (5, 54), (6, 55), (7, 56), (8, 57), (9, 58), (10, 59), (11, 60), (12, 61), (13, 62), (14, 63), (15, 64), (16, 65), (17, 66), (18, 67), (19, 68), (20, 69), (21, 70), (22, 71), (23, 72), (24, 73), (25, 74), (26, 75), (27, 76), (28, 77), (29, 78), (30, 79), (31, 80), (32, 81), (33, 82), (34, 83), (35, 84), (36, 85), (37, 86), (38, 87), (39, 88), (40, 89), (41, 90), (42, 91), (43, 92), (44, 93), (45, 94), (46, 95), (47, 96), (48, 97), (49, 98), (50, 99), (51, 100), (52, 101), (53, 102), (54, 4)] _ u = A
      have hgv : A.tmps.getD 81 undef = .bool true := by rw [← hA]; exact (puts_get u 32 81 _ _ (by decide) (by decide) (by kernel_rfl)).trans hJ32
      have hgs : 81 < A.tmps.size := by rw [← hA]; exact puts_room u (by kernel_rfl)
      refine wpOp_guard rfl 32 81 true rfl rfl hgs hgv (fun K hK => ?_)
      subst hA
      simp only [puts, List.foldl]
      go_simp
      exact hK _ _ ⟨rfl, rfl, hg, Below.refl _ _⟩
    case As34 =>
      intro u wx hg hC
      have hJ32 : u 32 = (.bool true) := hC.at 32 (by kernel_rfl)
      have hJ33 : u 33 = (.string BL) := hC.at 33 (by kernel_rfl)
      clear hC
      generalize hA : puts [(0, 49), (1, 50), (2, 51), (3, 52), (4, 53), (5, 54), (6, 55), (7, 56), (8, 57), (9, 58), (10, 59), (11, 60), (12, 61), (13, 62), (14, 63), (15, 64), (16, 65), (17, 66), (18, 67), (19, 68), (20, 69), (21, 70), (22, 71), (23, 72), (24, 73), (25, 74), (26, 75), (27, 76), (28, 77), (29, 78), (30, 79), (31, 80), (32, 81), (33, 82), (34, 83), (35, 84), (36, 85), (37, 86), (38, 87), (39, 88), (40, 89), (41, 90), (42, 91), (43, 92), (44, 93), (45, 94), (46, 95), (47, 96), (48, 97), (49, 98), (50, 99), (51, 100), (52, 101), (53, 102), (54, 4)] _ u = A
      have hgv : A.tmps.getD 81 undef = .bool true := by rw [← hA]; exact (puts_get u 32 81 _ _ (by decide) (by decide) (by kernel_rfl)).trans hJ32
      have hgs : 81 < A.tmps.size := by rw [← hA]; exact puts_room u (by kernel_rfl)
      refine wpOp_guard rfl 32 81 true rfl rfl hgs hgv (fun K hK => ?_)
      subst hA
      simp only [puts, List.foldl]
      go_simp
      refine (HBB.out wx).mono ?_
      rintro e w' ⟨rfl, hb'⟩
      exact hK _ _ ⟨rfl, rfl, hg.next hb', hb'⟩
    case As35 =>
      intro u wx hg hC
      have hJ32 : u 32 = (.bool true) := hC.at 32 (by kernel_rfl)
      have hJ34 : u 34 = (.bool true) := hC.at 34 (by kernel_rfl)
      clear hC
      refine wpOp_step rfl (fun K hK => ?_)
      simp only [puts, List.foldl]
      go_simp
      exact hK _ _ ⟨rfl, rfl, hg, Below.refl _ _⟩
    case As36 =>
      intro u wx hg hC
      have hJ35 : u 35 = (.bool true) := hC.at 35 (by kernel_rfl)
      clear hC
      refine wpOp_step rfl (fun K hK => ?_)
      simp only [puts, List.foldl]
      go_simp
      exact hK _ _ ⟨rfl, rfl, hg, Below.refl _ _⟩
    case As37 =>
      intro u wx hg hC
      have hJ36 : u 36 = (.bool true) := hC.at 36 (by kernel_rfl)
      clear hC
      generalize hA : puts [(0, 49), (1, 50), (2, 51), (3, 52), (4, 53), (5, 54), (6, 55), (7, 56), (8, 57), (9, 58), (10, 59), (11, 60), (12, 61), (13, 62), (14, 63), (15, 64), (16, 65), (17, 66), (18, 67), (19, 68), (20, 69), (21, 70), (22, 71), (23, 72), (24, 73), (25, 74), (26, 75), (27, 76), (28, 77), (29, 78), (30, 79), (31, 80), (32, 81), (33, 82), (34, 83), (35, 84), (36, 85), (37, 86), (38, 87), (39, 88), (40, 89), (41, 90), (42, 91), (43, 92), (44, 93), (45, 94), (46, 95), (47, 96), (48, 97), (49, 98), (50, 99), (51, 100), (52, 101), (53, 102), (54, 4)] _ u = A
      have hgv : A.tmps.getD 85 undef = .bool true := by rw [← hA]; exact (puts_get u 36 85 _ _ (by decide) (by decide) (by kernel_rfl)).trans hJ36
      have hgs : 85 < A.tmps.size := by rw [← hA]; exact puts_room u (by kernel_rfl)
      refine wpOp_guard rfl 36 85 true rfl rfl hgs hgv (fun K hK => ?_)
      subst hA
      simp only [puts, List.foldl]
      go_simp
      exact hK _ _ ⟨rfl, rfl, hg, Below.refl _ _⟩
    case As38 =>
      intro u wx hg hC
      have hJ36 : u 36 = (.bool true) := hC.at 36 (by kernel_rfl)
      have hJ37 : u 37 = (.bool false) := hC.at 37 (by kernel_rfl)
      clear hC
      generalize hA : puts [(0, 49), (1, 50), (2, 51), (3, 52), (4, 53), (5, 54), (6, 55), (7, 56), (8, 57), (9, 58), (10, 59), (11, 60), (12, 61), (13, 62), (14, 63), (15, 64), (16, 65), (17, 66), (18, 67), (19, 68), (20, 69), (21, 70), (22, 71), (23, 72), (24, 73), (25, 74), (26, 75), (27, 76), (28, 77), (29, 78), (30, 79), (31, 80), (32, 81), (33, 82), (34, 83), (35, 84), (36, 85), (37, 86), (38, 87), (39, 88), (40, 89), (41, 90), (42, 91), (43, 92), (44, 93), (45, 94), (46, 95), (47, 96), (48, 97), (49, 98), (50, 99), (51, 100), (52, 101), (53, 102), (54, 4)] _ u = A
      have hgv : A.tmps.getD 85 undef = .bool true := by rw [← hA]; exact (puts_get u 36 85 _ _ (by decide) (by decide) (by kernel_rfl)).trans hJ36
      have hgs : 85 < A.tmps.size := by rw [← hA]; exact puts_room u (by kernel_rfl)
      refine wpOp_guard rfl 36 85 true rfl rfl hgs hgv (fun K hK => ?_)
      subst hA
      simp only [puts, List.foldl]
      go_simp
      exact hK _ _ ⟨rfl, rfl, hg, Below.refl _ _⟩
    case As39 =>
      intro u wx hg hC
      have hJ36 : u 36 = (.bool true) := hC.at 36 (by kernel_rfl)
      have hJ38 : u 38 = (.bool true) := hC.at 38 (by kernel_rfl)
      clear hC
      refine wpOp_step rfl (fun K hK => ?_)
      simp only [puts, List.foldl]
      go_simp
      exact hK _ _ ⟨rfl, rfl, hg, Below.refl _ _⟩
    case As40 =>
      intro u wx hg hC
      have hJ39 : u 39 = (.bool true) := hC.at 39 (by kernel_rfl)
      clear hC
      refine wpOp_step rfl (fun K hK => ?_)
      simp only [puts, List.foldl]
      go_simp
      exact hK _ _ ⟨rfl, rfl, hg, Below.refl _ _⟩
    case As41 =>
      intro u wx hg hC
      have hJ40 : u 40 = (.bool true) := hC.at 40 (by kernel_rfl)
      clear hC
      generalize hA : puts [(0, 49), (1, 50), (2, 51), (3, 52), (4, 53), (5, 54), (6, 55), (7, 56), (8, 57), (9, 58), (10, 59), (11, 60), (12, 61), (13, 62), (14, 63), (15, 64), (16, 65), (17, 66), (18, 67), (19, 68), (20, 69), (21, 70), (22, 71), (23, 72), (24, 73), (25, 74), (26, 75), (27, 76), (28, 77), (29, 78), (30, 79), (31, 80), (32, 81), (33, 82), (34, 83), (35, 84), (36, 85), (37, 86), (38, 87), (39, 88), (40, 89), (41, 90), (42, 91), (43, 92), (44, 93), (45, 94), (46, 95), (47, 96), (48, 97), (49, 98), (50, 99), (51, 100), (52, 101), (53, 102), (54, 4)] _ u = A
      have hgv : A.tmps.getD 89 undef = .bool true := by rw [← hA]; exact (puts_get u 40 89 _ _ (by decide) (by decide) (by kernel_rfl)).trans hJ40
      have hgs : 89 < A.tmps.size := by rw [← hA]; exact puts_room u (by kernel_rfl)
      have hp : A.tmps.getD 2 undef = (.pointer (some ⟨w.heap.size, 0, none⟩)) := by rw [← hA]; exact (puts_get_out u _ _ 2 (by decide)).trans (by rfl)
      have hsz : 90 < A.tmps.size := by rw [← hA]; exact puts_room u (by kernel_rfl)
      refine wpOp_guard rfl 40 89 true rfl rfl hgs hgv (fun K hK => ?_)
      clear hA
      exact opLoadK (φ := Is (.agg (L).toArray)) (R17.out.step hg) _ (fits_block) (LH.out) 90 rfl hsz hK (.tmp 2) rfl hp rfl hg
    case As42 =>
      intro u wx hg hC
      have hJ40 : u 40 = (.bool true) := hC.at 40 (by kernel_rfl)
      have hJ41 : u 41 = (.agg (L).toArray) := hC.at 41 (by kernel_rfl)
      clear hC
      generalize hA : puts [(0, 49), (1, 50), (2, 51), (3, 52), (4, 53), (5, 54), (6, 55), (7, 56), (8, 57), (9, 58), (10, 59), (11, 60), (12, 61), (13, 62), (14, 63), (15, 64), (16, 65), (17, 66), (18, 67), (19, 68), (20, 69), (21, 70), (22, 71), (23, 72), (24, 73), (25, 74), (26, 75), (27, 76), (28, 77), (29, 78), (30, 79), (31, 80), (32, 81), (33, 82), (34, 83), (35, 84), (36, 85), (37, 86), (38, 87), (39, 88), (40, 89), (41, 90), (42, 91), (43, 92), (44, 93), (45, 94), (46, 95), (47, 96), (48, 97), (49, 98), (50, 99), (51, 100), (52, 101), (53, 102), (54, 4)] _ u = A
      have hgv : A.tmps.getD 89 undef = .bool true := by rw [← hA]; exact (puts_get u 40 89 _ _ (by decide) (by decide) (by kernel_rfl)).trans hJ40
      have hgs : 89 < A.tmps.size := by rw [← hA]; exact puts_room u (by kernel_rfl)
      refine wpOp_guard rfl 40 89 true rfl rfl hgs hgv (fun K hK => ?_)
      subst hA
      simp only [puts, List.foldl]
      go_simp
      refine (HSN.out wx).mono ?_
      rintro e w' ⟨rfl, hb'⟩
      exact hK _ _ ⟨rfl, rfl, hg.next hb', hb'⟩
    case As43 =>
      intro u wx hg hC
      have hJ40 : u 40 = (.bool true) := hC.at 40 (by kernel_rfl)
      have hJ42 : u 42 = (.string { data := #[] }) := hC.at 42 (by kernel_rfl)
      clear hC
      generalize hA : puts [(0, 49), (1, 50), (2, 51), (3, 52), (4, 53), (5, 54), (6, 55), (7, 56), (8, 57), (9, 58), (10, 59), (11, 60), (12, 61), (13, 62), (14, 63), (15, 64), (16, 65), (17, 66), (18, 67), (19, 68), (20, 69), (21, 70), (22, 71), (23, 72), (24, 73), (25, 74), (26, 75), (27, 76), (28, 77), (29, 78), (30, 79), (31, 80), (32, 81), (33, 82), (34, 83), (35, 84), (36, 85), (37, 86), (38, 87), (39, 88), (40, 89), (41, 90), (42, 91), (43, 92), (44, 93), (45, 94), (46, 95), (47, 96), (48, 97), (49, 98), (50, 99), (51, 100), (52, 101), (53, 102), (54, 4)] _ u = A
      have hgv : A.tmps.getD 89 undef = .bool true := by rw [← hA]; exact (puts_get u 40 89 _ _ (by decide) (by decide) (by kernel_rfl)).trans hJ40
      have hgs : 89 < A.tmps.size := by rw [← hA]; exact puts_room u (by kernel_rfl)
      refine wpOp_guard rfl 40 89 true rfl rfl hgs hgv (fun K hK => ?_)
      subst hA
      simp only [puts, List.foldl]
      go_simp
      exact hK _ _ ⟨rfl, rfl, hg, Below.refl _ _⟩
    case As44 =>
      intro u wx hg hC
      have hJ40 : u 40 = (.bool true) := hC.at 40 (by kernel_rfl)
      have hJ43 : u 43 = (.bool true) := hC.at 43 (by kernel_rfl)
      clear hC
      refine wpOp_step rfl (fun K hK => ?_)
      simp only [puts, List.foldl]
      go_simp
      exact hK _ _ ⟨rfl, rfl, hg, Below.refl _ _⟩
    case As45 =>
      intro u wx hg hC
      have hJ44 : u 44 = (.bool true) := hC.at 44 (by kernel_rfl)
      clear hC
      refine wpOp_step rfl (fun K hK => ?_)
      simp only [puts, List.foldl]
      go_simp
      exact hK _ _ ⟨rfl, rfl, hg, Below.refl _ _⟩
    case As46 =>
      intro u wx hg hC
      have hJ45 : u 45 = (.bool true) := hC.at 45 (by kernel_rfl)
      clear hC
      generalize hA : puts [(0, 49), (1, 50), (2, 51), (3, 52), (4, 53), (5, 54), (6, 55), (7, 56), (8, 57), (9, 58), (10, 59), (11, 60), (12, 61), (13, 62), (14, 63), (15, 64), (16, 65), (17, 66), (18, 67), (19, 68), (20, 69), (21, 70), (22, 71), (23, 72), (24, 73), (25, 74), (26, 75), (27, 76), (28, 77), (29, 78), (30, 79), (31, 80), (32, 81), (33, 82), (34, 83), (35, 84), (36, 85), (37, 86), (38, 87), (39, 88), (40, 89), (41, 90), (42, 91), (43, 92), (44, 93), (45, 94), (46, 95), (47, 96), (48, 97), (49, 98), (50, 99), (51, 100), (52, 101), (53, 102), (54, 4)] _ u = A
      have hgv : A.tmps.getD 94 undef = .bool true := by rw [← hA]; exact (puts_get u 45 94 _ _ (by decide) (by decide) (by kernel_rfl)).trans hJ45
      have hgs : 94 < A.tmps.size := by rw [← hA]; exact puts_room u (by kernel_rfl)
      refine wpOp_guard rfl 45 94 true rfl rfl hgs hgv (fun K hK => ?_)
      subst hA
      simp only [puts, List.foldl]
      go_simp
      exact hK _ _ ⟨rfl, rfl, hg, Below.refl _ _⟩
    case As47 =>
      intro u wx hg hC
      have hJ45 : u 45 = (.bool true) := hC.at 45 (by kernel_rfl)
      have hJ46 : u 46 = (.bool false) := hC.at 46 (by kernel_rfl)
      clear hC
      generalize hA : puts [(0, 49), (1, 50), (2, 51), (3, 52), (4, 53), (5, 54), (6, 55), (7, 56), (8, 57), (9, 58), (10, 59), (11, 60), (12, 61), (13, 62), (14, 63), (15, 64), (16, 65), (17, 66), (18, 67), (19, 68), (20, 69), (21, 70), (22, 71), (23, 72), (24, 73), (25, 74), (26, 75), (27, 76), (28, 77), (29, 78), (30, 79), (31, 80), (32, 81), (33, 82), (34, 83), (35, 84), (36, 85), (37, 86), (38, 87), (39, 88), (40, 89), (41, 90), (42, 91), (43, 92), (44, 93), (45, 94), (46, 95), (47, 96), (48, 97), (49, 98), (50, 99), (51, 100), (52, 101), (53, 102), (54, 4)] _ u = A
      have hgv : A.tmps.getD 94 undef = .bool true := by rw [← hA]; exact (puts_get u 45 94 _ _ (by decide) (by decide) (by kernel_rfl)).trans hJ45
      have hgs : 94 < A.tmps.size := by rw [← hA]; exact puts_room u (by kernel_rfl)
      refine wpOp_guard rfl 45 94 true rfl rfl hgs hgv (fun K hK => ?_)
      subst hA
      simp only [puts, List.foldl]
      go_simp
      exact hK _ _ ⟨rfl, rfl, hg, Below.refl _ _⟩
    case As48 =>
      intro u wx hg hC
      have hJ45 : u 45 = (.bool true) := hC.at 45 (by kernel_rfl)
      have hJ47 : u 47 = (.bool true) := hC.at 47 (by kernel_rfl)
      clear hC
      refine wpOp_step rfl (fun K hK => ?_)
      simp only [puts, List.foldl]
      go_simp
      exact hK _ _ ⟨rfl, rfl, hg, Below.refl _ _⟩
    case As49 =>
      intro u wx hg hC
      have hJ48 : u 48 = (.bool true) := hC.at 48 (by kernel_rfl)
      clear hC
      refine wpOp_step rfl (fun K hK => ?_)
      simp only [puts, List.foldl]
      go_simp
      exact hK _ _ ⟨rfl, rfl, hg, Below.refl _ _⟩
    case As50 =>
      intro u wx hg hC
      have hJ49 : u 49 = (.bool true) := hC.at 49 (by kernel_rfl)
      clear hC
      generalize hA : puts [(0, 49), (1, 50), (2, 51), (3, 52), (4, 53), (5, 54), (6, 55), (7, 56), (8, 57), (9, 58), (10, 59), (11, 60), (12, 61), (13, 62), (14, 63), (15, 64), (16, 65), (17, 66), (18, 67), (19, 68), (20, 69), (21, 70), (22, 71), (23, 72), (24, 73), (25, 74), (26, 75), (27, 76), (28, 77), (29, 78), (30, 79), (31, 80), (32, 81), (33, 82), (34, 83), (35, 84), (36, 85), (37, 86), (38, 87), (39, 88), (40, 89), (41, 90), (42, 91), (43, 92), (44, 93), (45, 94), (46, 95), (47, 96), (48, 97), (49, 98), (50, 99), (51, 100), (52, 101), (53, 102), (54, 4)] _ u = A
      have hgv : A.tmps.getD 98 undef = .bool true := by rw [← hA]; exact (puts_get u 49 98 _ _ (by decide) (by decide) (by kernel_rfl)).trans hJ49
      have hgs : 98 < A.tmps.size := by rw [← hA]; exact puts_room u (by kernel_rfl)
      have hp : A.tmps.getD 14 undef = (.pointer (some ⟨g4, 0, none⟩)) := by rw [← hA]; exact (puts_get_out u _ _ 14 (by decide)).trans (by rfl)
      have hsz : 99 < A.tmps.size := by rw [← hA]; exact puts_room u (by kernel_rfl)
      refine wpOp_guard rfl 49 98 true rfl rfl hgs hgv (fun K hK => ?_)
      clear hA
      exact opLoadK (φ := Is (.agg (CC).toArray)) (Z17.out.step hg) _ (fits_block) (LC.out) 99 rfl hsz hK (.tmp 14) rfl hp rfl hg
    case As51 =>
      intro u wx hg hC
      have hJ49 : u 49 = (.bool true) := hC.at 49 (by kernel_rfl)
      clear hC
      generalize hA : puts [(0, 49), (1, 50), (2, 51), (3, 52), (4, 53), (5, 54), (6, 55), (7, 56), (8, 57), (9, 58), (10, 59), (11, 60), (12, 61), (13, 62), (14, 63), (15, 64), (16, 65), (17, 66), (18, 67), (19, 68), (20, 69), (21, 70), (22, 71), (23, 72), (24, 73), (25, 74), (26, 75), (27, 76), (28, 77), (29, 78), (30, 79), (31, 80), (32, 81), (33, 82), (34, 83), (35, 84), (36, 85), (37, 86), (38, 87), (39, 88), (40, 89), (41, 90), (42, 91), (43, 92), (44, 93), (45, 94), (46, 95), (47, 96), (48, 97), (49, 98), (50, 99), (51, 100), (52, 101), (53, 102), (54, 4)] _ u = A
      have hgv : A.tmps.getD 98 undef = .bool true := by rw [← hA]; exact (puts_get u 49 98 _ _ (by decide) (by decide) (by kernel_rfl)).trans hJ49
      have hgs : 98 < A.tmps.size := by rw [← hA]; exact puts_room u (by kernel_rfl)
      have hp : A.tmps.getD 9 undef = (.pointer (some ⟨g2, 0, none⟩)) := by rw [← hA]; exact (puts_get_out u _ _ 9 (by decide)).trans (by rfl)
      have hsz : 100 < A.tmps.size := by rw [← hA]; exact puts_room u (by kernel_rfl)
      refine wpOp_guard rfl 49 98 true rfl rfl hgs hgv (fun K hK => ?_)
      clear hA
      exact opLoadK (φ := Is (.agg (CC).toArray)) (Y17.out.step hg) _ (fits_block) (LC.out) 100 rfl hsz hK (.tmp 9) rfl hp rfl hg
    case As52 =>
      intro u wx hg hC
      have hJ49 : u 49 = (.bool true) := hC.at 49 (by kernel_rfl)
      have hJ50 : u 50 = (.agg (CC).toArray) := hC.at 50 (by kernel_rfl)
      have hJ51 : u 51 = (.agg (CC).toArray) := hC.at 51 (by kernel_rfl)
      clear hC
      have heq := HEC.out
      generalize hA : puts [(0, 49), (1, 50), (2, 51), (3, 52), (4, 53), (5, 54), (6, 55), (7, 56), (8, 57), (9, 58), (10, 59), (11, 60), (12, 61), (13, 62), (14, 63), (15, 64), (16, 65), (17, 66), (18, 67), (19, 68), (20, 69), (21, 70), (22, 71), (23, 72), (24, 73), (25, 74), (26, 75), (27, 76), (28, 77), (29, 78), (30, 79), (31, 80), (32, 81), (33, 82), (34, 83), (35, 84), (36, 85), (37, 86), (38, 87), (39, 88), (40, 89), (41, 90), (42, 91), (43, 92), (44, 93), (45, 94), (46, 95), (47, 96), (48, 97), (49, 98), (50, 99), (51, 100), (52, 101), (53, 102), (54, 4)] _ u = A
      have hgv : A.tmps.getD 98 undef = .bool true := by rw [← hA]; exact (puts_get u 49 98 _ _ (by decide) (by decide) (by kernel_rfl)).trans hJ49
      have hgs : 98 < A.tmps.size := by rw [← hA]; exact puts_room u (by kernel_rfl)
      refine wpOp_guard rfl 49 98 true rfl rfl hgs hgv (fun K hK => ?_)
      subst hA
      simp only [puts, List.foldl]
      go_simp
      exact hK _ _ ⟨rfl, rfl, hg, Below.refl _ _⟩
    case As53 =>
      intro u wx hg hC
      have hJ49 : u 49 = (.bool true) := hC.at 49 (by kernel_rfl)
      have hJ52 : u 52 = (.bool true) := hC.at 52 (by kernel_rfl)
      clear hC
      refine wpOp_step rfl (fun K hK => ?_)
      simp only [puts, List.foldl]
      go_simp
      exact hK _ _ ⟨rfl, rfl, hg, Below.refl _ _⟩
    case As54 =>
      intro u wx hg hC
      have hJ53 : u 53 = (.bool true) := hC.at 53 (by kernel_rfl)
      clear hC
      refine wpOp_step rfl (fun K hK => ?_)
      simp only [puts, List.foldl]
      go_simp
      exact hK _ _ ⟨rfl, rfl, hg, Below.refl _ _⟩
  case finA =>
    intro u wx hg hC
    have hC54 : u 54 = .bool true := hC (54, 4) (by decide)
    simp only [puts, List.foldl]
    rw [hC54]
    go_simp
    go_wp2
    go_ret
    exact ⟨rfl, B17.out.next hg⟩
end Go.Proofs.Ytmffkfgcopaoeaa
