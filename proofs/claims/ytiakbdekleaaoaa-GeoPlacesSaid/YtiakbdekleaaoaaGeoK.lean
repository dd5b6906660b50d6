/- GeoPlaces: the walk (gen_geo_k.py). -/
import Derived.Test.YtiakbdekleaaoaaGeoJ
namespace Go.Proofs.Ytiakbdekleaaoaa
open Go.RowKit GeoMath
set_option linter.unusedVariables false
set_option maxRecDepth 100000

theorem zero_rgeo : ∀ u, (zeroValue 26).run Try.prog u = .ok (.agg [Value.int .i64 0, .int .i64 0, .int .i64 0].toArray) u := fun u => by kernel_rfl
set_option maxHeartbeats 8000000 in
theorem geoPlaces_no (d p s a0 a1 a2 b0 b1 b2 : Int) (w : World) (hr : right ⟨d, p, s⟩ = false) :
    Calls Try.prog 3 #[.agg #[.int .i64 d, .int .i64 p, .int .i64 s], .agg #[.int .i64 a0, .int .i64 a1, .int .i64 a2], .agg #[.int .i64 b0, .int .i64 b1, .int .i64 b2]] w fun e w' => e = .returned (.bool true) ∧ Below w.heap.size w w' := by
  have HAW := Lib.hid geoAwake_any
  have ha : ∀ L, askF ⟨d, p, s⟩ L = 1 := fun L => if_neg (by rw [hr]; decide)
  have HSE : Hid (∀ w1, Calls Try.prog 7 #[.agg #[.int .i64 d, .int .i64 p, .int .i64 s], .int .i64 a0, .int .i64 a1, .int .i64 a2] w1 fun e w' => e = .returned (.tuple #[.int .i64 0, .int .i64 1]) ∧ Below w1.heap.size w1 w') := Lib.hid fun w1 => (sector_any ⟨d, p, s⟩ a0 a1 a2 w1).mono fun e w' h => by
    have q : sectQ ⟨d, p, s⟩ a0 a1 a2 = 1 := ha _
    have q2 : sect ⟨d, p, s⟩ a0 a1 a2 = 0 := if_neg (by rw [q]; decide)
    rw [q, q2] at h
    exact h
  have HHA : Hid (∀ w1, Calls Try.prog 8 #[.agg #[.int .i64 d, .int .i64 p, .int .i64 s], .int .i64 a0, .int .i64 a1] w1 fun e w' => e = .returned (.tuple #[.int .i64 0, .int .i64 1]) ∧ Below w1.heap.size w1 w') := Lib.hid fun w1 => (half_any ⟨d, p, s⟩ a0 a1 w1).mono fun e w' h => by
    have q : halfQ ⟨d, p, s⟩ a0 a1 = 1 := ha _
    have q2 : half ⟨d, p, s⟩ a0 a1 = 0 := if_neg (by rw [q]; decide)
    rw [q, q2] at h
    exact h
  have HTA : Hid (∀ w1, Calls Try.prog 9 #[.agg #[.int .i64 d, .int .i64 p, .int .i64 s], .int .i64 a0] w1 fun e w' => e = .returned (.tuple #[.int .i64 0, .int .i64 1]) ∧ Below w1.heap.size w1 w') := Lib.hid fun w1 => (tally_any ⟨d, p, s⟩ a0 w1).mono fun e w' h => by
    have q : talQ ⟨d, p, s⟩ a0 = 1 := ha _
    have q2 : talA ⟨d, p, s⟩ a0 = 0 := if_neg (by rw [q]; decide)
    rw [q, q2] at h
    exact h
  have HOF : Hid (∀ w1, Calls Try.prog 10 #[.agg #[.int .i64 d, .int .i64 p, .int .i64 s], .int .i64 b0] w1 fun e w' => e = .returned (.tuple #[.int .i64 0, .int .i64 0, .int .i64 0, .bool false]) ∧ Below w1.heap.size w1 w') := Lib.hid fun w1 => (of_any ⟨d, p, s⟩ b0 w1).mono fun e w' h => by
    have q : ofQ ⟨d, p, s⟩ b0 = 1 := ha _
    have q1 : ofA ⟨d, p, s⟩ b0 = 0 := if_neg (by rw [q]; decide)
    have q2 : ofB ⟨d, p, s⟩ b0 = 0 := if_neg (by rw [q]; decide)
    have q3 : ofC ⟨d, p, s⟩ b0 = 0 := if_neg (by rw [q]; decide)
    have q4 : ofK ⟨d, p, s⟩ b0 = false := decide_eq_false (by rw [q]; decide)
    rw [q1, q2, q3, q4] at h
    exact h
  have HGO : Hid (∀ w1, Calls Try.prog 11 #[.agg #[.int .i64 d, .int .i64 p, .int .i64 s]] w1 fun e w' => e = .returned (.tuple #[.int .i64 0, .int .i64 0]) ∧ Below w1.heap.size w1 w') := Lib.hid fun w1 => (golden_any ⟨d, p, s⟩ w1).mono fun e w' h => by rw [slot_no hr] at h; exact h
  have HSL : Hid (∀ w1, Calls Try.prog 14 #[.agg #[.int .i64 d, .int .i64 p, .int .i64 s]] w1 fun e w' => e = .returned (.int .i64 0) ∧ Below w1.heap.size w1 w') := Lib.hid fun w1 => (slot_any ⟨d, p, s⟩ w1).mono fun e w' h => by rw [slot_no hr] at h; exact h
  have HAL : Hid (∀ w1, Calls Try.prog 15 #[.agg #[.int .i64 d, .int .i64 p, .int .i64 s]] w1 fun e w' => e = .returned (.int .i64 0) ∧ Below w1.heap.size w1 w') := Lib.hid fun w1 => (all_any ⟨d, p, s⟩ w1).mono fun e w' h => by rw [all, if_neg (by rw [hr]; decide)] at h; exact h
  have HRO : Hid (∀ w1, Calls Try.prog 16 #[.agg #[.int .i64 d, .int .i64 p, .int .i64 s]] w1 fun e w' => e = .returned (.int .i64 0) ∧ Below w1.heap.size w1 w') := Lib.hid fun w1 => (room_any ⟨d, p, s⟩ w1).mono fun e w' h => by rw [room, if_neg (by rw [hr]; decide)] at h; exact h
  have HWI : Hid (∀ w1, Calls Try.prog 17 #[.agg #[.int .i64 d, .int .i64 p, .int .i64 s]] w1 fun e w' => e = .returned (.int .i64 0) ∧ Below w1.heap.size w1 w') := Lib.hid fun w1 => (wide_any ⟨d, p, s⟩ w1).mono fun e w' h => by rw [wide_no hr] at h; exact h
  have HR : Hid (∀ w1, Calls Try.prog 13 #[.agg #[.int .i64 d, .int .i64 p, .int .i64 s]] w1 fun e w' => e = .returned (.bool false) ∧ Below w1.heap.size w1 w') := Lib.hid fun w1 => (right_any ⟨d, p, s⟩ w1).mono fun e w' h => by rw [hr] at h; exact h
  have HRR : Hid (∀ w1, Calls Try.prog 12 #[.agg #[.int .i64 d, .int .i64 p, .int .i64 s]] w1 fun e w' => e = .returned (.bool false) ∧ Below w1.heap.size w1 w') := Lib.hid fun w1 => (rright_any ⟨d, p, s⟩ w1).mono fun e w' h => by rw [hr] at h; exact h
  clear ha hr
  go_enter Try.func3, Try.ntmps3
  go_wp2_with (first
    | ((with_reducible refine wpBoxK [Value.int .i64 d, .int .i64 p, .int .i64 s] 23 ?_ ?_); rfl; intro w1 r1 b1 s1; have RG1 := Lib.hid r1; have B1 := Lib.hid b1; clear r1 b1 s1)
    | ((with_reducible refine wpBoxK [Value.int .i64 a0, .int .i64 a1, .int .i64 a2] 24 ?_ ?_); rfl; intro w2 r2 b2 s2; have RG2 := Lib.hid (RG1.out.step b2); have RA2 := Lib.hid r2; have B2 := Lib.hid (B1.out.next b2); clear r2 b2 s2)
    | ((with_reducible refine wpBoxK [Value.int .i64 b0, .int .i64 b1, .int .i64 b2] 24 ?_ ?_); rfl; intro w3 r3 b3 s3; have RG3 := Lib.hid (RG2.out.step b3); have RA3 := Lib.hid (RA2.out.step b3); have RB3 := Lib.hid r3; have B3 := Lib.hid (B2.out.next b3); clear r3 b3 s3)
    | (go_at_call 6; (with_reducible refine (HAW.out w3).mono ?_); rintro e w4 ⟨rfl, b4⟩; have RG4 := Lib.hid (RG3.out.step b4); have RA4 := Lib.hid (RA3.out.step b4); have RB4 := Lib.hid (RB3.out.step b4); have B4 := Lib.hid (B3.out.next b4); clear b4)
    | ((with_reducible refine RG4.out.wpLoadK 23 fits_geo rfl ?_ ?_); rfl)
    | ((with_reducible refine wpAllocK [Value.int .i64 0, .int .i64 0, .int .i64 0] 26 zero_rgeo ?_ ?_); rfl; intro w5 r5 b5 s5; have RF5 := Lib.hid r5; have RG5 := Lib.hid (RG4.out.step b5); have RA5 := Lib.hid (RA4.out.step b5); have RB5 := Lib.hid (RB4.out.step b5); have B5 := Lib.hid (B4.out.next b5); have HBG := Lib.hid RG4.out.lt; have HBA := Lib.hid RA4.out.lt; have HBB := Lib.hid RB4.out.lt; clear r5 b5 s5)
    | ((with_reducible refine RF5.out.wpStoreK 26 [Value.int .i64 d, .int .i64 p, .int .i64 s] fits_rgeo rfl rfl rfl ?_ ?_); rfl; intro w6 r6 o6 s6; have RF6 := Lib.hid r6; have RG6 := Lib.hid (RG5.out.only o6 (Nat.ne_of_lt HBG.out)); have RA6 := Lib.hid (RA5.out.only o6 (Nat.ne_of_lt HBA.out)); have RB6 := Lib.hid (RB5.out.only o6 (Nat.ne_of_lt HBB.out)); have B6 := Lib.hid (B5.out.trans (o6.below B4.out.size B5.out.size)); have xa0 := RA6.out.cell 0; have xa1 := RA6.out.cell 1; have xa2 := RA6.out.cell 2; clear r6 o6 s6)
    | ((with_reducible refine RG6.out.wpLoadK 23 fits_geo rfl ?_ ?_); rfl)
    | (go_at_call 7; (with_reducible refine (HSE.out w6).mono ?_); rintro e w7 ⟨rfl, b7⟩; have RG7 := Lib.hid (RG6.out.step b7); have RA7 := Lib.hid (RA6.out.step b7); have RB7 := Lib.hid (RB6.out.step b7); have RF7 := Lib.hid (RF6.out.step b7); have B7 := Lib.hid (B6.out.next b7); clear b7 xa0 xa1 xa2; have xa0 := RA7.out.cell 0; have xa1 := RA7.out.cell 1; have xa2 := RA7.out.cell 2; skip)
    | ((with_reducible refine RG7.out.wpLoadK 23 fits_geo rfl ?_ ?_); rfl)
    | (go_at_call 8; (with_reducible refine (HHA.out w7).mono ?_); rintro e w8 ⟨rfl, b8⟩; have RG8 := Lib.hid (RG7.out.step b8); have RA8 := Lib.hid (RA7.out.step b8); have RB8 := Lib.hid (RB7.out.step b8); have RF8 := Lib.hid (RF7.out.step b8); have B8 := Lib.hid (B7.out.next b8); clear b8 xa0 xa1 xa2; have xa0 := RA8.out.cell 0; have xa1 := RA8.out.cell 1; have xa2 := RA8.out.cell 2; skip)
    | ((with_reducible refine RG8.out.wpLoadK 23 fits_geo rfl ?_ ?_); rfl)
    | (go_at_call 9; (with_reducible refine (HTA.out w8).mono ?_); rintro e w9 ⟨rfl, b9⟩; have RG9 := Lib.hid (RG8.out.step b9); have RA9 := Lib.hid (RA8.out.step b9); have RB9 := Lib.hid (RB8.out.step b9); have RF9 := Lib.hid (RF8.out.step b9); have B9 := Lib.hid (B8.out.next b9); clear b9 xa0 xa1 xa2; have xb0 := RB9.out.cell 0; skip)
    | ((with_reducible refine RG9.out.wpLoadK 23 fits_geo rfl ?_ ?_); rfl)
    | (go_at_call 10; (with_reducible refine (HOF.out w9).mono ?_); rintro e w10 ⟨rfl, b10⟩; have RG10 := Lib.hid (RG9.out.step b10); have RA10 := Lib.hid (RA9.out.step b10); have RB10 := Lib.hid (RB9.out.step b10); have RF10 := Lib.hid (RF9.out.step b10); have B10 := Lib.hid (B9.out.next b10); clear b10 xb0; skip)
    | ((with_reducible refine RG10.out.wpLoadK 23 fits_geo rfl ?_ ?_); rfl)
    | (go_at_call 11; (with_reducible refine (HGO.out w10).mono ?_); rintro e w11 ⟨rfl, b11⟩; have RG11 := Lib.hid (RG10.out.step b11); have RA11 := Lib.hid (RA10.out.step b11); have RB11 := Lib.hid (RB10.out.step b11); have RF11 := Lib.hid (RF10.out.step b11); have B11 := Lib.hid (B10.out.next b11); clear b11 ; skip)
    | ((with_reducible refine RG11.out.wpLoadK 23 fits_geo rfl ?_ ?_); rfl)
    | ((with_reducible refine RF11.out.wpLoadK 26 fits_rgeo rfl ?_ ?_); rfl)
    | (go_at_call 12; (with_reducible refine (HRR.out w11).mono ?_); rintro e w12 ⟨rfl, b12⟩; have RG12 := Lib.hid (RG11.out.step b12); have RA12 := Lib.hid (RA11.out.step b12); have RB12 := Lib.hid (RB11.out.step b12); have RF12 := Lib.hid (RF11.out.step b12); have B12 := Lib.hid (B11.out.next b12); clear b12 ; skip))
  have LG : Hid (w.heap.size < w12.heap.size) := Lib.hid RG12.out.lt
  have CG0 : Hid (w12.cell? ⟨w.heap.size, 0, none⟩ = some (.int .i64 d)) := Lib.hid (RG12.out.cell 0)
  have CG1 : Hid (w12.cell? ⟨w.heap.size, 1, none⟩ = some (.int .i64 p)) := Lib.hid (RG12.out.cell 1)
  have CG2 : Hid (w12.cell? ⟨w.heap.size, 2, none⟩ = some (.int .i64 s)) := Lib.hid (RG12.out.cell 2)
  have LA : Hid (w1.heap.size < w12.heap.size) := Lib.hid RA12.out.lt
  have CA0 : Hid (w12.cell? ⟨w1.heap.size, 0, none⟩ = some (.int .i64 a0)) := Lib.hid (RA12.out.cell 0)
  have CA1 : Hid (w12.cell? ⟨w1.heap.size, 1, none⟩ = some (.int .i64 a1)) := Lib.hid (RA12.out.cell 1)
  have CA2 : Hid (w12.cell? ⟨w1.heap.size, 2, none⟩ = some (.int .i64 a2)) := Lib.hid (RA12.out.cell 2)
  have LB : Hid (w2.heap.size < w12.heap.size) := Lib.hid RB12.out.lt
  have CB0 : Hid (w12.cell? ⟨w2.heap.size, 0, none⟩ = some (.int .i64 b0)) := Lib.hid (RB12.out.cell 0)
  have CB1 : Hid (w12.cell? ⟨w2.heap.size, 1, none⟩ = some (.int .i64 b1)) := Lib.hid (RB12.out.cell 1)
  have CB2 : Hid (w12.cell? ⟨w2.heap.size, 2, none⟩ = some (.int .i64 b2)) := Lib.hid (RB12.out.cell 2)
  have LF : Hid (w4.heap.size < w12.heap.size) := Lib.hid RF12.out.lt
  have CF0 : Hid (w12.cell? ⟨w4.heap.size, 0, none⟩ = some (.int .i64 d)) := Lib.hid (RF12.out.cell 0)
  have CF1 : Hid (w12.cell? ⟨w4.heap.size, 1, none⟩ = some (.int .i64 p)) := Lib.hid (RF12.out.cell 1)
  have CF2 : Hid (w12.cell? ⟨w4.heap.size, 2, none⟩ = some (.int .i64 s)) := Lib.hid (RF12.out.cell 2)
  refine region_invX [(0, 68), (1, 69), (2, 70), (3, 71), (4, 72), (5, 73), (6, 74), (7, 75), (8, 76), (9, 77), (10, 78), (11, 79), (12, 80), (13, 81), (14, 82), (15, 83), (16, 84), (17, 85), (18, 86), (19, 87), (20, 88), (21, 89), (22, 90), (23, 91), (24, 92), (25, 93), (26, 94), (27, 95), (28, 96), (29, 97), (30, 98), (31, 99), (32, 100), (33, 101), (34, 102), (35, 103), (36, 104), (37, 105), (38, 106), (39, 107), (40, 108), (41, 109), (42, 110), (43, 111), (44, 112), (45, 113), (46, 114), (47, 115), (48, 116), (49, 6)]
    (fun ii => [Is (.agg #[(.int .i64 d), (.int .i64 p), (.int .i64 s)]), Is (.bool false), Is (.bool true), Is (.bool true), Is (.int .i64 0), Is (.int .i64 0), Is (.int .i64 0), Is (.int .i64 0), Is (.int .i64 0), Is (.int .i64 0), Is (.int .i64 0), Is (.int .i64 0), Is (.int .i64 0), Is (.int .i64 0), Is (.int .i64 0), Is (.int .i64 0), Is (.int .i64 0), Is (.int .i64 0), Is (.int .i64 0), Is (.agg #[(.int .i64 d), (.int .i64 p), (.int .i64 s)]), Is (.int .i64 0), Is (.int .i64 0), Is (.agg #[(.int .i64 d), (.int .i64 p), (.int .i64 s)]), Is (.int .i64 0), Is (.int .i64 0), Is (.agg #[(.int .i64 d), (.int .i64 p), (.int .i64 s)]), Is (.int .i64 0), Is (.int .i64 0), Is (.agg #[(.int .i64 d), (.int .i64 p), (.int .i64 s)]), Is (.int .i64 0), Is (.int .i64 0), Is (.bool true), Is (.bool true), Is (.bool true), Is (.int .i64 1), Is (.bool true), Is (.bool true), Is (.bool true), Is (.int .i64 1), Is (.bool true), Is (.bool true), Is (.bool true), Is (.int .i64 1), Is (.bool true), Is (.bool true), Is (.bool true), Is (.bool false), Is (.bool true), Is (.bool true), Is (.bool true)].getD ii (Is undef))
    (fun w' => Below w12.heap.size w12 w') (by kernel_rfl) (by kernel_rfl) (by decide) (by decide) (by kernel_rfl) rfl ?monon ((Below.refl _ _).drew) ?stepn ?finn
  case monon =>
    intro i
    match i with
    | 0 | 1 | 2 | 3 | 4 | 5 | 6 | 7 | 8 | 9 | 10 | 11 | 12 | 13 | 14 | 15 | 16 | 17 | 18 | 19 | 20 | 21 | 22 | 23 | 24 | 25 | 26 | 27 | 28 | 29 | 30 | 31 | 32 | 33 | 34 | 35 | 36 | 37 | 38 | 39 | 40 | 41 | 42 | 43 | 44 | 45 | 46 | 47 | 48 | 49 => exact Is.monot _
    | _ + 50 => exact Is.monot _
  case stepn =>
    refine List.forall_mem_cons.2 ⟨?ns0, List.forall_mem_cons.2 ⟨?ns1, List.forall_mem_cons.2 ⟨?ns2, List.forall_mem_cons.2 ⟨?ns3, List.forall_mem_cons.2 ⟨?ns4, List.forall_mem_cons.2 ⟨?ns5, List.forall_mem_cons.2 ⟨?ns6, List.forall_mem_cons.2 ⟨?ns7, List.forall_mem_cons.2 ⟨?ns8, List.forall_mem_cons.2 ⟨?ns9, List.forall_mem_cons.2 ⟨?ns10, List.forall_mem_cons.2 ⟨?ns11, List.forall_mem_cons.2 ⟨?ns12, List.forall_mem_cons.2 ⟨?ns13, List.forall_mem_cons.2 ⟨?ns14, List.forall_mem_cons.2 ⟨?ns15, List.forall_mem_cons.2 ⟨?ns16, List.forall_mem_cons.2 ⟨?ns17, List.forall_mem_cons.2 ⟨?ns18, List.forall_mem_cons.2 ⟨?ns19, List.forall_mem_cons.2 ⟨?ns20, List.forall_mem_cons.2 ⟨?ns21, List.forall_mem_cons.2 ⟨?ns22, List.forall_mem_cons.2 ⟨?ns23, List.forall_mem_cons.2 ⟨?ns24, List.forall_mem_cons.2 ⟨?ns25, List.forall_mem_cons.2 ⟨?ns26, List.forall_mem_cons.2 ⟨?ns27, List.forall_mem_cons.2 ⟨?ns28, List.forall_mem_cons.2 ⟨?ns29, List.forall_mem_cons.2 ⟨?ns30, List.forall_mem_cons.2 ⟨?ns31, List.forall_mem_cons.2 ⟨?ns32, List.forall_mem_cons.2 ⟨?ns33, List.forall_mem_cons.2 ⟨?ns34, List.forall_mem_cons.2 ⟨?ns35, List.forall_mem_cons.2 ⟨?ns36, List.forall_mem_cons.2 ⟨?ns37, List.forall_mem_cons.2 ⟨?ns38, List.forall_mem_cons.2 ⟨?ns39, List.forall_mem_cons.2 ⟨?ns40, List.forall_mem_cons.2 ⟨?ns41, List.forall_mem_cons.2 ⟨?ns42, List.forall_mem_cons.2 ⟨?ns43, List.forall_mem_cons.2 ⟨?ns44, List.forall_mem_cons.2 ⟨?ns45, List.forall_mem_cons.2 ⟨?ns46, List.forall_mem_cons.2 ⟨?ns47, List.forall_mem_cons.2 ⟨?ns48, List.forall_mem_cons.2 ⟨?ns49, List.forall_mem_nil _⟩⟩⟩⟩⟩⟩⟩⟩⟩⟩⟩⟩⟩⟩⟩⟩⟩⟩⟩⟩⟩⟩⟩⟩⟩⟩⟩⟩⟩⟩⟩⟩⟩⟩⟩⟩⟩⟩⟩⟩⟩⟩⟩⟩⟩⟩⟩⟩⟩⟩
    case ns0 =>
      intro u wx hg hC
      clear hC
      have hcl0 : wx.cell? ⟨w.heap.size, 0, none⟩ = some (.int .i64 d) := (hg.cell (p := ⟨w.heap.size, 0, none⟩) LG.out).trans CG0.out
      have hcl1 : wx.cell? ⟨w.heap.size, 1, none⟩ = some (.int .i64 p) := (hg.cell (p := ⟨w.heap.size, 1, none⟩) LG.out).trans CG1.out
      have hcl2 : wx.cell? ⟨w.heap.size, 2, none⟩ = some (.int .i64 s) := (hg.cell (p := ⟨w.heap.size, 2, none⟩) LG.out).trans CG2.out
      refine wpOp_step rfl (fun K hK => ?_)
      simp only [puts, List.foldl]
      go_simp
      exact hK _ _ ⟨rfl, rfl, hg, Below.refl _ _⟩
    case ns1 =>
      intro u wx hg hC
      have hJ0 : u 0 = (.agg #[(.int .i64 d), (.int .i64 p), (.int .i64 s)]) := hC.at 0 (by kernel_rfl)
      clear hC
      refine wpOp_step rfl (fun K hK => ?_)
      simp only [puts, List.foldl]
      go_simp
      refine (HR.out wx).mono ?_
      rintro e w' ⟨rfl, hb'⟩
      exact hK _ _ ⟨rfl, rfl, hg.next hb', hb'⟩
    case ns2 =>
      intro u wx hg hC
      have hJ1 : u 1 = (.bool false) := hC.at 1 (by kernel_rfl)
      clear hC
      refine wpOp_step rfl (fun K hK => ?_)
      simp only [puts, List.foldl]
      go_simp
      exact hK _ _ ⟨rfl, rfl, hg, Below.refl _ _⟩
    case ns3 =>
      intro u wx hg hC
      have hJ2 : u 2 = (.bool true) := hC.at 2 (by kernel_rfl)
      clear hC
      refine wpOp_step rfl (fun K hK => ?_)
      simp only [puts, List.foldl]
      go_simp
      exact hK _ _ ⟨rfl, rfl, hg, Below.refl _ _⟩
    case ns4 =>
      intro u wx hg hC
      have hJ3 : u 3 = (.bool true) := hC.at 3 (by kernel_rfl)
      clear hC
      generalize hA : puts [(0, 68), (1, 69), (2, 70), (3, 71), (4, 72), (5, 73), (6, 74), (7, 75), (8, 76), (9, 77), (10, 78), (11, 79), (12, 80), (13, 81), (14, 82), (15, 83), (16, 84), (17, 85), (18, 86), (19, 87), (20, 88), (21, 89), (22, 90), (23, 91), (24, 92), (25, 93), (26, 94), (27, 95), (28, 96), (29, 97), (30, 98), (31, 99), (32, 100), (33, 101), (34, 102), (35, 103), (36, 104), (37, 105), (38, 106), (39, 107), (40, 108), (41, 109), (42, 110), (43, 111), (44, 112), (45, 113), (46, 114), (47, 115), (48, 116), (49, 6)] _ u = A
      have hgv : A.tmps.getD 71 undef = .bool true := by rw [← hA]; exact (puts_get u 3 71 _ _ (by decide) (by decide) (by kernel_rfl)).trans hJ3
      have hgs : 71 < A.tmps.size := by rw [← hA]; exact puts_room u (by kernel_rfl)
      refine wpOp_guard rfl 3 71 true rfl rfl hgs hgv (fun K hK => ?_)
      subst hA
      simp only [puts, List.foldl]
      go_simp
      exact hK _ _ ⟨rfl, rfl, hg, Below.refl _ _⟩
    case ns5 =>
      intro u wx hg hC
      have hJ3 : u 3 = (.bool true) := hC.at 3 (by kernel_rfl)
      clear hC
      generalize hA : puts [(0, 68), (1, 69), (2, 70), (3, 71), (4, 72), (5, 73), (6, 74), (7, 75), (8, 76), (9, 77), (10, 78), (11, 79), (12, 80), (13, 81), (14, 82), (15, 83), (16, 84), (17, 85), (18, 86), (19, 87), (20, 88), (21, 89), (22, 90), (23, 91), (24, 92), (25, 93), (26, 94), (27, 95), (28, 96), (29, 97), (30, 98), (31, 99), (32, 100), (33, 101), (34, 102), (35, 103), (36, 104), (37, 105), (38, 106), (39, 107), (40, 108), (41, 109), (42, 110), (43, 111), (44, 112), (45, 113), (46, 114), (47, 115), (48, 116), (49, 6)] _ u = A
      have hgv : A.tmps.getD 71 undef = .bool true := by rw [← hA]; exact (puts_get u 3 71 _ _ (by decide) (by decide) (by kernel_rfl)).trans hJ3
      have hgs : 71 < A.tmps.size := by rw [← hA]; exact puts_room u (by kernel_rfl)
      refine wpOp_guard rfl 3 71 true rfl rfl hgs hgv (fun K hK => ?_)
      subst hA
      simp only [puts, List.foldl]
      go_simp
      exact hK _ _ ⟨rfl, rfl, hg, Below.refl _ _⟩
    case ns6 =>
      intro u wx hg hC
      have hJ3 : u 3 = (.bool true) := hC.at 3 (by kernel_rfl)
      have hJ4 : u 4 = (.int .i64 0) := hC.at 4 (by kernel_rfl)
      have hJ5 : u 5 = (.int .i64 0) := hC.at 5 (by kernel_rfl)
      clear hC
      generalize hA : puts [(0, 68), (1, 69), (2, 70), (3, 71), (4, 72), (5, 73), (6, 74), (7, 75), (8, 76), (9, 77), (10, 78), (11, 79), (12, 80), (13, 81), (14, 82), (15, 83), (16, 84), (17, 85), (18, 86), (19, 87), (20, 88), (21, 89), (22, 90), (23, 91), (24, 92), (25, 93), (26, 94), (27, 95), (28, 96), (29, 97), (30, 98), (31, 99), (32, 100), (33, 101), (34, 102), (35, 103), (36, 104), (37, 105), (38, 106), (39, 107), (40, 108), (41, 109), (42, 110), (43, 111), (44, 112), (45, 113), (46, 114), (47, 115), (48, 116), (49, 6)] _ u = A
      have hgv : A.tmps.getD 71 undef = .bool true := by rw [← hA]; exact (puts_get u 3 71 _ _ (by decide) (by decide) (by kernel_rfl)).trans hJ3
      have hgs : 71 < A.tmps.size := by rw [← hA]; exact puts_room u (by kernel_rfl)
      refine wpOp_guard rfl 3 71 true rfl rfl hgs hgv (fun K hK => ?_)
      subst hA
      simp only [puts, List.foldl]
      go_simp
      exact hK _ _ ⟨rfl, rfl, hg, Below.refl _ _⟩
    case ns7 =>
      intro u wx hg hC
      have hJ3 : u 3 = (.bool true) := hC.at 3 (by kernel_rfl)
      clear hC
      generalize hA : puts [(0, 68), (1, 69), (2, 70), (3, 71), (4, 72), (5, 73), (6, 74), (7, 75), (8, 76), (9, 77), (10, 78), (11, 79), (12, 80), (13, 81), (14, 82), (15, 83), (16, 84), (17, 85), (18, 86), (19, 87), (20, 88), (21, 89), (22, 90), (23, 91), (24, 92), (25, 93), (26, 94), (27, 95), (28, 96), (29, 97), (30, 98), (31, 99), (32, 100), (33, 101), (34, 102), (35, 103), (36, 104), (37, 105), (38, 106), (39, 107), (40, 108), (41, 109), (42, 110), (43, 111), (44, 112), (45, 113), (46, 114), (47, 115), (48, 116), (49, 6)] _ u = A
      have hgv : A.tmps.getD 71 undef = .bool true := by rw [← hA]; exact (puts_get u 3 71 _ _ (by decide) (by decide) (by kernel_rfl)).trans hJ3
      have hgs : 71 < A.tmps.size := by rw [← hA]; exact puts_room u (by kernel_rfl)
      refine wpOp_guard rfl 3 71 true rfl rfl hgs hgv (fun K hK => ?_)
      subst hA
      simp only [puts, List.foldl]
      go_simp
      exact hK _ _ ⟨rfl, rfl, hg, Below.refl _ _⟩
    case ns8 =>
      intro u wx hg hC
      have hJ3 : u 3 = (.bool true) := hC.at 3 (by kernel_rfl)
      have hJ6 : u 6 = (.int .i64 0) := hC.at 6 (by kernel_rfl)
      have hJ7 : u 7 = (.int .i64 0) := hC.at 7 (by kernel_rfl)
      clear hC
      generalize hA : puts [(0, 68), (1, 69), (2, 70), (3, 71), (4, 72), (5, 73), (6, 74), (7, 75), (8, 76), (9, 77), (10, 78), (11, 79), (12, 80), (13, 81), (14, 82), (15, 83), (16, 84), (17, 85), (18, 86), (19, 87), (20, 88), (21, 89), (22, 90), (23, 91), (24, 92), (25, 93), (26, 94), (27, 95), (28, 96), (29, 97), (30, 98), (31, 99), (32, 100), (33, 101), (34, 102), (35, 103), (36, 104), (37, 105), (38, 106), (39, 107), (40, 108), (41, 109), (42, 110), (43, 111), (44, 112), (45, 113), (46, 114), (47, 115), (48, 116), (49, 6)] _ u = A
      have hgv : A.tmps.getD 71 undef = .bool true := by rw [← hA]; exact (puts_get u 3 71 _ _ (by decide) (by decide) (by kernel_rfl)).trans hJ3
      have hgs : 71 < A.tmps.size := by rw [← hA]; exact puts_room u (by kernel_rfl)
      refine wpOp_guard rfl 3 71 true rfl rfl hgs hgv (fun K hK => ?_)
      subst hA
      simp only [puts, List.foldl]
      go_simp
      exact hK _ _ ⟨rfl, rfl, hg, Below.refl _ _⟩
    case ns9 =>
      intro u wx hg hC
      have hJ3 : u 3 = (.bool true) := hC.at 3 (by kernel_rfl)
      clear hC
      generalize hA : puts [(0, 68), (1, 69), (2, 70), (3, 71), (4, 72), (5, 73), (6, 74), (7, 75), (8, 76), (9, 77), (10, 78), (11, 79), (12, 80), (13, 81), (14, 82), (15, 83), (16, 84), (17, 85), (18, 86), (19, 87), (20, 88), (21, 89), (22, 90), (23, 91), (24, 92), (25, 93), (26, 94), (27, 95), (28, 96), (29, 97), (30, 98), (31, 99), (32, 100), (33, 101), (34, 102), (35, 103), (36, 104), (37, 105), (38, 106), (39, 107), (40, 108), (41, 109), (42, 110), (43, 111), (44, 112), (45, 113), (46, 114), (47, 115), (48, 116), (49, 6)] _ u = A
      have hgv : A.tmps.getD 71 undef = .bool true := by rw [← hA]; exact (puts_get u 3 71 _ _ (by decide) (by decide) (by kernel_rfl)).trans hJ3
      have hgs : 71 < A.tmps.size := by rw [← hA]; exact puts_room u (by kernel_rfl)
      refine wpOp_guard rfl 3 71 true rfl rfl hgs hgv (fun K hK => ?_)
      subst hA
      simp only [puts, List.foldl]
      go_simp
      exact hK _ _ ⟨rfl, rfl, hg, Below.refl _ _⟩
    case ns10 =>
      intro u wx hg hC
      have hJ3 : u 3 = (.bool true) := hC.at 3 (by kernel_rfl)
      have hJ8 : u 8 = (.int .i64 0) := hC.at 8 (by kernel_rfl)
      have hJ9 : u 9 = (.int .i64 0) := hC.at 9 (by kernel_rfl)
      clear hC
      generalize hA : puts [(0, 68), (1, 69), (2, 70), (3, 71), (4, 72), (5, 73), (6, 74), (7, 75), (8, 76), (9, 77), (10, 78), (11, 79), (12, 80), (13, 81), (14, 82), (15, 83), (16, 84), (17, 85), (18, 86), (19, 87), (20, 88), (21, 89), (22, 90), (23, 91), (24, 92), (25, 93), (26, 94), (27, 95), (28, 96), (29, 97), (30, 98), (31, 99), (32, 100), (33, 101), (34, 102), (35, 103), (36, 104), (37, 105), (38, 106), (39, 107), (40, 108), (41, 109), (42, 110), (43, 111), (44, 112), (45, 113), (46, 114), (47, 115), (48, 116), (49, 6)] _ u = A
      have hgv : A.tmps.getD 71 undef = .bool true := by rw [← hA]; exact (puts_get u 3 71 _ _ (by decide) (by decide) (by kernel_rfl)).trans hJ3
      have hgs : 71 < A.tmps.size := by rw [← hA]; exact puts_room u (by kernel_rfl)
      refine wpOp_guard rfl 3 71 true rfl rfl hgs hgv (fun K hK => ?_)
      subst hA
      simp only [puts, List.foldl]
      go_simp
      exact hK _ _ ⟨rfl, rfl, hg, Below.refl _ _⟩
    case ns11 =>
      intro u wx hg hC
      have hJ3 : u 3 = (.bool true) := hC.at 3 (by kernel_rfl)
      clear hC
      generalize hA : puts [(0, 68), (1, 69), (2, 70), (3, 71), (4, 72), (5, 73), (6, 74), (7, 75), (8, 76), (9, 77), (10, 78), (11, 79), (12, 80), (13, 81), (14, 82), (15, 83), (16, 84), (17, 85), (18, 86), (19, 87), (20, 88), (21, 89), (22, 90), (23, 91), (24, 92), (25, 93), (26, 94), (27, 95), (28, 96), (29, 97), (30, 98), (31, 99), (32, 100), (33, 101), (34, 102), (35, 103), (36, 104), (37, 105), (38, 106), (39, 107), (40, 108), (41, 109), (42, 110), (43, 111), (44, 112), (45, 113), (46, 114), (47, 115), (48, 116), (49, 6)] _ u = A
      have hgv : A.tmps.getD 71 undef = .bool true := by rw [← hA]; exact (puts_get u 3 71 _ _ (by decide) (by decide) (by kernel_rfl)).trans hJ3
      have hgs : 71 < A.tmps.size := by rw [← hA]; exact puts_room u (by kernel_rfl)
      refine wpOp_guard rfl 3 71 true rfl rfl hgs hgv (fun K hK => ?_)
      subst hA
      simp only [puts, List.foldl]
      go_simp
      exact hK _ _ ⟨rfl, rfl, hg, Below.refl _ _⟩
    case ns12 =>
      intro u wx hg hC
      have hJ3 : u 3 = (.bool true) := hC.at 3 (by kernel_rfl)
      have hJ10 : u 10 = (.int .i64 0) := hC.at 10 (by kernel_rfl)
      have hJ11 : u 11 = (.int .i64 0) := hC.at 11 (by kernel_rfl)
      clear hC
      generalize hA : puts [(0, 68), (1, 69), (2, 70), (3, 71), (4, 72), (5, 73), (6, 74), (7, 75), (8, 76), (9, 77), (10, 78), (11, 79), (12, 80), (13, 81), (14, 82), (15, 83), (16, 84), (17, 85), (18, 86), (19, 87), (20, 88), (21, 89), (22, 90), (23, 91), (24, 92), (25, 93), (26, 94), (27, 95), (28, 96), (29, 97), (30, 98), (31, 99), (32, 100), (33, 101), (34, 102), (35, 103), (36, 104), (37, 105), (38, 106), (39, 107), (40, 108), (41, 109), (42, 110), (43, 111), (44, 112), (45, 113), (46, 114), (47, 115), (48, 116), (49, 6)] _ u = A
      have hgv : A.tmps.getD 71 undef = .bool true := by rw [← hA]; exact (puts_get u 3 71 _ _ (by decide) (by decide) (by kernel_rfl)).trans hJ3
      have hgs : 71 < A.tmps.size := by rw [← hA]; exact puts_room u (by kernel_rfl)
      refine wpOp_guard rfl 3 71 true rfl rfl hgs hgv (fun K hK => ?_)
      subst hA
      simp only [puts, List.foldl]
      go_simp
      exact hK _ _ ⟨rfl, rfl, hg, Below.refl _ _⟩
    case ns13 =>
      intro u wx hg hC
      have hJ3 : u 3 = (.bool true) := hC.at 3 (by kernel_rfl)
      clear hC
      generalize hA : puts [(0, 68), (1, 69), (2, 70), (3, 71), (4, 72), (5, 73), (6, 74), (7, 75), (8, 76), (9, 77), (10, 78), (11, 79), (12, 80), (13, 81), (14, 82), (15, 83), (16, 84), (17, 85), (18, 86), (19, 87), (20, 88), (21, 89), (22, 90), (23, 91), (24, 92), (25, 93), (26, 94), (27, 95), (28, 96), (29, 97), (30, 98), (31, 99), (32, 100), (33, 101), (34, 102), (35, 103), (36, 104), (37, 105), (38, 106), (39, 107), (40, 108), (41, 109), (42, 110), (43, 111), (44, 112), (45, 113), (46, 114), (47, 115), (48, 116), (49, 6)] _ u = A
      have hgv : A.tmps.getD 71 undef = .bool true := by rw [← hA]; exact (puts_get u 3 71 _ _ (by decide) (by decide) (by kernel_rfl)).trans hJ3
      have hgs : 71 < A.tmps.size := by rw [← hA]; exact puts_room u (by kernel_rfl)
      refine wpOp_guard rfl 3 71 true rfl rfl hgs hgv (fun K hK => ?_)
      subst hA
      simp only [puts, List.foldl]
      go_simp
      exact hK _ _ ⟨rfl, rfl, hg, Below.refl _ _⟩
    case ns14 =>
      intro u wx hg hC
      have hJ3 : u 3 = (.bool true) := hC.at 3 (by kernel_rfl)
      have hJ12 : u 12 = (.int .i64 0) := hC.at 12 (by kernel_rfl)
      have hJ13 : u 13 = (.int .i64 0) := hC.at 13 (by kernel_rfl)
      clear hC
      generalize hA : puts [(0, 68), (1, 69), (2, 70), (3, 71), (4, 72), (5, 73), (6, 74), (7, 75), (8, 76), (9, 77), (10, 78), (11, 79), (12, 80), (13, 81), (14, 82), (15, 83), (16, 84), (17, 85), (18, 86), (19, 87), (20, 88), (21, 89), (22, 90), (23, 91), (24, 92), (25, 93), (26, 94), (27, 95), (28, 96), (29, 97), (30, 98), (31, 99), (32, 100), (33, 101), (34, 102), (35, 103), (36, 104), (37, 105), (38, 106), (39, 107), (40, 108), (41, 109), (42, 110), (43, 111), (44, 112), (45, 113), (46, 114), (47, 115), (48, 116), (49, 6)] _ u = A
      have hgv : A.tmps.getD 71 undef = .bool true := by rw [← hA]; exact (puts_get u 3 71 _ _ (by decide) (by decide) (by kernel_rfl)).trans hJ3
      have hgs : 71 < A.tmps.size := by rw [← hA]; exact puts_room u (by kernel_rfl)
      refine wpOp_guard rfl 3 71 true rfl rfl hgs hgv (fun K hK => ?_)
      subst hA
      simp only [puts, List.foldl]
      go_simp
      exact hK _ _ ⟨rfl, rfl, hg, Below.refl _ _⟩
    case ns15 =>
      intro u wx hg hC
      have hJ3 : u 3 = (.bool true) := hC.at 3 (by kernel_rfl)
      clear hC
      generalize hA : puts [(0, 68), (1, 69), (2, 70), (3, 71), (4, 72), (5, 73), (6, 74), (7, 75), (8, 76), (9, 77), (10, 78), (11, 79), (12, 80), (13, 81), (14, 82), (15, 83), (16, 84), (17, 85), (18, 86), (19, 87), (20, 88), (21, 89), (22, 90), (23, 91), (24, 92), (25, 93), (26, 94), (27, 95), (28, 96), (29, 97), (30, 98), (31, 99), (32, 100), (33, 101), (34, 102), (35, 103), (36, 104), (37, 105), (38, 106), (39, 107), (40, 108), (41, 109), (42, 110), (43, 111), (44, 112), (45, 113), (46, 114), (47, 115), (48, 116), (49, 6)] _ u = A
      have hgv : A.tmps.getD 71 undef = .bool true := by rw [← hA]; exact (puts_get u 3 71 _ _ (by decide) (by decide) (by kernel_rfl)).trans hJ3
      have hgs : 71 < A.tmps.size := by rw [← hA]; exact puts_room u (by kernel_rfl)
      refine wpOp_guard rfl 3 71 true rfl rfl hgs hgv (fun K hK => ?_)
      subst hA
      simp only [puts, List.foldl]
      go_simp
      exact hK _ _ ⟨rfl, rfl, hg, Below.refl _ _⟩
    case ns16 =>
      intro u wx hg hC
      have hJ3 : u 3 = (.bool true) := hC.at 3 (by kernel_rfl)
      have hJ14 : u 14 = (.int .i64 0) := hC.at 14 (by kernel_rfl)
      have hJ15 : u 15 = (.int .i64 0) := hC.at 15 (by kernel_rfl)
      clear hC
      generalize hA : puts [(0, 68), (1, 69), (2, 70), (3, 71), (4, 72), (5, 73), (6, 74), (7, 75), (8, 76), (9, 77), (10, 78), (11, 79), (12, 80), (13, 81), (14, 82), (15, 83), (16, 84), (17, 85), (18, 86), (19, 87), (20, 88), (21, 89), (22, 90), (23, 91), (24, 92), (25, 93), (26, 94), (27, 95), (28, 96), (29, 97), (30, 98), (31, 99), (32, 100), (33, 101), (34, 102), (35, 103), (36, 104), (37, 105), (38, 106), (39, 107), (40, 108), (41, 109), (42, 110), (43, 111), (44, 112), (45, 113), (46, 114), (47, 115), (48, 116), (49, 6)] _ u = A
      have hgv : A.tmps.getD 71 undef = .bool true := by rw [← hA]; exact (puts_get u 3 71 _ _ (by decide) (by decide) (by kernel_rfl)).trans hJ3
      have hgs : 71 < A.tmps.size := by rw [← hA]; exact puts_room u (by kernel_rfl)
      refine wpOp_guard rfl 3 71 true rfl rfl hgs hgv (fun K hK => ?_)
      subst hA
      simp only [puts, List.foldl]
      go_simp
      exact hK _ _ ⟨rfl, rfl, hg, Below.refl _ _⟩
    case ns17 =>
      intro u wx hg hC
      have hJ3 : u 3 = (.bool true) := hC.at 3 (by kernel_rfl)
      clear hC
      generalize hA : puts [(0, 68), (1, 69), (2, 70), (3, 71), (4, 72), (5, 73), (6, 74), (7, 75), (8, 76), (9, 77), (10, 78), (11, 79), (12, 80), (13, 81), (14, 82), (15, 83), (16, 84), (17, 85), (18, 86), (19, 87), (20, 88), (21, 89), (22, 90), (23, 91), (24, 92), (25, 93), (26, 94), (27, 95), (28, 96), (29, 97), (30, 98), (31, 99), (32, 100), (33, 101), (34, 102), (35, 103), (36, 104), (37, 105), (38, 106), (39, 107), (40, 108), (41, 109), (42, 110), (43, 111), (44, 112), (45, 113), (46, 114), (47, 115), (48, 116), (49, 6)] _ u = A
      have hgv : A.tmps.getD 71 undef = .bool true := by rw [← hA]; exact (puts_get u 3 71 _ _ (by decide) (by decide) (by kernel_rfl)).trans hJ3
      have hgs : 71 < A.tmps.size := by rw [← hA]; exact puts_room u (by kernel_rfl)
      refine wpOp_guard rfl 3 71 true rfl rfl hgs hgv (fun K hK => ?_)
      subst hA
      simp only [puts, List.foldl]
      go_simp
      exact hK _ _ ⟨rfl, rfl, hg, Below.refl _ _⟩
    case ns18 =>
      intro u wx hg hC
      have hJ3 : u 3 = (.bool true) := hC.at 3 (by kernel_rfl)
      have hJ16 : u 16 = (.int .i64 0) := hC.at 16 (by kernel_rfl)
      have hJ17 : u 17 = (.int .i64 0) := hC.at 17 (by kernel_rfl)
      clear hC
      generalize hA : puts [(0, 68), (1, 69), (2, 70), (3, 71), (4, 72), (5, 73), (6, 74), (7, 75), (8, 76), (9, 77), (10, 78), (11, 79), (12, 80), (13, 81), (14, 82), (15, 83), (16, 84), (17, 85), (18, 86), (19, 87), (20, 88), (21, 89), (22, 90), (23, 91), (24, 92), (25, 93), (26, 94), (27, 95), (28, 96), (29, 97), (30, 98), (31, 99), (32, 100), (33, 101), (34, 102), (35, 103), (36, 104), (37, 105), (38, 106), (39, 107), (40, 108), (41, 109), (42, 110), (43, 111), (44, 112), (45, 113), (46, 114), (47, 115), (48, 116), (49, 6)] _ u = A
      have hgv : A.tmps.getD 71 undef = .bool true := by rw [← hA]; exact (puts_get u 3 71 _ _ (by decide) (by decide) (by kernel_rfl)).trans hJ3
      have hgs : 71 < A.tmps.size := by rw [← hA]; exact puts_room u (by kernel_rfl)
      refine wpOp_guard rfl 3 71 true rfl rfl hgs hgv (fun K hK => ?_)
      subst hA
      simp only [puts, List.foldl]
      go_simp
      exact hK _ _ ⟨rfl, rfl, hg, Below.refl _ _⟩
    case ns19 =>
      intro u wx hg hC
      have hJ3 : u 3 = (.bool true) := hC.at 3 (by kernel_rfl)
      clear hC
      have hcl0 : wx.cell? ⟨w.heap.size, 0, none⟩ = some (.int .i64 d) := (hg.cell (p := ⟨w.heap.size, 0, none⟩) LG.out).trans CG0.out
      have hcl1 : wx.cell? ⟨w.heap.size, 1, none⟩ = some (.int .i64 p) := (hg.cell (p := ⟨w.heap.size, 1, none⟩) LG.out).trans CG1.out
      have hcl2 : wx.cell? ⟨w.heap.size, 2, none⟩ = some (.int .i64 s) := (hg.cell (p := ⟨w.heap.size, 2, none⟩) LG.out).trans CG2.out
      generalize hA : puts [(0, 68), (1, 69), (2, 70), (3, 71), (4, 72), (5, 73), (6, 74), (7, 75), (8, 76), (9, 77), (10, 78), (11, 79), (12, 80), (13, 81), (14, 82), (15, 83), (16, 84), (17, 85), (18, 86), (19, 87), (20, 88), (21, 89), (22, 90), (23, 91), (24, 92), (25, 93), (26, 94), (27, 95), (28, 96), (29, 97), (30, 98), (31, 99), (32, 100), (33, 101), (34, 102), (35, 103), (36, 104), (37, 105), (38, 106), (39, 107), (40, 108), (41, 109), (42, 110), (43, 111), (44, 112), (45, 113), (46, 114), (47, 115), (48, 116), (49, 6)] _ u = A
      have hgv : A.tmps.getD 71 undef = .bool true := by rw [← hA]; exact (puts_get u 3 71 _ _ (by decide) (by decide) (by kernel_rfl)).trans hJ3
      have hgs : 71 < A.tmps.size := by rw [← hA]; exact puts_room u (by kernel_rfl)
      refine wpOp_guard rfl 3 71 true rfl rfl hgs hgv (fun K hK => ?_)
      subst hA
      simp only [puts, List.foldl]
      go_simp
      exact hK _ _ ⟨rfl, rfl, hg, Below.refl _ _⟩
    case ns20 =>
      intro u wx hg hC
      have hJ3 : u 3 = (.bool true) := hC.at 3 (by kernel_rfl)
      have hJ19 : u 19 = (.agg #[(.int .i64 d), (.int .i64 p), (.int .i64 s)]) := hC.at 19 (by kernel_rfl)
      clear hC
      generalize hA : puts [(0, 68), (1, 69), (2, 70), (3, 71), (4, 72), (5, 73), (6, 74), (7, 75), (8, 76), (9, 77), (10, 78), (11, 79), (12, 80), (13, 81), (14, 82), (15, 83), (16, 84), (17, 85), (18, 86), (19, 87), (20, 88), (21, 89), (22, 90), (23, 91), (24, 92), (25, 93), (26, 94), (27, 95), (28, 96), (29, 97), (30, 98), (31, 99), (32, 100), (33, 101), (34, 102), (35, 103), (36, 104), (37, 105), (38, 106), (39, 107), (40, 108), (41, 109), (42, 110), (43, 111), (44, 112), (45, 113), (46, 114), (47, 115), (48, 116), (49, 6)] _ u = A
      have hgv : A.tmps.getD 71 undef = .bool true := by rw [← hA]; exact (puts_get u 3 71 _ _ (by decide) (by decide) (by kernel_rfl)).trans hJ3
      have hgs : 71 < A.tmps.size := by rw [← hA]; exact puts_room u (by kernel_rfl)
      refine wpOp_guard rfl 3 71 true rfl rfl hgs hgv (fun K hK => ?_)
      subst hA
      simp only [puts, List.foldl]
      go_simp
      refine (HSL.out wx).mono ?_
      rintro e w' ⟨rfl, hb'⟩
      exact hK _ _ ⟨rfl, rfl, hg.next hb', hb'⟩
    case ns21 =>
      intro u wx hg hC
      have hJ3 : u 3 = (.bool true) := hC.at 3 (by kernel_rfl)
      have hJ18 : u 18 = (.int .i64 0) := hC.at 18 (by kernel_rfl)
      have hJ20 : u 20 = (.int .i64 0) := hC.at 20 (by kernel_rfl)
      clear hC
      generalize hA : puts [(0, 68), (1, 69), (2, 70), (3, 71), (4, 72), (5, 73), (6, 74), (7, 75), (8, 76), (9, 77), (10, 78), (11, 79), (12, 80), (13, 81), (14, 82), (15, 83), (16, 84), (17, 85), (18, 86), (19, 87), (20, 88), (21, 89), (22, 90), (23, 91), (24, 92), (25, 93), (26, 94), (27, 95), (28, 96), (29, 97), (30, 98), (31, 99), (32, 100), (33, 101), (34, 102), (35, 103), (36, 104), (37, 105), (38, 106), (39, 107), (40, 108), (41, 109), (42, 110), (43, 111), (44, 112), (45, 113), (46, 114), (47, 115), (48, 116), (49, 6)] _ u = A
      have hgv : A.tmps.getD 71 undef = .bool true := by rw [← hA]; exact (puts_get u 3 71 _ _ (by decide) (by decide) (by kernel_rfl)).trans hJ3
      have hgs : 71 < A.tmps.size := by rw [← hA]; exact puts_room u (by kernel_rfl)
      refine wpOp_guard rfl 3 71 true rfl rfl hgs hgv (fun K hK => ?_)
      subst hA
      simp only [puts, List.foldl]
      go_simp
      exact hK _ _ ⟨rfl, rfl, hg, Below.refl _ _⟩
    case ns22 =>
      intro u wx hg hC
      have hJ3 : u 3 = (.bool true) := hC.at 3 (by kernel_rfl)
      clear hC
      have hcl0 : wx.cell? ⟨w.heap.size, 0, none⟩ = some (.int .i64 d) := (hg.cell (p := ⟨w.heap.size, 0, none⟩) LG.out).trans CG0.out
      have hcl1 : wx.cell? ⟨w.heap.size, 1, none⟩ = some (.int .i64 p) := (hg.cell (p := ⟨w.heap.size, 1, none⟩) LG.out).trans CG1.out
      have hcl2 : wx.cell? ⟨w.heap.size, 2, none⟩ = some (.int .i64 s) := (hg.cell (p := ⟨w.heap.size, 2, none⟩) LG.out).trans CG2.out
      generalize hA : puts [(0, 68), (1, 69), (2, 70), (3, 71), (4, 72), (5, 73), (6, 74), (7, 75), (8, 76), (9, 77), (10, 78), (11, 79), (12, 80), (13, 81), (14, 82), (15, 83), (16, 84), (17, 85), (18, 86), (19, 87), (20, 88), (21, 89), (22, 90), (23, 91), (24, 92), (25, 93), (26, 94), (27, 95), (28, 96), (29, 97), (30, 98), (31, 99), (32, 100), (33, 101), (34, 102), (35, 103), (36, 104), (37, 105), (38, 106), (39, 107), (40, 108), (41, 109), (42, 110), (43, 111), (44, 112), (45, 113), (46, 114), (47, 115), (48, 116), (49, 6)] _ u = A
      have hgv : A.tmps.getD 71 undef = .bool true := by rw [← hA]; exact (puts_get u 3 71 _ _ (by decide) (by decide) (by kernel_rfl)).trans hJ3
      have hgs : 71 < A.tmps.size := by rw [← hA]; exact puts_room u (by kernel_rfl)
      refine wpOp_guard rfl 3 71 true rfl rfl hgs hgv (fun K hK => ?_)
      subst hA
      simp only [puts, List.foldl]
      go_simp
      exact hK _ _ ⟨rfl, rfl, hg, Below.refl _ _⟩
    case ns23 =>
      intro u wx hg hC
      have hJ3 : u 3 = (.bool true) := hC.at 3 (by kernel_rfl)
      have hJ22 : u 22 = (.agg #[(.int .i64 d), (.int .i64 p), (.int .i64 s)]) := hC.at 22 (by kernel_rfl)
      clear hC
      generalize hA : puts [(0, 68), (1, 69), (2, 70), (3, 71), (4, 72), (5, 73), (6, 74), (7, 75), (8, 76), (9, 77), (10, 78), (11, 79), (12, 80), (13, 81), (14, 82), (15, 83), (16, 84), (17, 85), (18, 86), (19, 87), (20, 88), (21, 89), (22, 90), (23, 91), (24, 92), (25, 93), (26, 94), (27, 95), (28, 96), (29, 97), (30, 98), (31, 99), (32, 100), (33, 101), (34, 102), (35, 103), (36, 104), (37, 105), (38, 106), (39, 107), (40, 108), (41, 109), (42, 110), (43, 111), (44, 112), (45, 113), (46, 114), (47, 115), (48, 116), (49, 6)] _ u = A
      have hgv : A.tmps.getD 71 undef = .bool true := by rw [← hA]; exact (puts_get u 3 71 _ _ (by decide) (by decide) (by kernel_rfl)).trans hJ3
      have hgs : 71 < A.tmps.size := by rw [← hA]; exact puts_room u (by kernel_rfl)
      refine wpOp_guard rfl 3 71 true rfl rfl hgs hgv (fun K hK => ?_)
      subst hA
      simp only [puts, List.foldl]
      go_simp
      refine (HAL.out wx).mono ?_
      rintro e w' ⟨rfl, hb'⟩
      exact hK _ _ ⟨rfl, rfl, hg.next hb', hb'⟩
    case ns24 =>
      intro u wx hg hC
      have hJ3 : u 3 = (.bool true) := hC.at 3 (by kernel_rfl)
      have hJ21 : u 21 = (.int .i64 0) := hC.at 21 (by kernel_rfl)
      have hJ23 : u 23 = (.int .i64 0) := hC.at 23 (by kernel_rfl)
      clear hC
      generalize hA : puts [(0, 68), (1, 69), (2, 70), (3, 71), (4, 72), (5, 73), (6, 74), (7, 75), (8, 76), (9, 77), (10, 78), (11, 79), (12, 80), (13, 81), (14, 82), (15, 83), (16, 84), (17, 85), (18, 86), (19, 87), (20, 88), (21, 89), (22, 90), (23, 91), (24, 92), (25, 93), (26, 94), (27, 95), (28, 96), (29, 97), (30, 98), (31, 99), (32, 100), (33, 101), (34, 102), (35, 103), (36, 104), (37, 105), (38, 106), (39, 107), (40, 108), (41, 109), (42, 110), (43, 111), (44, 112), (45, 113), (46, 114), (47, 115), (48, 116), (49, 6)] _ u = A
      have hgv : A.tmps.getD 71 undef = .bool true := by rw [← hA]; exact (puts_get u 3 71 _ _ (by decide) (by decide) (by kernel_rfl)).trans hJ3
      have hgs : 71 < A.tmps.size := by rw [← hA]; exact puts_room u (by kernel_rfl)
      refine wpOp_guard rfl 3 71 true rfl rfl hgs hgv (fun K hK => ?_)
      subst hA
      simp only [puts, List.foldl]
      go_simp
      exact hK _ _ ⟨rfl, rfl, hg, Below.refl _ _⟩
    case ns25 =>
      intro u wx hg hC
      have hJ3 : u 3 = (.bool true) := hC.at 3 (by kernel_rfl)
      clear hC
      have hcl0 : wx.cell? ⟨w.heap.size, 0, none⟩ = some (.int .i64 d) := (hg.cell (p := ⟨w.heap.size, 0, none⟩) LG.out).trans CG0.out
      have hcl1 : wx.cell? ⟨w.heap.size, 1, none⟩ = some (.int .i64 p) := (hg.cell (p := ⟨w.heap.size, 1, none⟩) LG.out).trans CG1.out
      have hcl2 : wx.cell? ⟨w.heap.size, 2, none⟩ = some (.int .i64 s) := (hg.cell (p := ⟨w.heap.size, 2, none⟩) LG.out).trans CG2.out
      generalize hA : puts [(0, 68), (1, 69), (2, 70), (3, 71), (4, 72), (5, 73), (6, 74), (7, 75), (8, 76), (9, 77), (10, 78), (11, 79), (12, 80), (13, 81), (14, 82), (15, 83), (16, 84), (17, 85), (18, 86), (19, 87), (20, 88), (21, 89), (22, 90), (23, 91), (24, 92), (25, 93), (26, 94), (27, 95), (28, 96), (29, 97), (30, 98), (31, 99), (32, 100), (33, 101), (34, 102), (35, 103), (36, 104), (37, 105), (38, 106), (39, 107), (40, 108), (41, 109), (42, 110), (43, 111), (44, 112), (45, 113), (46, 114), (47, 115), (48, 116), (49, 6)] _ u = A
      have hgv : A.tmps.getD 71 undef = .bool true := by rw [← hA]; exact (puts_get u 3 71 _ _ (by decide) (by decide) (by kernel_rfl)).trans hJ3
      have hgs : 71 < A.tmps.size := by rw [← hA]; exact puts_room u (by kernel_rfl)
      refine wpOp_guard rfl 3 71 true rfl rfl hgs hgv (fun K hK => ?_)
      subst hA
      simp only [puts, List.foldl]
      go_simp
      exact hK _ _ ⟨rfl, rfl, hg, Below.refl _ _⟩
    case ns26 =>
      intro u wx hg hC
      have hJ3 : u 3 = (.bool true) := hC.at 3 (by kernel_rfl)
      have hJ25 : u 25 = (.agg #[(.int .i64 d), (.int .i64 p), (.int .i64 s)]) := hC.at 25 (by kernel_rfl)
      clear hC
      generalize hA : puts [(0, 68), (1, 69), (2, 70), (3, 71), (4, 72), (5, 73), (6, 74), (7, 75), (8, 76), (9, 77), (10, 78), (11, 79), (12, 80), (13, 81), (14, 82), (15, 83), (16, 84), (17, 85), (18, 86), (19, 87), (20, 88), (21, 89), (22, 90), (23, 91), (24, 92), (25, 93), (26, 94), (27, 95), (28, 96), (29, 97), (30, 98), (31, 99), (32, 100), (33, 101), (34, 102), (35, 103), (36, 104), (37, 105), (38, 106), (39, 107), (40, 108), (41, 109), (42, 110), (43, 111), (44, 112), (45, 113), (46, 114), (47, 115), (48, 116), (49, 6)] _ u = A
      have hgv : A.tmps.getD 71 undef = .bool true := by rw [← hA]; exact (puts_get u 3 71 _ _ (by decide) (by decide) (by kernel_rfl)).trans hJ3
      have hgs : 71 < A.tmps.size := by rw [← hA]; exact puts_room u (by kernel_rfl)
      refine wpOp_guard rfl 3 71 true rfl rfl hgs hgv (fun K hK => ?_)
      subst hA
      simp only [puts, List.foldl]
      go_simp
      refine (HRO.out wx).mono ?_
      rintro e w' ⟨rfl, hb'⟩
      exact hK _ _ ⟨rfl, rfl, hg.next hb', hb'⟩
    case ns27 =>
      intro u wx hg hC
      have hJ3 : u 3 = (.bool true) := hC.at 3 (by kernel_rfl)
      have hJ24 : u 24 = (.int .i64 0) := hC.at 24 (by kernel_rfl)
      have hJ26 : u 26 = (.int .i64 0) := hC.at 26 (by kernel_rfl)
      clear hC
      generalize hA : puts [(0, 68), (1, 69), (2, 70), (3, 71), (4, 72), (5, 73), (6, 74), (7, 75), (8, 76), (9, 77), (10, 78), (11, 79), (12, 80), (13, 81), (14, 82), (15, 83), (16, 84), (17, 85), (18, 86), (19, 87), (20, 88), (21, 89), (22, 90), (23, 91), (24, 92), (25, 93), (26, 94), (27, 95), (28, 96), (29, 97), (30, 98), (31, 99), (32, 100), (33, 101), (34, 102), (35, 103), (36, 104), (37, 105), (38, 106), (39, 107), (40, 108), (41, 109), (42, 110), (43, 111), (44, 112), (45, 113), (46, 114), (47, 115), (48, 116), (49, 6)] _ u = A
      have hgv : A.tmps.getD 71 undef = .bool true := by rw [← hA]; exact (puts_get u 3 71 _ _ (by decide) (by decide) (by kernel_rfl)).trans hJ3
      have hgs : 71 < A.tmps.size := by rw [← hA]; exact puts_room u (by kernel_rfl)
      refine wpOp_guard rfl 3 71 true rfl rfl hgs hgv (fun K hK => ?_)
      subst hA
      simp only [puts, List.foldl]
      go_simp
      exact hK _ _ ⟨rfl, rfl, hg, Below.refl _ _⟩
    case ns28 =>
      intro u wx hg hC
      have hJ3 : u 3 = (.bool true) := hC.at 3 (by kernel_rfl)
      clear hC
      have hcl0 : wx.cell? ⟨w.heap.size, 0, none⟩ = some (.int .i64 d) := (hg.cell (p := ⟨w.heap.size, 0, none⟩) LG.out).trans CG0.out
      have hcl1 : wx.cell? ⟨w.heap.size, 1, none⟩ = some (.int .i64 p) := (hg.cell (p := ⟨w.heap.size, 1, none⟩) LG.out).trans CG1.out
      have hcl2 : wx.cell? ⟨w.heap.size, 2, none⟩ = some (.int .i64 s) := (hg.cell (p := ⟨w.heap.size, 2, none⟩) LG.out).trans CG2.out
      generalize hA : puts [(0, 68), (1, 69), (2, 70), (3, 71), (4, 72), (5, 73), (6, 74), (7, 75), (8, 76), (9, 77), (10, 78), (11, 79), (12, 80), (13, 81), (14, 82), (15, 83), (16, 84), (17, 85), (18, 86), (19, 87), (20, 88), (21, 89), (22, 90), (23, 91), (24, 92), (25, 93), (26, 94), (27, 95), (28, 96), (29, 97), (30, 98), (31, 99), (32, 100), (33, 101), (34, 102), (35, 103), (36, 104), (37, 105), (38, 106), (39, 107), (40, 108), (41, 109), (42, 110), (43, 111), (44, 112), (45, 113), (46, 114), (47, 115), (48, 116), (49, 6)] _ u = A
      have hgv : A.tmps.getD 71 undef = .bool true := by rw [← hA]; exact (puts_get u 3 71 _ _ (by decide) (by decide) (by kernel_rfl)).trans hJ3
      have hgs : 71 < A.tmps.size := by rw [← hA]; exact puts_room u (by kernel_rfl)
      refine wpOp_guard rfl 3 71 true rfl rfl hgs hgv (fun K hK => ?_)
      subst hA
      simp only [puts, List.foldl]
      go_simp
      exact hK _ _ ⟨rfl, rfl, hg, Below.refl _ _⟩
    case ns29 =>
      intro u wx hg hC
      have hJ3 : u 3 = (.bool true) := hC.at 3 (by kernel_rfl)
      have hJ28 : u 28 = (.agg #[(.int .i64 d), (.int .i64 p), (.int .i64 s)]) := hC.at 28 (by kernel_rfl)
      clear hC
      generalize hA : puts [(0, 68), (1, 69), (2, 70), (3, 71), (4, 72), (5, 73), (6, 74), (7, 75), (8, 76), (9, 77), (10, 78), (11, 79), (12, 80), (13, 81), (14, 82), (15, 83), (16, 84), (17, 85), (18, 86), (19, 87), (20, 88), (21, 89), (22, 90), (23, 91), (24, 92), (25, 93), (26, 94), (27, 95), (28, 96), (29, 97), (30, 98), (31, 99), (32, 100), (33, 101), (34, 102), (35, 103), (36, 104), (37, 105), (38, 106), (39, 107), (40, 108), (41, 109), (42, 110), (43, 111), (44, 112), (45, 113), (46, 114), (47, 115), (48, 116), (49, 6)] _ u = A
      have hgv : A.tmps.getD 71 undef = .bool true := by rw [← hA]; exact (puts_get u 3 71 _ _ (by decide) (by decide) (by kernel_rfl)).trans hJ3
      have hgs : 71 < A.tmps.size := by rw [← hA]; exact puts_room u (by kernel_rfl)
      refine wpOp_guard rfl 3 71 true rfl rfl hgs hgv (fun K hK => ?_)
      subst hA
      simp only [puts, List.foldl]
      go_simp
      refine (HWI.out wx).mono ?_
      rintro e w' ⟨rfl, hb'⟩
      exact hK _ _ ⟨rfl, rfl, hg.next hb', hb'⟩
    case ns30 =>
      intro u wx hg hC
      have hJ3 : u 3 = (.bool true) := hC.at 3 (by kernel_rfl)
      have hJ27 : u 27 = (.int .i64 0) := hC.at 27 (by kernel_rfl)
      have hJ29 : u 29 = (.int .i64 0) := hC.at 29 (by kernel_rfl)
      clear hC
      generalize hA : puts [(0, 68), (1, 69), (2, 70), (3, 71), (4, 72), (5, 73), (6, 74), (7, 75), (8, 76), (9, 77), (10, 78), (11, 79), (12, 80), (13, 81), (14, 82), (15, 83), (16, 84), (17, 85), (18, 86), (19, 87), (20, 88), (21, 89), (22, 90), (23, 91), (24, 92), (25, 93), (26, 94), (27, 95), (28, 96), (29, 97), (30, 98), (31, 99), (32, 100), (33, 101), (34, 102), (35, 103), (36, 104), (37, 105), (38, 106), (39, 107), (40, 108), (41, 109), (42, 110), (43, 111), (44, 112), (45, 113), (46, 114), (47, 115), (48, 116), (49, 6)] _ u = A
      have hgv : A.tmps.getD 71 undef = .bool true := by rw [← hA]; exact (puts_get u 3 71 _ _ (by decide) (by decide) (by kernel_rfl)).trans hJ3
      have hgs : 71 < A.tmps.size := by rw [← hA]; exact puts_room u (by kernel_rfl)
      refine wpOp_guard rfl 3 71 true rfl rfl hgs hgv (fun K hK => ?_)
      subst hA
      simp only [puts, List.foldl]
      go_simp
      exact hK _ _ ⟨rfl, rfl, hg, Below.refl _ _⟩
    case ns31 =>
      intro u wx hg hC
      have hJ3 : u 3 = (.bool true) := hC.at 3 (by kernel_rfl)
      have hJ30 : u 30 = (.int .i64 0) := hC.at 30 (by kernel_rfl)
      clear hC
      generalize hA : puts [(0, 68), (1, 69), (2, 70), (3, 71), (4, 72), (5, 73), (6, 74), (7, 75), (8, 76), (9, 77), (10, 78), (11, 79), (12, 80), (13, 81), (14, 82), (15, 83), (16, 84), (17, 85), (18, 86), (19, 87), (20, 88), (21, 89), (22, 90), (23, 91), (24, 92), (25, 93), (26, 94), (27, 95), (28, 96), (29, 97), (30, 98), (31, 99), (32, 100), (33, 101), (34, 102), (35, 103), (36, 104), (37, 105), (38, 106), (39, 107), (40, 108), (41, 109), (42, 110), (43, 111), (44, 112), (45, 113), (46, 114), (47, 115), (48, 116), (49, 6)] _ u = A
      have hgv : A.tmps.getD 71 undef = .bool true := by rw [← hA]; exact (puts_get u 3 71 _ _ (by decide) (by decide) (by kernel_rfl)).trans hJ3
      have hgs : 71 < A.tmps.size := by rw [← hA]; exact puts_room u (by kernel_rfl)
      refine wpOp_guard rfl 3 71 true rfl rfl hgs hgv (fun K hK => ?_)
      subst hA
      simp only [puts, List.foldl]
      go_simp
      exact hK _ _ ⟨rfl, rfl, hg, Below.refl _ _⟩
    case ns32 =>
      intro u wx hg hC
      have hJ3 : u 3 = (.bool true) := hC.at 3 (by kernel_rfl)
      have hJ31 : u 31 = (.bool true) := hC.at 31 (by kernel_rfl)
      clear hC
      refine wpOp_step rfl (fun K hK => ?_)
      simp only [puts, List.foldl]
      go_simp
      exact hK _ _ ⟨rfl, rfl, hg, Below.refl _ _⟩
    case ns33 =>
      intro u wx hg hC
      have hJ32 : u 32 = (.bool true) := hC.at 32 (by kernel_rfl)
      clear hC
      refine wpOp_step rfl (fun K hK => ?_)
      simp only [puts, List.foldl]
      go_simp
      exact hK _ _ ⟨rfl, rfl, hg, Below.refl _ _⟩
    case ns34 =>
      intro u wx hg hC
      have hJ33 : u 33 = (.bool true) := hC.at 33 (by kernel_rfl)
      clear hC
      generalize hA : puts [(0, 68), (1, 69), (2, 70), (3, 71), (4, 72), (5, 73), (6, 74), (7, 75), (8, 76), (9, 77), (10, 78), (11, 79), (12, 80), (13, 81), (14, 82), (15, 83), (16, 84), (17, 85), (18, 86), (19, 87), (20, 88), (21, 89), (22, 90), (23, 91), (24, 92), (25, 93), (26, 94), (27, 95), (28, 96), (29, 97), (30, 98), (31, 99), (32, 100), (33, 101), (34, 102), (35, 103), (36, 104), (37, 105), (38, 106), (39, 107), (40, 108), (41, 109), (42, 110), (43, 111), (44, 112), (45, 113), (46, 114), (47, 115), (48, 116), (49, 6)] _ u = A
      have hgv : A.tmps.getD 101 undef = .bool true := by rw [← hA]; exact (puts_get u 33 101 _ _ (by decide) (by decide) (by kernel_rfl)).trans hJ33
      have hgs : 101 < A.tmps.size := by rw [← hA]; exact puts_room u (by kernel_rfl)
      refine wpOp_guard rfl 33 101 true rfl rfl hgs hgv (fun K hK => ?_)
      subst hA
      simp only [puts, List.foldl]
      go_simp
      exact hK _ _ ⟨rfl, rfl, hg, Below.refl _ _⟩
    case ns35 =>
      intro u wx hg hC
      have hJ33 : u 33 = (.bool true) := hC.at 33 (by kernel_rfl)
      have hJ34 : u 34 = (.int .i64 1) := hC.at 34 (by kernel_rfl)
      clear hC
      generalize hA : puts [(0, 68), (1, 69), (2, 70), (3, 71), (4, 72), (5, 73), (6, 74), (7, 75), (8, 76), (9, 77), (10, 78), (11, 79), (12, 80), (13, 81), (14, 82), (15, 83), (16, 84), (17, 85), (18, 86), (19, 87), (20, 88), (21, 89), (22, 90), (23, 91), (24, 92), (25, 93), (26, 94), (27, 95), (28, 96), (29, 97), (30, 98), (31, 99), (32, 100), (33, 101), (34, 102), (35, 103), (36, 104), (37, 105), (38, 106), (39, 107), (40, 108), (41, 109), (42, 110), (43, 111), (44, 112), (45, 113), (46, 114), (47, 115), (48, 116), (49, 6)] _ u = A
      have hgv : A.tmps.getD 101 undef = .bool true := by rw [← hA]; exact (puts_get u 33 101 _ _ (by decide) (by decide) (by kernel_rfl)).trans hJ33
      have hgs : 101 < A.tmps.size := by rw [← hA]; exact puts_room u (by kernel_rfl)
      refine wpOp_guard rfl 33 101 true rfl rfl hgs hgv (fun K hK => ?_)
      subst hA
      simp only [puts, List.foldl]
      go_simp
      exact hK _ _ ⟨rfl, rfl, hg, Below.refl _ _⟩
    case ns36 =>
      intro u wx hg hC
      have hJ33 : u 33 = (.bool true) := hC.at 33 (by kernel_rfl)
      have hJ35 : u 35 = (.bool true) := hC.at 35 (by kernel_rfl)
      clear hC
      refine wpOp_step rfl (fun K hK => ?_)
      simp only [puts, List.foldl]
      go_simp
      exact hK _ _ ⟨rfl, rfl, hg, Below.refl _ _⟩
    case ns37 =>
      intro u wx hg hC
      have hJ36 : u 36 = (.bool true) := hC.at 36 (by kernel_rfl)
      clear hC
      refine wpOp_step rfl (fun K hK => ?_)
      simp only [puts, List.foldl]
      go_simp
      exact hK _ _ ⟨rfl, rfl, hg, Below.refl _ _⟩
    case ns38 =>
      intro u wx hg hC
      have hJ37 : u 37 = (.bool true) := hC.at 37 (by kernel_rfl)
      clear hC
      generalize hA : puts [(0, 68), (1, 69), (2, 70), (3, 71), (4, 72), (5, 73), (6, 74), (7, 75), (8, 76), (9, 77), (10, 78), (11, 79), (12, 80), (13, 81), (14, 82), (15, 83), (16, 84), (17, 85), (18, 86), (19, 87), (20, 88), (21, 89), (22, 90), (23, 91), (24, 92), (25, 93), (26, 94), (27, 95), (28, 96), (29, 97), (30, 98), (31, 99), (32, 100), (33, 101), (34, 102), (35, 103), (36, 104), (37, 105), (38, 106), (39, 107), (40, 108), (41, 109), (42, 110), (43, 111), (44, 112), (45, 113), (46, 114), (47, 115), (48, 116), (49, 6)] _ u = A
      have hgv : A.tmps.getD 105 undef = .bool true := by rw [← hA]; exact (puts_get u 37 105 _ _ (by decide) (by decide) (by kernel_rfl)).trans hJ37
      have hgs : 105 < A.tmps.size := by rw [← hA]; exact puts_room u (by kernel_rfl)
      refine wpOp_guard rfl 37 105 true rfl rfl hgs hgv (fun K hK => ?_)
      subst hA
      simp only [puts, List.foldl]
      go_simp
      exact hK _ _ ⟨rfl, rfl, hg, Below.refl _ _⟩
    case ns39 =>
      intro u wx hg hC
      have hJ37 : u 37 = (.bool true) := hC.at 37 (by kernel_rfl)
      have hJ38 : u 38 = (.int .i64 1) := hC.at 38 (by kernel_rfl)
      clear hC
      generalize hA : puts [(0, 68), (1, 69), (2, 70), (3, 71), (4, 72), (5, 73), (6, 74), (7, 75), (8, 76), (9, 77), (10, 78), (11, 79), (12, 80), (13, 81), (14, 82), (15, 83), (16, 84), (17, 85), (18, 86), (19, 87), (20, 88), (21, 89), (22, 90), (23, 91), (24, 92), (25, 93), (26, 94), (27, 95), (28, 96), (29, 97), (30, 98), (31, 99), (32, 100), (33, 101), (34, 102), (35, 103), (36, 104), (37, 105), (38, 106), (39, 107), (40, 108), (41, 109), (42, 110), (43, 111), (44, 112), (45, 113), (46, 114), (47, 115), (48, 116), (49, 6)] _ u = A
      have hgv : A.tmps.getD 105 undef = .bool true := by rw [← hA]; exact (puts_get u 37 105 _ _ (by decide) (by decide) (by kernel_rfl)).trans hJ37
      have hgs : 105 < A.tmps.size := by rw [← hA]; exact puts_room u (by kernel_rfl)
      refine wpOp_guard rfl 37 105 true rfl rfl hgs hgv (fun K hK => ?_)
      subst hA
      simp only [puts, List.foldl]
      go_simp
      exact hK _ _ ⟨rfl, rfl, hg, Below.refl _ _⟩
    case ns40 =>
      intro u wx hg hC
      have hJ37 : u 37 = (.bool true) := hC.at 37 (by kernel_rfl)
      have hJ39 : u 39 = (.bool true) := hC.at 39 (by kernel_rfl)
      clear hC
      refine wpOp_step rfl (fun K hK => ?_)
      simp only [puts, List.foldl]
      go_simp
      exact hK _ _ ⟨rfl, rfl, hg, Below.refl _ _⟩
    case ns41 =>
      intro u wx hg hC
      have hJ40 : u 40 = (.bool true) := hC.at 40 (by kernel_rfl)
      clear hC
      refine wpOp_step rfl (fun K hK => ?_)
      simp only [puts, List.foldl]
      go_simp
      exact hK _ _ ⟨rfl, rfl, hg, Below.refl _ _⟩
    case ns42 =>
      intro u wx hg hC
      have hJ41 : u 41 = (.bool true) := hC.at 41 (by kernel_rfl)
      clear hC
      generalize hA : puts [(0, 68), (1, 69), (2, 70), (3, 71), (4, 72), (5, 73), (6, 74), (7, 75), (8, 76), (9, 77), (10, 78), (11, 79), (12, 80), (13, 81), (14, 82), (15, 83), (16, 84), (17, 85), (18, 86), (19, 87), (20, 88), (21, 89), (22, 90), (23, 91), (24, 92), (25, 93), (26, 94), (27, 95), (28, 96), (29, 97), (30, 98), (31, 99), (32, 100), (33, 101), (34, 102), (35, 103), (36, 104), (37, 105), (38, 106), (39, 107), (40, 108), (41, 109), (42, 110), (43, 111), (44, 112), (45, 113), (46, 114), (47, 115), (48, 116), (49, 6)] _ u = A
      have hgv : A.tmps.getD 109 undef = .bool true := by rw [← hA]; exact (puts_get u 41 109 _ _ (by decide) (by decide) (by kernel_rfl)).trans hJ41
      have hgs : 109 < A.tmps.size := by rw [← hA]; exact puts_room u (by kernel_rfl)
      refine wpOp_guard rfl 41 109 true rfl rfl hgs hgv (fun K hK => ?_)
      subst hA
      simp only [puts, List.foldl]
      go_simp
      exact hK _ _ ⟨rfl, rfl, hg, Below.refl _ _⟩
    case ns43 =>
      intro u wx hg hC
      have hJ41 : u 41 = (.bool true) := hC.at 41 (by kernel_rfl)
      have hJ42 : u 42 = (.int .i64 1) := hC.at 42 (by kernel_rfl)
      clear hC
      generalize hA : puts [(0, 68), (1, 69), (2, 70), (3, 71), (4, 72), (5, 73), (6, 74), (7, 75), (8, 76), (9, 77), (10, 78), (11, 79), (12, 80), (13, 81), (14, 82), (15, 83), (16, 84), (17, 85), (18, 86), (19, 87), (20, 88), (21, 89), (22, 90), (23, 91), (24, 92), (25, 93), (26, 94), (27, 95), (28, 96), (29, 97), (30, 98), (31, 99), (32, 100), (33, 101), (34, 102), (35, 103), (36, 104), (37, 105), (38, 106), (39, 107), (40, 108), (41, 109), (42, 110), (43, 111), (44, 112), (45, 113), (46, 114), (47, 115), (48, 116), (49, 6)] _ u = A
      have hgv : A.tmps.getD 109 undef = .bool true := by rw [← hA]; exact (puts_get u 41 109 _ _ (by decide) (by decide) (by kernel_rfl)).trans hJ41
      have hgs : 109 < A.tmps.size := by rw [← hA]; exact puts_room u (by kernel_rfl)
      refine wpOp_guard rfl 41 109 true rfl rfl hgs hgv (fun K hK => ?_)
      subst hA
      simp only [puts, List.foldl]
      go_simp
      exact hK _ _ ⟨rfl, rfl, hg, Below.refl _ _⟩
    case ns44 =>
      intro u wx hg hC
      have hJ41 : u 41 = (.bool true) := hC.at 41 (by kernel_rfl)
      have hJ43 : u 43 = (.bool true) := hC.at 43 (by kernel_rfl)
      clear hC
      refine wpOp_step rfl (fun K hK => ?_)
      simp only [puts, List.foldl]
      go_simp
      exact hK _ _ ⟨rfl, rfl, hg, Below.refl _ _⟩
    case ns45 =>
      intro u wx hg hC
      have hJ44 : u 44 = (.bool true) := hC.at 44 (by kernel_rfl)
      clear hC
      refine wpOp_step rfl (fun K hK => ?_)
      simp only [puts, List.foldl]
      go_simp
      exact hK _ _ ⟨rfl, rfl, hg, Below.refl _ _⟩
    case ns46 =>
      intro u wx hg hC
      have hJ45 : u 45 = (.bool true) := hC.at 45 (by kernel_rfl)
      clear hC
      generalize hA : puts [(0, 68), (1, 69), (2, 70), (3, 71), (4, 72), (5, 73), (6, 74), (7, 75), (8, 76), (9, 77), (10, 78), (11, 79), (12, 80), (13, 81), (14, 82), (15, 83), (16, 84), (17, 85), (18, 86), (19, 87), (20, 88), (21, 89), (22, 90), (23, 91), (24, 92), (25, 93), (26, 94), (27, 95), (28, 96), (29, 97), (30, 98), (31, 99), (32, 100), (33, 101), (34, 102), (35, 103), (36, 104), (37, 105), (38, 106), (39, 107), (40, 108), (41, 109), (42, 110), (43, 111), (44, 112), (45, 113), (46, 114), (47, 115), (48, 116), (49, 6)] _ u = A
      have hgv : A.tmps.getD 113 undef = .bool true := by rw [← hA]; exact (puts_get u 45 113 _ _ (by decide) (by decide) (by kernel_rfl)).trans hJ45
      have hgs : 113 < A.tmps.size := by rw [← hA]; exact puts_room u (by kernel_rfl)
      refine wpOp_guard rfl 45 113 true rfl rfl hgs hgv (fun K hK => ?_)
      subst hA
      simp only [puts, List.foldl]
      go_simp
      exact hK _ _ ⟨rfl, rfl, hg, Below.refl _ _⟩
    case ns47 =>
      intro u wx hg hC
      have hJ45 : u 45 = (.bool true) := hC.at 45 (by kernel_rfl)
      have hJ46 : u 46 = (.bool false) := hC.at 46 (by kernel_rfl)
      clear hC
      generalize hA : puts [(0, 68), (1, 69), (2, 70), (3, 71), (4, 72), (5, 73), (6, 74), (7, 75), (8, 76), (9, 77), (10, 78), (11, 79), (12, 80), (13, 81), (14, 82), (15, 83), (16, 84), (17, 85), (18, 86), (19, 87), (20, 88), (21, 89), (22, 90), (23, 91), (24, 92), (25, 93), (26, 94), (27, 95), (28, 96), (29, 97), (30, 98), (31, 99), (32, 100), (33, 101), (34, 102), (35, 103), (36, 104), (37, 105), (38, 106), (39, 107), (40, 108), (41, 109), (42, 110), (43, 111), (44, 112), (45, 113), (46, 114), (47, 115), (48, 116), (49, 6)] _ u = A
      have hgv : A.tmps.getD 113 undef = .bool true := by rw [← hA]; exact (puts_get u 45 113 _ _ (by decide) (by decide) (by kernel_rfl)).trans hJ45
      have hgs : 113 < A.tmps.size := by rw [← hA]; exact puts_room u (by kernel_rfl)
      refine wpOp_guard rfl 45 113 true rfl rfl hgs hgv (fun K hK => ?_)
      subst hA
      simp only [puts, List.foldl]
      go_simp
      exact hK _ _ ⟨rfl, rfl, hg, Below.refl _ _⟩
    case ns48 =>
      intro u wx hg hC
      have hJ45 : u 45 = (.bool true) := hC.at 45 (by kernel_rfl)
      have hJ47 : u 47 = (.bool true) := hC.at 47 (by kernel_rfl)
      clear hC
      refine wpOp_step rfl (fun K hK => ?_)
      simp only [puts, List.foldl]
      go_simp
      exact hK _ _ ⟨rfl, rfl, hg, Below.refl _ _⟩
    case ns49 =>
      intro u wx hg hC
      have hJ48 : u 48 = (.bool true) := hC.at 48 (by kernel_rfl)
      clear hC
      refine wpOp_step rfl (fun K hK => ?_)
      simp only [puts, List.foldl]
      go_simp
      exact hK _ _ ⟨rfl, rfl, hg, Below.refl _ _⟩
  case finn =>
    intro u wq hbq hφ
    have e6 : u 49 = .bool true := hφ (49, 6) (by decide)
    clear hφ
    simp only [puts, List.foldl]
    go_simp
    have HBQ := Lib.hid (B12.out.next hbq)
    clear hbq e6
    go_wp2
    go_ret
    exact ⟨rfl, HBQ.out⟩
end Go.Proofs.Ytiakbdekleaaoaa
