/- The document's example; HeadPuts. -/
import Derived.Test.YtbcilifdgpfmnaaDoorHeadH
import Derived.Test.YtbcilifdgpfmnaaDoorShaM
namespace Go.Proofs.YtbcilifdgpfmnaaDoor
open Go.RowKit HeadMath NumMath
set_option linter.unusedVariables false
set_option maxRecDepth 100000

theorem abc_head (D : List UInt8) : (headB 1 2 3 3 D).take 14 = [84, 82, 73, 80, 0, 1, 0, 2, 0, 3, 0, 0, 0, 3] := rfl

set_option maxHeartbeats 1000000 in
theorem head_awake_any (w : World) (hg : Glob w) :
    Calls Tryd.prog 5 #[] w fun e w' => e = .returned (.bool true) ∧ Below w.heap.size w w' := by
  obtain ⟨D, hD⟩ : ∃ D, ShaMath.sha [97, 98, 99] = D := ⟨_, rfl⟩
  have lD : D.length = 32 := by rw [← hD, ShaMath.sha_length]
  have HO : Hid (∀ u, Glob u → Calls Tryd.prog 13 #[.agg #[.int .i64 1, .int .i64 2, .int .i64 3], .string { data := #[97, 98, 99] }] u fun e u' => e = .returned (.agg (hdv 1 2 3 3 D).toArray) ∧ Below u.heap.size u u') := Lib.hid fun u g => head_of_any 1 2 3 { data := #[97, 98, 99] } D u hD g (by decide)
  obtain ⟨T, hT⟩ : ∃ T, str (headB 1 2 3 3 D) = T := ⟨_, rfl⟩
  have HP : Hid (∀ u, Calls Tryd.prog 6 #[.agg (hdv 1 2 3 3 D).toArray] u fun e u' => e = .returned (.tuple #[.string T, .int .i64 0]) ∧ Below u.heap.size u u') := Lib.hid fun u => by rw [← hT]; exact head_put_yes 1 2 3 3 D u rfl lD
  have lT : T.size = 48 := by rw [← hT, str_size, headB_length _ _ _ _ _ lD]
  have h14 : (T.extract 0 14).data.toList = [84, 82, 73, 80, 0, 1, 0, 2, 0, 3, 0, 0, 0, 3] := by
    rw [num_take_extract, ← hT, str_list, abc_head]
  have hbe : ((T.extract 0 14).toList == [84, 82, 73, 80, 0, 1, 0, 2, 0, 3, 0, 0, 0, 3]) = true := by
    rw [ByteArray.toList_eq, h14]
    rfl
  have hsz : ((T.size : Int) == 48) = true := by rw [lT]; rfl
  have hle : 14 ≤ T.size := by omega
  have hle2 : (14 : Int) ≤ (T.size : Int) := by omega
  obtain ⟨V, hV⟩ : ∃ V, hdv 1 2 3 3 D = V := ⟨_, rfl⟩
  rw [hV] at HO HP
  have HG := Lib.hid hg
  clear hg hD hT lD lT h14 hV
  go_enter Tryd.func5, Tryd.ntmps5
  go_wp2_with (first
    | (go_at_call 13; (with_reducible refine (HO.out w HG.out).mono ?_); rintro e u1 ⟨rfl, b1⟩; have B1 := Lib.hid b1; clear b1)
    | (go_at_call 6; (with_reducible refine (HP.out u1).mono ?_); rintro e u2 ⟨rfl, b2⟩; have B2 : Hid (Below w.heap.size w u2) := Lib.hid (B1.out.next b2); clear b2))
  go_ret
  exact ⟨rfl, B2.out⟩

set_option maxHeartbeats 4000000 in
theorem headPuts_walk (a b c n : Int) (H : List UInt8) (s : ByteArray) (w : World) (hg : Glob w) (hH : H.length = 32) (hs : s.size ≤ 140737488351232) :
    Calls Tryd.prog 3 #[.agg (hdv a b c n H).toArray, .string s] w fun e w' => e = .returned (.bool true) ∧ Below w.heap.size w w' := by
  have HG := Lib.hid hg
  by_cases hbig : 1000 < s.size
  · have hb2 : 1000 < (s.size : Int) := by omega
    clear hbig hg
    go_enter Tryd.func3, Tryd.ntmps3
    go_wp2_with (first
      | ((with_reducible refine wpBoxK (w := w) (hdv a b c n H) 27 ?_ ?_); rfl; intro u1 r1 b1 s1; have B1 := Lib.hid b1; clear r1 b1 s1)
      | (go_at_call 5; (with_reducible refine (head_awake_any u1 (HG.out.step B1.out)).mono ?_); rintro e u2 ⟨rfl, b2⟩; have B2 : Hid (Below w.heap.size w u2) := Lib.hid (B1.out.next b2); clear b2))
    go_ret
    exact ⟨rfl, B2.out⟩
  · have hb2 : (s.size : Int) ≤ 1000 := by omega
    have hb3 : s.size ≤ 140737488355328 := by omega
    -- what Get tells of s alone
    obtain ⟨VS, ES, hVS⟩ := GetIs.one s.data.toList
    have LVS : Hid (VS.length = 36) := Lib.hid (by
      rcases hVS with ⟨_, rfl, _⟩ | ⟨h1, _, rfl, _⟩ | ⟨_, _, rfl, _⟩
      · exact hdv_length _ _ _ _ _ (by simp)
      · exact hdv_length _ _ _ _ _ (rH_length _ h1)
      · exact hdv_length _ _ _ _ _ (by simp))
    have VS1 : Hid (VS.all (·.oneCell') = true) := Lib.hid (by
      rcases hVS with ⟨_, rfl, _⟩ | ⟨h1, _, rfl, _⟩ | ⟨_, _, rfl, _⟩ <;> exact hdv_one _ _ _ _ _)
    have HSQ : Hid (∀ u : World, (Op.equalIn 10000 29 (.agg VS.toArray) (.agg VS.toArray)).run Tryd.prog u = .ok true u) := Lib.hid (by
      rcases hVS with ⟨_, rfl, _⟩ | ⟨h1, _, rfl, _⟩ | ⟨_, _, rfl, _⟩
      · exact rhead_same _ _ _ _ _ (by simp)
      · exact rhead_same _ _ _ _ _ (rH_length _ h1)
      · exact rhead_same _ _ _ _ _ (by simp))
    have HEI : Hid (IntKind.i64.wrap ES = ES) := Lib.hid (by rcases hVS with ⟨_, _, rfl⟩ | ⟨_, _, _, rfl⟩ | ⟨_, _, _, rfl⟩ <;> rfl)
    have HGS : Hid (∀ u, Calls Tryd.prog 9 #[.string s] u fun e u' => e = .returned (.tuple #[.agg VS.toArray, .int .i64 ES]) ∧ Below u.heap.size u u') := Lib.hid fun u => head_get_any s _ VS ES u rfl hb3 hVS
    have HRS : Hid (∀ u, Calls Tryd.prog 11 #[.string s] u fun e u' => e = .returned (.tuple #[.agg VS.toArray, .int .i64 ES]) ∧ Below u.heap.size u u') := Lib.hid fun u => rhead_get_any s _ VS ES u rfl hb3 hVS
    have LZ : Hid ((hdv 0 0 0 0 (List.replicate 32 0)).length = 36) := Lib.hid (hdv_length _ _ _ _ _ (by simp))
    have LV : Hid ((hdv a b c n H).length = 36) := Lib.hid (hdv_length _ _ _ _ _ hH)
    have V1 : Hid ((hdv a b c n H).all (·.oneCell') = true) := Lib.hid (hdv_one _ _ _ _ _)
    have HRT : Hid (∀ u, Calls Tryd.prog 8 #[.agg (hdv a b c n H).toArray] u fun e u' => e = .returned (.bool (hOk a b c n)) ∧ Below u.heap.size u u') := Lib.hid fun u => head_right_any a b c n H u
    have HRR : Hid (∀ u, Calls Tryd.prog 7 #[.agg (hdv a b c n H).toArray] u fun e u' => e = .returned (.bool (hOk a b c n)) ∧ Below u.heap.size u u') := Lib.hid fun u => rhead_right_any a b c n H u
    by_cases hok : hOk a b c n = true
    · obtain ⟨T, hT⟩ : ∃ T, str (headB a b c n H) = T := ⟨_, rfl⟩
      have zT : T.size = 48 := by rw [← hT, str_size, headB_length _ _ _ _ _ hH]
      have HP : Hid (∀ u, Calls Tryd.prog 6 #[.agg (hdv a b c n H).toArray] u fun e u' => e = .returned (.tuple #[.string T, .int .i64 0]) ∧ Below u.heap.size u u') := Lib.hid fun u => by rw [← hT]; exact head_put_yes a b c n H u hok hH
      have HRP : Hid (∀ u, Calls Tryd.prog 10 #[.agg (hdv a b c n H).toArray] u fun e u' => e = .returned (.string T) ∧ Below u.heap.size u u') := Lib.hid fun u => by rw [← hT]; exact rhead_put_any a b c n H u hok hH
      have hTs : (T ++ s).data.toList = headB a b c n H ++ s.data.toList := by rw [← hT]; simp [str]
      have hTz : (T ++ s).size ≤ 140737488355328 := by rw [ByteArray.size_append]; omega
      obtain ⟨q1, q2, q3, q4, q5, q6⟩ := head_back a b c n H s.data.toList hok hH
      have HGT : Hid (∀ u, Calls Tryd.prog 9 #[.string (T ++ s)] u fun e u' => e = .returned (.tuple #[.agg (hdv a b c n H).toArray, .int .i64 0]) ∧ Below u.heap.size u u') := Lib.hid fun u =>
        head_get_any (T ++ s) _ _ _ u hTs hTz (.inr (.inl ⟨by rw [List.length_append, headB_length _ _ _ _ _ hH]; omega, isH_back a b c n H _ hok hH, by rw [q1, q2, q3, q4, q5], rfl⟩))
      have HSM : Hid (∀ u : World, (Op.equalIn 10000 27 (.agg (hdv a b c n H).toArray) (.agg (hdv a b c n H).toArray)).run Tryd.prog u = .ok true u) := Lib.hid (head_same a b c n H hH)
      rw [hok] at HRT HRR
      have hTT : (T.toList == T.toList) = true := beq_yes rfl
      obtain ⟨V, hV⟩ : ∃ V, hdv a b c n H = V := ⟨_, rfl⟩
      rw [hV] at HP HRP HGT HSM HRT HRR LV V1 ⊢
      have hsm := HSM.out
      have hsq := HSQ.out
      clear hbig hg hs hb3 hVS hok hT hTs hTz q1 q2 q3 q4 q5 q6 hV hH
      go_enter Tryd.func3, Tryd.ntmps3
      go_wp2_with (first
        | ((with_reducible refine wpBoxK (w := w) V 27 ?_ ?_); rfl; intro u1 r1 b1 s1; have R1 := Lib.hid r1; have B1 := Lib.hid b1; clear r1 b1 s1)
        | (go_at_call 5; (with_reducible refine (head_awake_any u1 (HG.out.step B1.out)).mono ?_); rintro e u2 ⟨rfl, b2⟩; have R2 := Lib.hid (R1.out.step b2); have B2 : Hid (Below w.heap.size w u2) := Lib.hid (B1.out.next b2); clear b2)
        | ((with_reducible refine R2.out.wpLoadK 27 fits_head LV.out ?_ ?_); rfl)
        | ((with_reducible refine wpAllocK (w := u2) (hdv 0 0 0 0 (List.replicate 32 0)) 29 zero_rhead ?_ ?_); rfl; intro u3 r3 b3 s3; have K3 := Lib.hid r3; have R3 := Lib.hid (R2.out.step b3); have B3 : Hid (Below w.heap.size w u3) := Lib.hid (B2.out.next b3); clear r3 b3 s3)
        | ((with_reducible refine K3.out.wpStoreK 29 V fits_rhead LZ.out LV.out V1.out ?_ ?_); rfl; intro u4 r4 o4 s4; have K4 := Lib.hid r4; have R4 := Lib.hid (R3.out.only o4 (by have := R2.out.lt; omega)); have B4 : Hid (Below w.heap.size w u4) := Lib.hid (B3.out.trans (o4.below B2.out.size B3.out.size)); clear r4 o4 s4)
        | ((with_reducible refine R4.out.wpLoadK 27 fits_head LV.out ?_ ?_); rfl)
        | (go_at_call 6; (with_reducible refine (HP.out u4).mono ?_); rintro e u5 ⟨rfl, b5⟩; have R5 := Lib.hid (R4.out.step b5); have K5 := Lib.hid (K4.out.step b5); have B5 : Hid (Below w.heap.size w u5) := Lib.hid (B4.out.next b5); clear b5)
        | ((with_reducible refine K5.out.wpLoadK 29 fits_rhead LV.out ?_ ?_); rfl)
        | (go_at_call 7; (with_reducible refine (HRR.out u5).mono ?_); rintro e u6 ⟨rfl, b6⟩; have R6 := Lib.hid (R5.out.step b6); have K6 := Lib.hid (K5.out.step b6); have B6 : Hid (Below w.heap.size w u6) := Lib.hid (B5.out.next b6); clear b6)
        | ((with_reducible refine R6.out.wpLoadK 27 fits_head LV.out ?_ ?_); rfl)
        | (go_at_call 8; (with_reducible refine (HRT.out u6).mono ?_); rintro e u7 ⟨rfl, b7⟩; have R7 := Lib.hid (R6.out.step b7); have K7 := Lib.hid (K6.out.step b7); have B7 : Hid (Below w.heap.size w u7) := Lib.hid (B6.out.next b7); clear b7)
        | (go_at_call 9; (with_reducible refine (HGT.out u7).mono ?_); rintro e u8 ⟨rfl, b8⟩; have R8 := Lib.hid (R7.out.step b8); have K8 := Lib.hid (K7.out.step b8); have B8 : Hid (Below w.heap.size w u8) := Lib.hid (B7.out.next b8); clear b8)
        | ((with_reducible refine wpAllocK (w := u8) (hdv 0 0 0 0 (List.replicate 32 0)) 27 zero_head ?_ ?_); rfl; intro u9 r9 b9 s9; have G9 := Lib.hid r9; have R9 := Lib.hid (R8.out.step b9); have K9 := Lib.hid (K8.out.step b9); have B9 : Hid (Below w.heap.size w u9) := Lib.hid (B8.out.next b9); have LTR : Hid (w.heap.size < u8.heap.size) := Lib.hid R8.out.lt; have LTK : Hid (u2.heap.size < u8.heap.size) := Lib.hid K8.out.lt; clear r9 b9 s9)
        | ((with_reducible refine G9.out.wpStoreK 27 V fits_head LZ.out LV.out V1.out ?_ ?_); rfl; intro u10 r10 o10 s10; have G10 := Lib.hid r10; have R10 := Lib.hid (R9.out.only o10 (by have := LTR.out; omega)); have K10 := Lib.hid (K9.out.only o10 (by have := LTK.out; omega)); have B10 : Hid (Below w.heap.size w u10) := Lib.hid (B9.out.trans (o10.below B8.out.size B9.out.size)); clear r10 o10 s10)
        | ((with_reducible refine K10.out.wpLoadK 29 fits_rhead LV.out ?_ ?_); rfl)
        | (go_at_call 10; (with_reducible refine (HRP.out u10).mono ?_); rintro e u11 ⟨rfl, b11⟩; have R11 := Lib.hid (R10.out.step b11); have G11 := Lib.hid (G10.out.step b11); have B11 : Hid (Below w.heap.size w u11) := Lib.hid (B10.out.next b11); clear b11)
        | ((with_reducible refine G11.out.wpLoadG 27 fits_head LV.out ?_ ?_); rfl)
        | ((with_reducible refine R11.out.wpLoadG 27 fits_head LV.out ?_ ?_); rfl)
        | (go_at_call 9; (with_reducible refine (HGS.out u11).mono ?_); rintro e u12 ⟨rfl, b12⟩; have B12 : Hid (Below w.heap.size w u12) := Lib.hid (B11.out.next b12); clear b12)
        | ((with_reducible refine wpAllocK (w := u12) (hdv 0 0 0 0 (List.replicate 32 0)) 27 zero_head ?_ ?_); rfl; intro u13 r13 b13 s13; have G13 := Lib.hid r13; have B13 : Hid (Below w.heap.size w u13) := Lib.hid (B12.out.next b13); clear r13 b13 s13)
        | ((with_reducible refine G13.out.wpStoreK 27 VS fits_head LZ.out LVS.out VS1.out ?_ ?_); rfl; intro u14 r14 o14 s14; have G14 := Lib.hid r14; have B14 : Hid (Below w.heap.size w u14) := Lib.hid (B13.out.trans (o14.below B12.out.size B13.out.size)); clear r14 o14 s14)
        | (go_at_call 11; (with_reducible refine (HRS.out u14).mono ?_); rintro e u15 ⟨rfl, b15⟩; have G15 := Lib.hid (G14.out.step b15); have B15 : Hid (Below w.heap.size w u15) := Lib.hid (B14.out.next b15); clear b15)
        | ((with_reducible refine wpAllocK (w := u15) (hdv 0 0 0 0 (List.replicate 32 0)) 29 zero_rhead ?_ ?_); rfl; intro u16 r16 b16 s16; have K16 := Lib.hid r16; have G16 := Lib.hid (G15.out.step b16); have B16 : Hid (Below w.heap.size w u16) := Lib.hid (B15.out.next b16); have LTG : Hid (u12.heap.size < u15.heap.size) := Lib.hid G15.out.lt; clear r16 b16 s16)
        | ((with_reducible refine K16.out.wpStoreK 29 VS fits_rhead LZ.out LVS.out VS1.out ?_ ?_); rfl; intro u17 r17 o17 s17; have K17 := Lib.hid r17; have G17 := Lib.hid (G16.out.only o17 (by have := LTG.out; omega)); have B17 : Hid (Below w.heap.size w u17) := Lib.hid (B16.out.trans (o17.below B15.out.size B16.out.size)); clear r17 o17 s17)
        | ((with_reducible refine G17.out.wpLoadK 27 fits_head LVS.out ?_ ?_); rfl)
        | ((with_reducible refine K17.out.wpLoadK 29 fits_rhead LVS.out ?_ ?_); rfl))
      go_ret
      exact ⟨rfl, B17.out⟩
    · have hok : hOk a b c n = false := by simpa using hok
      have HP : Hid (∀ u, Calls Tryd.prog 6 #[.agg (hdv a b c n H).toArray] u fun e u' => e = .returned (.tuple #[.string ByteArray.empty, .int .i64 1]) ∧ Below u.heap.size u u') := Lib.hid fun u => head_put_no a b c n H u hok hH
      rw [hok] at HRT HRR
      have hEE : ((ByteArray.empty).toList == []) = true := by rw [ByteArray.toList_eq]; rfl
      obtain ⟨V, hV⟩ : ∃ V, hdv a b c n H = V := ⟨_, rfl⟩
      rw [hV] at HP HRT HRR LV V1 ⊢
      have hsq := HSQ.out
      clear hbig hg hs hb3 hVS hok hV hH
      go_enter Tryd.func3, Tryd.ntmps3
      go_wp2_with (first
        | ((with_reducible refine wpBoxK (w := w) V 27 ?_ ?_); rfl; intro u1 r1 b1 s1; have R1 := Lib.hid r1; have B1 := Lib.hid b1; clear r1 b1 s1)
        | (go_at_call 5; (with_reducible refine (head_awake_any u1 (HG.out.step B1.out)).mono ?_); rintro e u2 ⟨rfl, b2⟩; have R2 := Lib.hid (R1.out.step b2); have B2 : Hid (Below w.heap.size w u2) := Lib.hid (B1.out.next b2); clear b2)
        | ((with_reducible refine R2.out.wpLoadK 27 fits_head LV.out ?_ ?_); rfl)
        | ((with_reducible refine wpAllocK (w := u2) (hdv 0 0 0 0 (List.replicate 32 0)) 29 zero_rhead ?_ ?_); rfl; intro u3 r3 b3 s3; have K3 := Lib.hid r3; have R3 := Lib.hid (R2.out.step b3); have B3 : Hid (Below w.heap.size w u3) := Lib.hid (B2.out.next b3); clear r3 b3 s3)
        | ((with_reducible refine K3.out.wpStoreK 29 V fits_rhead LZ.out LV.out V1.out ?_ ?_); rfl; intro u4 r4 o4 s4; have K4 := Lib.hid r4; have R4 := Lib.hid (R3.out.only o4 (by have := R2.out.lt; omega)); have B4 : Hid (Below w.heap.size w u4) := Lib.hid (B3.out.trans (o4.below B2.out.size B3.out.size)); clear r4 o4 s4)
        | ((with_reducible refine R4.out.wpLoadK 27 fits_head LV.out ?_ ?_); rfl)
        | (go_at_call 6; (with_reducible refine (HP.out u4).mono ?_); rintro e u5 ⟨rfl, b5⟩; have R5 := Lib.hid (R4.out.step b5); have K5 := Lib.hid (K4.out.step b5); have B5 : Hid (Below w.heap.size w u5) := Lib.hid (B4.out.next b5); clear b5)
        | ((with_reducible refine K5.out.wpLoadK 29 fits_rhead LV.out ?_ ?_); rfl)
        | (go_at_call 7; (with_reducible refine (HRR.out u5).mono ?_); rintro e u6 ⟨rfl, b6⟩; have R6 := Lib.hid (R5.out.step b6); have B6 : Hid (Below w.heap.size w u6) := Lib.hid (B5.out.next b6); clear b6)
        | ((with_reducible refine R6.out.wpLoadK 27 fits_head LV.out ?_ ?_); rfl)
        | (go_at_call 8; (with_reducible refine (HRT.out u6).mono ?_); rintro e u7 ⟨rfl, b7⟩; have B7 : Hid (Below w.heap.size w u7) := Lib.hid (B6.out.next b7); clear b7)
        | (go_at_call 9; (with_reducible refine (HGS.out u7).mono ?_); rintro e u12 ⟨rfl, b12⟩; have B12 : Hid (Below w.heap.size w u12) := Lib.hid (B7.out.next b12); clear b12)
        | ((with_reducible refine wpAllocK (w := u12) (hdv 0 0 0 0 (List.replicate 32 0)) 27 zero_head ?_ ?_); rfl; intro u13 r13 b13 s13; have G13 := Lib.hid r13; have B13 : Hid (Below w.heap.size w u13) := Lib.hid (B12.out.next b13); clear r13 b13 s13)
        | ((with_reducible refine G13.out.wpStoreK 27 VS fits_head LZ.out LVS.out VS1.out ?_ ?_); rfl; intro u14 r14 o14 s14; have G14 := Lib.hid r14; have B14 : Hid (Below w.heap.size w u14) := Lib.hid (B13.out.trans (o14.below B12.out.size B13.out.size)); clear r14 o14 s14)
        | (go_at_call 11; (with_reducible refine (HRS.out u14).mono ?_); rintro e u15 ⟨rfl, b15⟩; have G15 := Lib.hid (G14.out.step b15); have B15 : Hid (Below w.heap.size w u15) := Lib.hid (B14.out.next b15); clear b15)
        | ((with_reducible refine wpAllocK (w := u15) (hdv 0 0 0 0 (List.replicate 32 0)) 29 zero_rhead ?_ ?_); rfl; intro u16 r16 b16 s16; have K16 := Lib.hid r16; have G16 := Lib.hid (G15.out.step b16); have B16 : Hid (Below w.heap.size w u16) := Lib.hid (B15.out.next b16); have LTG : Hid (u12.heap.size < u15.heap.size) := Lib.hid G15.out.lt; clear r16 b16 s16)
        | ((with_reducible refine K16.out.wpStoreK 29 VS fits_rhead LZ.out LVS.out VS1.out ?_ ?_); rfl; intro u17 r17 o17 s17; have K17 := Lib.hid r17; have G17 := Lib.hid (G16.out.only o17 (by have := LTG.out; omega)); have B17 : Hid (Below w.heap.size w u17) := Lib.hid (B16.out.trans (o17.below B15.out.size B16.out.size)); clear r17 o17 s17)
        | ((with_reducible refine G17.out.wpLoadK 27 fits_head LVS.out ?_ ?_); rfl)
        | ((with_reducible refine K17.out.wpLoadK 29 fits_rhead LVS.out ?_ ?_); rfl))
      go_ret
      exact ⟨rfl, B17.out⟩

end Go.Proofs.YtbcilifdgpfmnaaDoor
