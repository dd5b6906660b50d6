/- ShaWords' walk. -/
import Derived.Test.YtbehbefijiaehaaDoorShaP
import Derived.Test.YtbehbefijiaehaaDoorShaM
import Derived.Test.YtbehbefijiaehaaDoorReads
namespace Go.Proofs.YtbehbefijiaehaaDoor
open Go.RowKit ShaMath

set_option maxHeartbeats 2000000 in
theorem shaWords_walk (H : List UInt8) (s : ByteArray) (w : World) (hg : Glob w) (hH : H.length = 32) (hs : s.size ≤ 140737488351232) :
    Calls Tryd.prog 4 #[.agg (bytes H).toArray, .string s] w fun e w' => e = .returned (.bool true) ∧ Below w.heap.size w w' := by
  obtain ⟨O, hO⟩ : ∃ O : List UInt8, O = List.replicate 32 0 := ⟨_, rfl⟩
  obtain ⟨T, hT⟩ : ∃ T, T = str (hexB H) := ⟨_, rfl⟩
  obtain ⟨Y, hY⟩ : ∃ Y, Y = parseV s.data.toList := ⟨_, rfl⟩
  obtain ⟨U, hU⟩ : ∃ U, U = str (hexB Y) := ⟨_, rfl⟩
  have lO : O.length = 32 := by rw [hO]; simp
  have lY : Y.length = 32 := by rw [hY]; exact parseV_length _
  have hpt : parseV T.data.toList = H ∧ wordB T.data.toList = true := by
    rw [hT, str_list]
    have h1 := hex_word H hH
    exact ⟨by rw [parseV, h1, if_pos rfl]; exact word_back H hH, h1⟩
  have HZ : Hid (∀ u, (zeroValue 31).run Tryd.prog u = .ok (.agg (bytes O).toArray) u) := Lib.hid (by rw [hO]; exact zero32)
  have HBU : Hid (Tryd.prog.built 31 [] = some (bytes O).toArray) := Lib.hid (by rw [hO]; exact built_hash)
  have LO : Hid ((bytes O).length = 32) := Lib.hid (by rw [bytes_length, lO])
  have LH : Hid ((bytes H).length = 32) := Lib.hid (by rw [bytes_length, hH])
  have LY : Hid ((bytes Y).length = 32) := Lib.hid (by rw [bytes_length, lY])
  have H1 : Hid ((bytes H).all (·.oneCell') = true) := Lib.hid (bytes_one _)
  have Y1 : Hid ((bytes Y).all (·.oneCell') = true) := Lib.hid (bytes_one _)
  have HHEX : Hid (∀ u, Calls Tryd.prog 19 #[.agg (bytes H).toArray] u fun e u' => e = .returned (.string T) ∧ Below u.heap.size u u') := Lib.hid fun u => by rw [hT]; exact hex_any H u hH
  have HPT : Hid (∀ u, Calls Tryd.prog 20 #[.string T] u fun e u' => e = .returned (.tuple #[.agg (bytes H).toArray, .bool true]) ∧ Below u.heap.size u u') := Lib.hid fun u => by
    have := parse_any T u
    rwa [hpt.1, hpt.2] at this
  have HPS : Hid (∀ u, Calls Tryd.prog 20 #[.string s] u fun e u' => e = .returned (.tuple #[.agg (bytes Y).toArray, .bool (wordB s.data.toList)]) ∧ Below u.heap.size u u') := Lib.hid fun u => by rw [hY]; exact parse_any s u
  have HRH : Hid (∀ u, Calls Tryd.prog 21 #[.agg (bytes H).toArray] u fun e u' => e = .returned (.string T) ∧ Below u.heap.size u u') := Lib.hid fun u => by rw [hT]; exact refHex_any H u hH
  have HRY : Hid (∀ u, Calls Tryd.prog 21 #[.agg (bytes Y).toArray] u fun e u' => e = .returned (.string U) ∧ Below u.heap.size u u') := Lib.hid fun u => by rw [hU]; exact refHex_any Y u lY
  have HQH := Lib.hid (same_hash H hH)
  have HQO := Lib.hid (same_hash O lO)
  have HTT : Hid ((T.toList == T.toList) = true) := Lib.hid (beq_yes rfl)
  have HG := Lib.hid hg
  have HYO : Hid (wordB s.data.toList = false → Y = O) := Lib.hid fun h => by rw [hY, parseV, h, hO]; rfl
  have HYW : Hid (wordB s.data.toList = true → (U.toList == s.toList) = true) := Lib.hid fun h => beq_yes (by rw [hU, hY, parseV, h, if_pos rfl, word_hex _ h, str_of])
  have HYN : Hid (wordB s.data.toList = false → (U.toList == s.toList) = false) := Lib.hid fun h => beq_no (fun e => by
    have e2 : s.data.toList = hexB Y := by rw [← e, hU, str_list]
    rw [e2, hex_word Y lY] at h
    cases h)
  clear hg hO hT hY hU lO lY hpt
  by_cases hbig : 300 < s.size
  · have hb2 : 300 < (s.size : Int) := by omega
    clear hbig
    go_enter Tryd.func4, Tryd.ntmps4
    go_wp2_with (first
      | ((with_reducible refine wpBoxK (w := w) (bytes H) 31 ?_ ?_); rfl; intro u0 r0 b0 s0; have B0 := Lib.hid b0; clear r0 b0 s0)
      | (go_at_call 8; (with_reducible refine (awake_any u0 (HG.out.step B0.out)).mono ?_); rintro e u1 ⟨rfl, b1⟩; have B1 : Hid (Below w.heap.size w u1) := Lib.hid (B0.out.next b1); clear b1))
    go_ret
    exact ⟨rfl, B1.out⟩
  have hb2 : (s.size : Int) ≤ 300 := by omega
  have heqH := HQH.out
  have heqO := HQO.out
  have htt := HTT.out
  clear hbig hs
  by_cases hw : wordB s.data.toList = true
  · have hu := HYW.out hw
    rw [hw] at HPS
    clear hw
    go_enter Tryd.func4, Tryd.ntmps4
    go_wp2_with (first
      | ((with_reducible refine wpBoxK (w := w) (bytes H) 31 ?_ ?_); rfl; intro u0 r0 b0 s0; have RH0 := Lib.hid r0; have B0 := Lib.hid b0; have S0 := Lib.hid s0; clear r0 b0 s0)
      | (go_at_call 8; (with_reducible refine (awake_any u0 (HG.out.step B0.out)).mono ?_); rintro e u1 ⟨rfl, b1⟩; have B1 : Hid (Below w.heap.size w u1) := Lib.hid (B0.out.next b1); have RH1 := Lib.hid (RH0.out.step b1); clear b1)
      | ((with_reducible refine RH1.out.wpLoadK 31 fits_hash LH.out ?_ ?_); rfl)
      | (go_at_call 19; (with_reducible refine (HHEX.out u1).mono ?_); rintro e u2 ⟨rfl, b2⟩; have B2 : Hid (Below w.heap.size w u2) := Lib.hid (B1.out.next b2); have RH2 := Lib.hid (RH1.out.step b2); clear b2)
      | (go_at_call 20; (with_reducible refine (HPT.out u2).mono ?_); rintro e u3 ⟨rfl, b3⟩; have B3 : Hid (Below w.heap.size w u3) := Lib.hid (B2.out.next b3); have RH3 := Lib.hid (RH2.out.step b3); clear b3)
      | ((with_reducible refine wpAllocK (w := u3) (bytes O) 31 HZ.out ?_ ?_); rfl; intro u4 r4 b4 s4; have RX4 := Lib.hid r4; have B4 : Hid (Below w.heap.size w u4) := Lib.hid (B3.out.next b4); have RH4 := Lib.hid (RH3.out.step b4); clear r4 b4 s4)
      | ((with_reducible refine RX4.out.wpStoreK 31 (bytes H) fits_hash LO.out LH.out H1.out ?_ ?_); rfl; intro u5 r5 o5 s5; have RX5 := Lib.hid r5; have RH5 := Lib.hid (RH4.out.only o5 (by have := RH3.out.lt; omega)); have B5 : Hid (Below w.heap.size w u5) := Lib.hid (B4.out.trans (o5.below B3.out.size B4.out.size)); clear r5 o5 s5)
      | (go_at_call 20; (with_reducible refine (HPS.out u5).mono ?_); rintro e u6 ⟨rfl, b6⟩; have B6 : Hid (Below w.heap.size w u6) := Lib.hid (B5.out.next b6); have RH6 := Lib.hid (RH5.out.step b6); have RX6 := Lib.hid (RX5.out.step b6); clear b6)
      | ((with_reducible refine wpAllocK (w := u6) (bytes O) 31 HZ.out ?_ ?_); rfl; intro u7 r7 b7 s7; have RY7 := Lib.hid r7; have B7 : Hid (Below w.heap.size w u7) := Lib.hid (B6.out.next b7); have RH7 := Lib.hid (RH6.out.step b7); have RX7 := Lib.hid (RX6.out.step b7); clear r7 b7 s7)
      | ((with_reducible refine RY7.out.wpStoreK 31 (bytes Y) fits_hash LO.out LY.out Y1.out ?_ ?_); rfl; intro u8 r8 o8 s8; have RY8 := Lib.hid r8; have RH8 := Lib.hid (RH7.out.only o8 (by have := RH6.out.lt; omega)); have RX8 := Lib.hid (RX7.out.only o8 (by have := RX6.out.lt; omega)); have B8 : Hid (Below w.heap.size w u8) := Lib.hid (B7.out.trans (o8.below B6.out.size B7.out.size)); clear r8 o8 s8)
      | ((with_reducible refine RH8.out.wpLoadK 31 fits_hash LH.out ?_ ?_); rfl)
      | (go_at_call 21; (with_reducible refine (HRH.out u8).mono ?_); rintro e u9 ⟨rfl, b9⟩; have B9 : Hid (Below w.heap.size w u9) := Lib.hid (B8.out.next b9); have RH9 := Lib.hid (RH8.out.step b9); have RX9 := Lib.hid (RX8.out.step b9); have RY9 := Lib.hid (RY8.out.step b9); clear b9)
      | ((with_reducible refine RX9.out.wpLoadG 31 fits_hash LH.out ?_ ?_); rfl)
      | ((with_reducible refine RH9.out.wpLoadG 31 fits_hash LH.out ?_ ?_); rfl)
      | ((with_reducible refine RY9.out.wpLoadG 31 fits_hash LY.out ?_ ?_); rfl)
      | ((with_reducible refine wpBuildZeroK (bytes O) 31 HBU.out ?_ ?_); rfl)
      | (go_at_call 21; (with_reducible refine (HRY.out u9).mono ?_); rintro e u10 ⟨rfl, b10⟩; have B10 : Hid (Below w.heap.size w u10) := Lib.hid (B9.out.next b10); clear b10))
    go_ret
    exact ⟨rfl, B10.out⟩
  have hw2 : wordB s.data.toList = false := by simpa using hw
  have hu := HYN.out hw2
  have hyo := HYO.out hw2
  rw [hw2] at HPS
  have heqY : ∀ u : World, (Op.equalIn 10000 31 (.agg (bytes Y).toArray) (.agg (bytes O).toArray)).run Tryd.prog u = .ok true u := by rw [hyo]; exact heqO
  clear hyo
  by_cases h64 : s.size = 64
  · have hn : ((s.size : Int) != 64) = false := by simp [h64]
    have HN := Lib.hid h64
    clear hw hw2 h64
    go_enter Tryd.func4, Tryd.ntmps4
    go_wp2_with (first
      | ((with_reducible refine wpBoxK (w := w) (bytes H) 31 ?_ ?_); rfl; intro u0 r0 b0 s0; have RH0 := Lib.hid r0; have B0 := Lib.hid b0; have S0 := Lib.hid s0; clear r0 b0 s0)
      | (go_at_call 8; (with_reducible refine (awake_any u0 (HG.out.step B0.out)).mono ?_); rintro e u1 ⟨rfl, b1⟩; have B1 : Hid (Below w.heap.size w u1) := Lib.hid (B0.out.next b1); have RH1 := Lib.hid (RH0.out.step b1); clear b1)
      | ((with_reducible refine RH1.out.wpLoadK 31 fits_hash LH.out ?_ ?_); rfl)
      | (go_at_call 19; (with_reducible refine (HHEX.out u1).mono ?_); rintro e u2 ⟨rfl, b2⟩; have B2 : Hid (Below w.heap.size w u2) := Lib.hid (B1.out.next b2); have RH2 := Lib.hid (RH1.out.step b2); clear b2)
      | (go_at_call 20; (with_reducible refine (HPT.out u2).mono ?_); rintro e u3 ⟨rfl, b3⟩; have B3 : Hid (Below w.heap.size w u3) := Lib.hid (B2.out.next b3); have RH3 := Lib.hid (RH2.out.step b3); clear b3)
      | ((with_reducible refine wpAllocK (w := u3) (bytes O) 31 HZ.out ?_ ?_); rfl; intro u4 r4 b4 s4; have RX4 := Lib.hid r4; have B4 : Hid (Below w.heap.size w u4) := Lib.hid (B3.out.next b4); have RH4 := Lib.hid (RH3.out.step b4); clear r4 b4 s4)
      | ((with_reducible refine RX4.out.wpStoreK 31 (bytes H) fits_hash LO.out LH.out H1.out ?_ ?_); rfl; intro u5 r5 o5 s5; have RX5 := Lib.hid r5; have RH5 := Lib.hid (RH4.out.only o5 (by have := RH3.out.lt; omega)); have B5 : Hid (Below w.heap.size w u5) := Lib.hid (B4.out.trans (o5.below B3.out.size B4.out.size)); clear r5 o5 s5)
      | (go_at_call 20; (with_reducible refine (HPS.out u5).mono ?_); rintro e u6 ⟨rfl, b6⟩; have B6 : Hid (Below w.heap.size w u6) := Lib.hid (B5.out.next b6); have RH6 := Lib.hid (RH5.out.step b6); have RX6 := Lib.hid (RX5.out.step b6); clear b6)
      | ((with_reducible refine wpAllocK (w := u6) (bytes O) 31 HZ.out ?_ ?_); rfl; intro u7 r7 b7 s7; have RY7 := Lib.hid r7; have B7 : Hid (Below w.heap.size w u7) := Lib.hid (B6.out.next b7); have RH7 := Lib.hid (RH6.out.step b7); have RX7 := Lib.hid (RX6.out.step b7); clear r7 b7 s7)
      | ((with_reducible refine RY7.out.wpStoreK 31 (bytes Y) fits_hash LO.out LY.out Y1.out ?_ ?_); rfl; intro u8 r8 o8 s8; have RY8 := Lib.hid r8; have RH8 := Lib.hid (RH7.out.only o8 (by have := RH6.out.lt; omega)); have RX8 := Lib.hid (RX7.out.only o8 (by have := RX6.out.lt; omega)); have B8 : Hid (Below w.heap.size w u8) := Lib.hid (B7.out.trans (o8.below B6.out.size B7.out.size)); clear r8 o8 s8)
      | ((with_reducible refine RH8.out.wpLoadK 31 fits_hash LH.out ?_ ?_); rfl)
      | (go_at_call 21; (with_reducible refine (HRH.out u8).mono ?_); rintro e u9 ⟨rfl, b9⟩; have B9 : Hid (Below w.heap.size w u9) := Lib.hid (B8.out.next b9); have RH9 := Lib.hid (RH8.out.step b9); have RX9 := Lib.hid (RX8.out.step b9); have RY9 := Lib.hid (RY8.out.step b9); clear b9)
      | ((with_reducible refine RX9.out.wpLoadG 31 fits_hash LH.out ?_ ?_); rfl)
      | ((with_reducible refine RH9.out.wpLoadG 31 fits_hash LH.out ?_ ?_); rfl)
      | ((with_reducible refine RY9.out.wpLoadG 31 fits_hash LY.out ?_ ?_); rfl)
      | ((with_reducible refine wpBuildZeroK (bytes O) 31 HBU.out ?_ ?_); rfl)
      | (go_at_call 21; (with_reducible refine (HRY.out u9).mono ?_); rintro e u10 ⟨rfl, b10⟩; have B10 : Hid (Below w.heap.size w u10) := Lib.hid (B9.out.next b10); clear b10))
    go_ret
    exact ⟨rfl, B10.out⟩
  · have hn : ((s.size : Int) != 64) = true := by simp; omega
    clear hw hw2 h64
    go_enter Tryd.func4, Tryd.ntmps4
    go_wp2_with (first
      | ((with_reducible refine wpBoxK (w := w) (bytes H) 31 ?_ ?_); rfl; intro u0 r0 b0 s0; have RH0 := Lib.hid r0; have B0 := Lib.hid b0; have S0 := Lib.hid s0; clear r0 b0 s0)
      | (go_at_call 8; (with_reducible refine (awake_any u0 (HG.out.step B0.out)).mono ?_); rintro e u1 ⟨rfl, b1⟩; have B1 : Hid (Below w.heap.size w u1) := Lib.hid (B0.out.next b1); have RH1 := Lib.hid (RH0.out.step b1); clear b1)
      | ((with_reducible refine RH1.out.wpLoadK 31 fits_hash LH.out ?_ ?_); rfl)
      | (go_at_call 19; (with_reducible refine (HHEX.out u1).mono ?_); rintro e u2 ⟨rfl, b2⟩; have B2 : Hid (Below w.heap.size w u2) := Lib.hid (B1.out.next b2); have RH2 := Lib.hid (RH1.out.step b2); clear b2)
      | (go_at_call 20; (with_reducible refine (HPT.out u2).mono ?_); rintro e u3 ⟨rfl, b3⟩; have B3 : Hid (Below w.heap.size w u3) := Lib.hid (B2.out.next b3); have RH3 := Lib.hid (RH2.out.step b3); clear b3)
      | ((with_reducible refine wpAllocK (w := u3) (bytes O) 31 HZ.out ?_ ?_); rfl; intro u4 r4 b4 s4; have RX4 := Lib.hid r4; have B4 : Hid (Below w.heap.size w u4) := Lib.hid (B3.out.next b4); have RH4 := Lib.hid (RH3.out.step b4); clear r4 b4 s4)
      | ((with_reducible refine RX4.out.wpStoreK 31 (bytes H) fits_hash LO.out LH.out H1.out ?_ ?_); rfl; intro u5 r5 o5 s5; have RX5 := Lib.hid r5; have RH5 := Lib.hid (RH4.out.only o5 (by have := RH3.out.lt; omega)); have B5 : Hid (Below w.heap.size w u5) := Lib.hid (B4.out.trans (o5.below B3.out.size B4.out.size)); clear r5 o5 s5)
      | (go_at_call 20; (with_reducible refine (HPS.out u5).mono ?_); rintro e u6 ⟨rfl, b6⟩; have B6 : Hid (Below w.heap.size w u6) := Lib.hid (B5.out.next b6); have RH6 := Lib.hid (RH5.out.step b6); have RX6 := Lib.hid (RX5.out.step b6); clear b6)
      | ((with_reducible refine wpAllocK (w := u6) (bytes O) 31 HZ.out ?_ ?_); rfl; intro u7 r7 b7 s7; have RY7 := Lib.hid r7; have B7 : Hid (Below w.heap.size w u7) := Lib.hid (B6.out.next b7); have RH7 := Lib.hid (RH6.out.step b7); have RX7 := Lib.hid (RX6.out.step b7); clear r7 b7 s7)
      | ((with_reducible refine RY7.out.wpStoreK 31 (bytes Y) fits_hash LO.out LY.out Y1.out ?_ ?_); rfl; intro u8 r8 o8 s8; have RY8 := Lib.hid r8; have RH8 := Lib.hid (RH7.out.only o8 (by have := RH6.out.lt; omega)); have RX8 := Lib.hid (RX7.out.only o8 (by have := RX6.out.lt; omega)); have B8 : Hid (Below w.heap.size w u8) := Lib.hid (B7.out.trans (o8.below B6.out.size B7.out.size)); clear r8 o8 s8)
      | ((with_reducible refine RH8.out.wpLoadK 31 fits_hash LH.out ?_ ?_); rfl)
      | (go_at_call 21; (with_reducible refine (HRH.out u8).mono ?_); rintro e u9 ⟨rfl, b9⟩; have B9 : Hid (Below w.heap.size w u9) := Lib.hid (B8.out.next b9); have RH9 := Lib.hid (RH8.out.step b9); have RX9 := Lib.hid (RX8.out.step b9); have RY9 := Lib.hid (RY8.out.step b9); clear b9)
      | ((with_reducible refine RX9.out.wpLoadG 31 fits_hash LH.out ?_ ?_); rfl)
      | ((with_reducible refine RH9.out.wpLoadG 31 fits_hash LH.out ?_ ?_); rfl)
      | ((with_reducible refine RY9.out.wpLoadG 31 fits_hash LY.out ?_ ?_); rfl)
      | ((with_reducible refine wpBuildZeroK (bytes O) 31 HBU.out ?_ ?_); rfl)
      | (go_at_call 21; (with_reducible refine (HRY.out u9).mono ?_); rintro e u10 ⟨rfl, b10⟩; have B10 : Hid (Below w.heap.size w u10) := Lib.hid (B9.out.next b10); clear b10))
    go_ret
    exact ⟨rfl, B9.out⟩

end Go.Proofs.YtbehbefijiaehaaDoor
