/- The statement CrcTells: its walk. -/
import Derived.Test.YtkfjniaipnljmaaCrcT
import Derived.Deep.QuietTactic
import Derived.Test.YtkfjniaipnljmaaEq
namespace Go.Proofs.Ytkfjniaipnljmaa
open Go.RowKit CrcMath

set_option maxRecDepth 100000 in
set_option maxHeartbeats 1000000 in
theorem crcTells_walk (s : ByteArray) (at_ : Int) (b0 b1 b2 b3 : UInt8) (w : World) (hs : s.size ≤ 140737488351232) (hat : (Lit.int .i64 at_).wf = true) :
    Calls Try.prog 5 #[.string s, .int .i64 at_, .agg #[.int .u8 (b0.toNat : Int), .int .u8 (b1.toNat : Int), .int .u8 (b2.toNat : Int), .int .u8 (b3.toNat : Int)]] w fun e w' => e = .returned (.bool true) ∧ Below w.heap.size w w' := by
  by_cases hL : 3000 < s.size
  · go_enter Try.func5, Try.ntmps5
    go_wp2_with (go_at_call 7; refine (awake_any _).mono ?_; rintro e w1 ⟨rfl, hb1⟩)
    go_ret
    exact ⟨rfl, (alloc_below _ _).next hb1⟩
  · have hL2 : s.size ≤ 3000 := by omega
    have HS : Hid (∀ t ∈ [s], t.size ≤ maxLen) := Lib.hid (by intro t ht; rw [List.mem_singleton] at ht; rw [ht]; unfold maxLen; omega)
    have HLEN : Hid ((cat [s]).length ≤ 140737488355000) := Lib.hid (by rw [cat_one, size_list]; omega)
    obtain ⟨S, hS⟩ : ∃ S, S = str (sealB (cat [s])) := ⟨_, rfl⟩
    have hSz : S.size = s.size + 4 := by rw [hS, str_size, sealB_length, cat_one, size_list]
    have HSZ := Lib.hid hSz
    have HSI : Hid ((S.size : Int) = (s.size : Int) + 4) := Lib.hid (by omega)
    have HSL : Hid (S.data.toList = sealB s.data.toList) := Lib.hid (by rw [hS, str_list, cat_one])
    have HSS := Lib.hid hS
    have hSle : S.size ≤ 3004 := by omega
    clear hS hSz
    go_enter Try.func5, Try.ntmps5
    go_wp2_with (first
      | (go_at_call 7; refine (awake_any _).mono ?_; rintro e w1 ⟨rfl, hb1⟩)
      | (go_at_call 9; refine (new_any _).mono ?_; rintro e w3 ⟨b, rfl, hb, ht, hb3⟩; have HT := Lib.hid ht; clear ht))
    refine (seal_new b 1 1 [s] _ _ rfl HT.out hb (by decide) (by decide) HS.out HLEN.out).mono ?_
    rintro e w6 ⟨rfl, hb6⟩
    rw [← HSS.out]
    have hb36 := hb3.next hb6
    obtain ⟨n0, hn0⟩ : ∃ n0, n0 = w.heap.size := ⟨_, rfl⟩
    have hby : ∀ j u, #[Value.int .u8 (b0.toNat : Int), .int .u8 (b1.toNat : Int), .int .u8 (b2.toNat : Int), .int .u8 (b3.toNat : Int)][j]? = some u → w6.cell? ⟨n0, j, none⟩ = some u := fun j u hu => by
      rw [hn0]
      refine ((hb1.next hb36).cell (p := ⟨w.heap.size, j, none⟩) (by simp)).trans ?_
      rw [World.cell?_alloc_at _ _ _ j rfl]
      exact hu
    have hbT : Tab w6 b 0 := HT.out.below hb6 hb
    have hbz : b < w6.heap.size := Nat.lt_of_lt_of_le hb hb6.size
    have hBW : Below w.heap.size w w6 := (alloc_below _ _).next (hb1.next hb36)
    have hn6 : n0 < w6.heap.size := by
      have h1 := (hb1.next hb36).size
      rw [World.size_alloc] at h1
      omega
    obtain ⟨w7, cap, hconv, hrow, hb67⟩ := conv_new S w6
    rw [HSL.out] at hrow
    obtain ⟨g, hg⟩ : ∃ g, g = w6.heap.size := ⟨_, rfl⟩
    rw [← hg] at hconv hrow
    have hc7 : ∀ j u, #[Value.int .u8 (b0.toNat : Int), .int .u8 (b1.toNat : Int), .int .u8 (b2.toNat : Int), .int .u8 (b3.toNat : Int)][j]? = some u → w7.cell? ⟨n0, j, none⟩ = some u := fun j u hu =>
      (hb67.cell (p := ⟨n0, j, none⟩) hn6).trans (hby j u hu)
    have c0 := hc7 0 _ rfl
    have c1 := hc7 1 _ rfl
    have c2 := hc7 2 _ rfl
    have c3 := hc7 3 _ rfl
    have HT7 : Hid (Tab w7 b 0) := Lib.hid (hbT.below hb67 hbz)
    have hbz7 : b < w7.heap.size := Nat.lt_of_lt_of_le hbz hb67.size
    have HBW : Hid (Below w.heap.size w w7) := Lib.hid (hBW.next hb67)
    have HGW : Hid (w.heap.size ≤ g) := Lib.hid (by rw [hg]; exact hBW.size)
    have HGB : Hid (b < g) := Lib.hid (by rw [hg]; exact hbz)
    rw [← hn0]
    have HN0 := Lib.hid hn0
    have HROW := Lib.hid hrow
    clear hby hb1 hb3 hb6 hb36 hn0 hBW hbT hc7 hg hb67 hrow
    have hlen : ((S.size : Int) != (s.size : Int) + 4) = false := by rw [bne_eq_false_iff_eq]; exact HSI.out
    by_cases hneg : at_ < 0
    · have hd1 : decide (at_ < 0) = true := by simpa using hneg
      go_wp2_with (fail)
      go_ret
      exact ⟨rfl, HBW.out⟩
    have hd1 : decide (at_ < 0) = false := by simpa using hneg
    obtain ⟨k, rfl⟩ := Int.eq_ofNat_of_zero_le (show 0 ≤ at_ by omega)
    clear hneg
    by_cases hgt : s.size < k
    · have hd2 : decide (s.size < k) = true := by simpa using hgt
      go_wp2_with (fail)
      go_ret
      exact ⟨rfl, HBW.out⟩
    have hd2 : decide (s.size < k) = false := by simpa using hgt
    by_cases hmid : k < s.size ∧ s.size < k + 4
    · have hd3 : decide (k < s.size) = true := by simp; omega
      have hd4 : decide (s.size < k + 4) = true := by simp; omega
      have hd6 : decide ((s.size : Int) < (k : Int) + 4) = true := by simp; omega
      clear hmid
      go_wp2_with (fail)
      go_ret
      exact ⟨rfl, HBW.out⟩
    have hks : k ≤ s.size := by omega
    have heq : (Op.equalIn 10000 38 (.agg #[.int .u8 (b0.toNat : Int), .int .u8 (b1.toNat : Int), .int .u8 (b2.toNat : Int), .int .u8 (b3.toNat : Int)]) (.agg #[.int .u8 0, .int .u8 0, .int .u8 0, .int .u8 0])).run Try.prog w7 =
        .ok (decide ([(b0.toNat : Int), b1.toNat, b2.toNat, b3.toNat] = [0, 0, 0, 0])) w7 :=
      run_equal_ints 9998 38 5 4 .u8 [(b0.toNat : Int), b1.toNat, b2.toNat, b3.toNat] [0, 0, 0, 0] w7 Try.underlying38 Try.underlying5 (fun _ => Try.sizeOf5 _) (fun _ => Try.isAgg5 _) rfl rfl
    by_cases hz : [(b0.toNat : Int), b1.toNat, b2.toNat, b3.toNat] = [0, 0, 0, 0]
    · rw [decide_eq_true hz] at heq
      have HZ := Lib.hid hz
      clear hz
      by_cases hk4 : k < s.size
      · have hd3 : decide (k < s.size) = true := by simp; omega
        have hd4 : decide (s.size < k + 4) = false := by simp; omega
        go_wp2_with (fail)
        go_ret
        exact ⟨rfl, HBW.out⟩
      · have hd3 : decide (k < s.size) = false := by simp; omega
        go_wp2_with (fail)
        go_ret
        exact ⟨rfl, HBW.out⟩
    · rw [decide_eq_false hz] at heq
      have hz2 : ¬ (b0 = 0 ∧ b1 = 0 ∧ b2 = 0 ∧ b3 = 0) := by
        rintro ⟨rfl, rfl, rfl, rfl⟩
        exact hz rfl
      have HT4 : Hid (openR (mix (sealB s.data.toList) k (pick4 b0 b1 b2 b3) 4) = ([], 7)) := Lib.hid (tells _ _ _ _ _ _ hz2 (by rw [size_list]; omega))
      clear hz hz2
      have hlenL : Hid ((sealB s.data.toList).length = S.size) := Lib.hid (by rw [sealB_length, size_list, HSZ.out])
      by_cases hk4 : k < s.size
      all_goals
        first
          | have hd3 : decide (k < s.size) = true := by simp; omega
          | have hd3 : decide (k < s.size) = false := by simp; omega
        have hd4 : k < s.size → decide (s.size < k + 4) = false := by intro _; simp; omega
        try have hd5 := hd4 hk4
        clear hd4
        go_wp2_with (fail)
        go_loopw [57] (fun i wr => ∃ j : Nat, j ≤ 4 ∧ i = .int .i64 j ∧ Bytes wr g (mix (sealB s.data.toList) k (pick4 b0 b1 b2 b3) j) ∧ Below w.heap.size w wr ∧ Tab wr b 0) (fun i _ => 4 - (intOf i).toNat)
        case atStart => exact ⟨0, by omega, rfl, HROW.out, HBW.out, HT7.out⟩
        case round =>
          obtain ⟨j, hj, rfl, hrow, hbw, htab⟩ := hrel
          by_cases hj4 : j < 4
          · have hbyte : ∃ x : UInt8, x = pick4 b0 b1 b2 b3 j := ⟨_, rfl⟩
            obtain ⟨x, hx⟩ := hbyte
            have hkl : k + j < (mix (sealB s.data.toList) k (pick4 b0 b1 b2 b3) j).length := by rw [mix_length, hlenL.out, HSZ.out]; omega
            have hcl := hrow.cell (k + j) hkl
            have hfz := hrow.frozen (k + j) hkl
            have HNX : Hid (mix (sealB s.data.toList) k (pick4 b0 b1 b2 b3) (j + 1) = (mix (sealB s.data.toList) k (pick4 b0 b1 b2 b3) j).set (k + j) ((mix (sealB s.data.toList) k (pick4 b0 b1 b2 b3) j)[k + j] ^^^ x)) := Lib.hid (by
              rw [mix, hx, List.getD_eq_getElem?_getD, List.getElem?_eq_getElem hkl, Option.getD_some])
            generalize hy : (mix (sealB s.data.toList) k (pick4 b0 b1 b2 b3) j)[k + j] = y at hcl HNX
            have hset := hrow.set (k + j) (y ^^^ x) hkl
            rw [← HNX.out] at hset
            have hxor : bits .xor .u8 (y.toNat : Int) (x.toNat : Int) = ((y ^^^ x).toNat : Int) := by
              have h1 := y.toNat_lt
              have h2 := x.toNat_lt
              rw [u8_xor_nat _ _ (by omega) (by omega), UInt8.toNat_xor]
            have hidx : #[Value.int .u8 (b0.toNat : Int), .int .u8 (b1.toNat : Int), .int .u8 (b2.toNat : Int), .int .u8 (b3.toNat : Int)][j]? = some (.int .u8 (x.toNat : Int)) := by
              rw [hx]
              match j, hj4 with
              | 0, _ | 1, _ | 2, _ | 3, _ => rfl
            have hix := run_index_array (P := Try.prog) 38 5 4 .i64 _ j _ wr Try.underlying38 (fun _ => Try.sizeOf5 _) (fun _ => Try.isAgg5 _) hj4 hidx
            clear hidx
            have HSET := Lib.hid hset
            have HB2 : Hid (Below w.heap.size w (wr.setCell ⟨g, k + j, none⟩ (.int .u8 ((y ^^^ x).toNat : Int)))) := Lib.hid (hbw.setCell (p := ⟨g, k + j, none⟩) HGW.out _)
            have HTA : Hid (Tab (wr.setCell ⟨g, k + j, none⟩ (.int .u8 ((y ^^^ x).toNat : Int))) b 0) := Lib.hid (htab.below ((Below.refl g wr).setCell (p := ⟨g, k + j, none⟩) (Nat.le_refl _) _) HGB.out)
            have HX := Lib.hid hx
            have hkj : (k : Int) + (j : Int) < (S.size : Int) := by have := HSI.out; omega
            clear hx hy hset hrow hbw htab hkl
            go_wp2_with (fail)
            go_roundw
            case rel => exact ⟨j + 1, by omega, by go_num, HSET.out, HB2.out, HTA.out⟩
            case measure => simp [intOf]; omega
          · have ej : j = 4 := by omega
            subst ej
            have hcv := hrow.conv (cap := cap) (mix_length _ _ _ _)
            rw [hlenL.out] at hcv
            have hbzr : b < wr.heap.size := by have := hrow.lt; have := HGB.out; omega
            have HTR := Lib.hid htab
            have HM : Hid (openR (str (mix (sealB s.data.toList) k (pick4 b0 b1 b2 b3) 4)).data.toList = ([], 7)) := Lib.hid (by rw [str_list]; exact HT4.out)
            have hmz : (str (mix (sealB s.data.toList) k (pick4 b0 b1 b2 b3) 4)).size ≤ 3004 := by rw [str_size, mix_length, hlenL.out]; exact hSle
            have HSE : Hid (str [] = ByteArray.empty) := Lib.hid rfl
            clear htab hrow
            go_wp2_with (go_at_call 15; refine (open_any _ _ _ HTR.out hbzr (by omega)).mono ?_; rintro e w8 ⟨rfl, hb8⟩; rw [HM.out, HSE.out])
            go_ret
            exact ⟨rfl, hbw.next hb8⟩

end Go.Proofs.Ytkfjniaipnljmaa
