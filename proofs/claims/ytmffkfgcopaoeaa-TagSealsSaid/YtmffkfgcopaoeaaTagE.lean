/- Contracts of the document's answers for sectors. -/
import Derived.Test.YtmffkfgcopaoeaaTagD
namespace Go.Proofs.Ytmffkfgcopaoeaa
open Go.RowKit CrcMath
set_option linter.unusedVariables false
set_option maxRecDepth 100000

set_option maxHeartbeats 1000000 in
theorem refText_any (A : List UInt8) (w : World) (hA : A.length = 60) :
    Calls Try.prog 17 #[.agg (bytes A).toArray] w fun e w' => e = .returned (.string (str A)) ∧ Below w.heap.size w w' := by
  have LA := Lib.hid hA
  clear hA
  go_enter Try.func17, Try.ntmps17
  go_wp2_with (first
    | ((with_reducible refine wpBoxK (w := w) (bytes A) 23 ?_ ?_); rfl; intro u0 r0 b0 s0; have R0 := Lib.hid r0; have B0 := Lib.hid b0; have S0 := Lib.hid s0; clear r0 b0 s0))
  have hown0 : (u0.alloc (.cells #[] 5)).ownsRow u0.heap.size 5 1 (.slice (some ⟨u0.heap.size, 0, none⟩) 0 0) 0 (bytes (A.take 0)) := by
    have h1 : Row (u0.alloc (.cells #[] 5)) u0.heap.size 5 ([] ++ []) := Row.new u0 _ []
    have := h1.owns (base := u0.heap.size) (n := 0) (cap := 0) (Nat.le_refl _) rfl rfl (by omega) (by unfold maxLen; omega)
    simpa [bytes] using this
  have hr1 := R0.out.step (alloc_below u0 (.cells #[] 5))
  have hb1 := B0.out.next (alloc_below u0 (.cells #[] 5))
  have hz1 : u0.heap.size ≤ (u0.alloc (.cells #[] 5)).heap.size := (alloc_below u0 (.cells #[] 5)).size
  have HOWN := Lib.hid hown0
  have HR := Lib.hid hr1
  have HB := Lib.hid hb1
  have HZ := Lib.hid hz1
  obtain ⟨M, hM⟩ : ∃ M, M = u0.heap.size := ⟨_, rfl⟩
  have hMw : w.heap.size < M := by have := S0.out; omega
  clear hown0 hr1 hb1 hz1 R0 B0 S0
  go_loopw [4, 3] (fun i v wr => ∃ k : Nat, k ≤ 60 ∧ i = .int .i64 k ∧ wr.ownsRow M 5 1 v k (bytes (A.take k)) ∧ Row wr w.heap.size 23 (bytes A) ∧ M ≤ wr.heap.size ∧ Below w.heap.size w wr) (fun i _ _ => 60 - (intOf i).toNat)
  case atStart => exact ⟨0, by omega, rfl, by rw [hM]; exact HOWN.out, HR.out, by rw [hM]; exact HZ.out, HB.out⟩
  case round =>
    clear HOWN HR HB HZ hM
    obtain ⟨k, hk, rfl, hown, hr, hmw, hbw⟩ := hrel
    by_cases hlt : k < 60
    · have hkA : k < A.length := by rw [LA.out]; exact hlt
      obtain ⟨b, hb⟩ : ∃ b, A[k] = b := ⟨_, rfl⟩
      have hcell : wr.cell? ⟨w.heap.size, k, none⟩ = some (.int .u8 (b.toNat : Int)) := by rw [hr.cell, bytes_get _ _ hkA, hb]
      have HT : Hid (bytes (A.take (k + 1)) = bytes (A.take k) ++ [.int .u8 (b.toNat : Int)]) := Lib.hid (by rw [List.take_succ_eq_append_getElem hkA, hb, bytes_append]; rfl)
      have HOWN := Lib.hid (hown.alloc (.cells #[.int .u8 (b.toNat : Int)] 5))
      have HL : Hid (Lies (wr.alloc (.cells #[.int .u8 (b.toNat : Int)] 5)) (wr.alloc (.cells #[.int .u8 (b.toNat : Int)] 5)).heap.size (some ⟨wr.heap.size, 0, none⟩) [.int .u8 (b.toNat : Int)]) := Lib.hid (Lies.new [_] _ _)
      have HBW := Lib.hid (hbw.alloc hbw.size (.cells #[.int .u8 (b.toNat : Int)] 5))
      have HR := Lib.hid (hr.alloc (.cells #[.int .u8 (b.toNat : Int)] 5))
      have HZZ : Hid (M ≤ (wr.alloc (.cells #[.int .u8 (b.toNat : Int)] 5)).heap.size) := Lib.hid (by simp; omega)
      have HO1 : Hid ((Value.int .u8 (b.toNat : Int)).oneCell' = true) := Lib.hid rfl
      have HPK : Big (k + 1 ≤ 1099511627776) := ⟨by omega⟩
      have HOL : Hid (∀ j, u3.ownBlock = some j → M ≤ j) := Lib.hid fun j hj => (hown.lt j hj).1
      have hk1 : (k : Int) < 60 := by omega
      clear hown hr hmw hbw hb hkA
      go_wp2_with (first
        | ((with_reducible refine wpAppend1K HOWN.out Try.underlying39 tag_byte HL.out HO1.out HPK HZZ.out ?_ ?_); rfl; intro v1 w1 g1 g2 g3; have HV1 := Lib.hid g1; have HG1 := Lib.hid g2; clear g1 g2 g3))
      go_roundw
      case rel =>
        have hb1 := HBW.out.grown HG1.out HBW.out.size (fun j hj => by have := HOL.out j hj; omega)
        refine ⟨k + 1, by omega, by go_num, by rw [HT.out]; exact HV1.out, (HG1.out.block w.heap.size HR.out.lt (fun e => by have := HOL.out _ e.symm; omega)).trans HR.out, Nat.le_trans HZZ.out HG1.out.size, hb1⟩
      case measure => simp [intOf]; omega
    · have ek : k = 60 := by omega
      rw [ek, List.take_of_length_le (by rw [LA.out]; omega)] at hown
      have hconv := own_string hown
      have HB := Lib.hid hbw
      clear hown hr hmw hbw ek
      go_wp2
      go_ret
      exact ⟨rfl, HB.out⟩


theorem tag_size_byte : (Try.prog.info? 5).map (·.size) = some 1 := by kernel_rfl
/-- The block while it is filled. -/
def fillB (l : List UInt8) (k : Nat) : List UInt8 := l.take k ++ List.replicate (60 - k) 0
theorem fillB_length (l : List UInt8) (k : Nat) (h : k ≤ l.length) (h2 : k ≤ 60) : (fillB l k).length = 60 := by simp [fillB]; omega
theorem fillB_next (l : List UInt8) (k : Nat) (h : k < l.length) (h2 : k < 60) : (fillB l k).set k l[k] = fillB l (k + 1) := by
  rw [fillB, fillB, List.set_append_right _ _ (by simp; omega)]
  have e : k - (l.take k).length = 0 := by simp; omega
  rw [e, show 60 - k = (60 - (k + 1)) + 1 by omega, List.replicate_succ, List.set_cons_zero, List.take_succ_eq_append_getElem h, List.append_assoc]
  rfl
theorem fillB_end (l : List UInt8) (k : Nat) (h : k ≤ l.length) (h2 : k ≤ 60) (h3 : ¬ (k < 60 ∧ k < l.length)) : fillB l k = blk l := by
  rw [fillB, blk]
  by_cases h4 : k = 60
  · subst h4
    rw [show 60 - l.length = 0 by omega]
  · have e : k = l.length := by omega
    rw [e, List.take_of_length_le (by omega), List.take_of_length_le (by omega)]

set_option maxHeartbeats 1000000 in
theorem refBlock_any (s : ByteArray) (w : World) (hs : s.size ≤ 140737488355328) :
    Calls Try.prog 12 #[.string s] w fun e w' => e = .returned (.agg (bytes (blk s.data.toList)).toArray) ∧ Below w.heap.size w w' := by
  obtain ⟨O, hO⟩ : ∃ O : List UInt8, O = List.replicate 60 0 := ⟨_, rfl⟩
  have HZ0 : Hid (∀ u, (zeroValue 23).run Try.prog u = .ok (.agg (bytes O).toArray) u) := Lib.hid (by rw [hO]; exact tag_zero)
  have LO : Hid ((bytes O).length = 60) := Lib.hid (by rw [hO, bytes_length, List.length_replicate])
  have HO1 : Hid ((bytes O).all (·.oneCell') = true) := Lib.hid (bytes_oneC O)
  have HBU : Hid (Try.prog.built 23 [] = some (bytes O).toArray) := Lib.hid (by rw [hO]; kernel_rfl)
  have HOF : Hid (bytes O = bytes (fillB s.data.toList 0)) := Lib.hid (by rw [hO]; rfl)
  have hsl := size_list s
  have HSL := Lib.hid hsl
  clear hO hsl
  go_enter Try.func12, Try.ntmps12
  go_wp2_with (first
    | ((with_reducible refine wpAllocK (w := w) (bytes O) 23 HZ0.out ?_ ?_); rfl; intro u1 r1 b1 s1; have R1 := Lib.hid r1; have B1 := Lib.hid b1; have S1 := Lib.hid s1; clear r1 b1 s1)
    | ((with_reducible refine wpBuildZeroK (bytes O) 23 HBU.out ?_ ?_); rfl)
    | ((with_reducible refine wpAllocK (w := u1) (bytes O) 23 HZ0.out ?_ ?_); rfl; intro u2 r2 b2 s2; have R2 := Lib.hid r2; have Q2 := Lib.hid (R1.out.step b2); have B2 : Hid (Below w.heap.size w u2) := Lib.hid (B1.out.next b2); clear r2 b2 s2)
    | ((with_reducible refine R2.out.wpStoreK 23 (bytes O) fits_block LO.out LO.out HO1.out ?_ ?_); rfl; intro u3 r3 o3 s3; rw [HOF.out] at r3; have R3 := Lib.hid r3; have Q3 := Lib.hid (Q2.out.only o3 (by have := S1.out; omega)); have B3 : Hid (Below w.heap.size w u3) := Lib.hid (B2.out.trans (o3.below B1.out.size B2.out.size)); clear r3 o3 s3))
  obtain ⟨g, hg⟩ : ∃ g, g = u1.heap.size := ⟨_, rfl⟩
  rw [← hg] at R3 ⊢
  have HGW : Hid (w.heap.size < g) := Lib.hid (by rw [hg, S1.out]; omega)
  clear hg
  go_loopw [4] (fun i wr => ∃ k : Nat, k ≤ 60 ∧ k ≤ s.size ∧ i = .int .i64 k ∧ Row wr g 23 (bytes (fillB s.data.toList k)) ∧ Row wr w.heap.size 23 (bytes O) ∧ Below w.heap.size w wr) (fun i _ => 60 - (intOf i).toNat)
  case atStart => exact ⟨0, by omega, by omega, rfl, R3.out, Q3.out, B3.out⟩
  case round =>
    obtain ⟨k, hk, hks, rfl, hrow, hrow0, hbw⟩ := hrel
    have HR := Lib.hid hrow
    have HQ := Lib.hid hrow0
    have HB := Lib.hid hbw
    clear hrow hrow0 hbw
    by_cases hlt : k < 60 ∧ k < s.size
    · have h1 := hlt.1
      have h2 := hlt.2
      have hi1 : (k : Int) < 60 := by omega
      have hi2 : (k : Int) < (s.size : Int) := by omega
      have HLEN : Hid (k < (bytes (fillB s.data.toList k)).length) := Lib.hid (by rw [bytes_length, fillB_length _ _ (by rw [HSL.out]; omega) hk]; exact h1)
      have hkl : k < s.data.toList.length := by rw [HSL.out]; exact h2
      have HNX : Hid ((bytes (fillB s.data.toList k)).set k (.int .u8 (s[k].toNat : Int)) = bytes (fillB s.data.toList (k + 1))) := Lib.hid (by
        rw [← fillB_next s.data.toList k hkl h1, bytes_set]
        rfl)
      generalize bytes (fillB s.data.toList k) = F at HR HLEN HNX
      clear hlt
      go_wp2_with (first
        | ((with_reducible refine HR.out.wpStore1K k 5 (.int .u8 (s[k].toNat : Int)) tag_size_byte HLEN.out ?_ ?_ ?_ ?_); rfl; rfl; rfl; intro w2 r2 o2 s2; rw [HNX.out] at r2; have R2 := Lib.hid r2; have Q2 := Lib.hid (HQ.out.only o2 (by have := HGW.out; omega)); have B2 : Hid (Below w.heap.size w w2) := Lib.hid (HB.out.trans (o2.below (by have := HGW.out; omega) HB.out.size)); clear r2 o2 s2))
      go_roundw
      case rel => exact ⟨k + 1, by omega, by omega, by go_num, R2.out, Q2.out, B2.out⟩
      case measure => simp [intOf]; omega
    · have HE : Hid (bytes (fillB s.data.toList k) = bytes (blk s.data.toList)) := Lib.hid (by rw [fillB_end _ _ (by rw [HSL.out]; exact hks) hk (by rw [HSL.out]; exact hlt)])
      rw [HE.out] at HR
      have LB : Hid ((bytes (blk s.data.toList)).length = 60) := Lib.hid (by rw [bytes_length, blk_length])
      have LB1 : Hid ((bytes (blk s.data.toList)).all (·.oneCell') = true) := Lib.hid (bytes_oneC _)
      obtain ⟨B, hB⟩ : ∃ B, bytes (blk s.data.toList) = B := ⟨_, rfl⟩
      rw [hB] at HR LB LB1 HE
      have HBE := Lib.hid hB
      clear hB
      have hcase : (¬ (k : Int) < 60) ∨ ((k : Int) < 60 ∧ ¬ (k : Int) < (s.size : Int)) := by omega
      clear hlt
      rcases hcase with h1 | ⟨h1, h2⟩
      all_goals
        go_wp2_with (first
          | ((with_reducible refine HR.out.wpLoadK 23 fits_block LB.out ?_ ?_); rfl)
          | ((with_reducible refine HQ.out.wpStoreK 23 B fits_block LO.out LB.out LB1.out ?_ ?_); rfl; intro w2 r2 o2 s2; have R2 := Lib.hid r2; have B2 : Hid (Below w.heap.size w w2) := Lib.hid (HB.out.trans (o2.below (Nat.le_refl _) HB.out.size)); clear r2 o2 s2))
        exact bodyPost_ret (R2.out.result rfl _ _ rfl Try.underlying23 rfl (by rw [LB.out]; exact fits_block.size)) rfl ⟨by rw [HBE.out], B2.out⟩

theorem refTSeal_any (l : List UInt8) (w : World) (hl : l.length = 60) :
    Calls Try.prog 11 #[.agg (bytes l).toArray] w fun e w' => e = .returned (.string (str (sealB l))) ∧ Below w.heap.size w w' := by
  have HT : Hid (∀ u, Calls Try.prog 17 #[.agg (bytes l).toArray] u fun e w' => e = .returned (.string (str l)) ∧ Below u.heap.size u w') := Lib.hid fun u => refText_any l u hl
  have HS : Hid (∀ u, Calls Try.prog 28 #[.string (str l)] u fun e w' => e = .returned (.string (str (sealB l))) ∧ Below u.heap.size u w') := Lib.hid fun u => by
    have := refSeal_any (str l) u (by rw [str_size, hl]; omega)
    rwa [str_list] at this
  obtain ⟨L, hL⟩ : ∃ L, L = bytes l := ⟨_, rfl⟩
  have LL : Hid (L.length = 60) := Lib.hid (by rw [hL, bytes_length, hl])
  rw [← hL] at HT ⊢
  generalize str (sealB l) = S at HS ⊢
  generalize str l = T at HT HS
  clear hL hl
  go_enter Try.func11, Try.ntmps11
  go_wp2_with (first
    | ((with_reducible refine wpBoxK (w := w) L 23 ?_ ?_); rfl; intro u1 r1 b1 s1; have R1 := Lib.hid r1; have B1 := Lib.hid b1; clear r1 b1 s1)
    | ((with_reducible refine R1.out.wpLoadK 23 fits_block LL.out ?_ ?_); rfl)
    | (go_at_call 17; (with_reducible refine (HT.out u1).mono ?_); rintro e u2 ⟨rfl, b2⟩; have B2 : Hid (Below w.heap.size w u2) := Lib.hid (B1.out.next b2); clear b2)
    | (go_at_call 28; (with_reducible refine (HS.out u2).mono ?_); rintro e u3 ⟨rfl, b3⟩; have B3 : Hid (Below w.heap.size w u3) := Lib.hid (B2.out.next b3); clear b3))
  go_ret
  exact ⟨rfl, B3.out⟩

theorem refRight_any (s : ByteArray) (w : World) (hs : s.size ≤ 140737488351232) :
    Calls Try.prog 13 #[.string s] w fun e w' => e = .returned (.bool (rightT s.data.toList)) ∧ Below w.heap.size w w' := by
  have HO := Lib.hid (refOpen_any s w hs)
  obtain ⟨a, ha⟩ : ∃ a, a = decide ((openR s.data.toList).2 = 0) := ⟨_, rfl⟩
  obtain ⟨c, hc⟩ : ∃ c, c = decide (s.size = 64) := ⟨_, rfl⟩
  have hr : rightT s.data.toList = (a && c) := by rw [rightT, size_list, ha, hc]
  rw [hr]
  generalize (openR s.data.toList).1 = X at HO
  generalize (openR s.data.toList).2 = n at HO ha
  have h1 : (n == 0) = a := by rw [ha]; by_cases h : n = 0 <;> simp [h]
  have h2 : ((s.size : Int) == 64) = c := by
    rw [hc]
    by_cases h : s.size = 64
    · simp [h]
    · have h' : ¬ (s.size : Int) = 64 := by omega
      simp [h, h']
  clear ha hc hr hs
  cases a
  all_goals cases c
  all_goals
    go_enter Try.func13, Try.ntmps13
    go_wp2_with (go_at_call 29; (with_reducible refine HO.out.mono ?_); rintro e u1 ⟨rfl, b1⟩; have B1 := Lib.hid b1; clear b1)
    go_ret
    exact ⟨rfl, B1.out⟩
end Go.Proofs.Ytmffkfgcopaoeaa
