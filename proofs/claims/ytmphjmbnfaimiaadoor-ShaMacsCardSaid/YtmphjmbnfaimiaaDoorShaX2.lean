/- The document's Sum (gen_sha_sum.py). -/
import Derived.Test.YtmphjmbnfaimiaaDoorShaX5
namespace Go.Proofs.YtmphjmbnfaimiaaDoor
open Go.RowKit ShaMath
set_option linter.unusedVariables false
set_option maxRecDepth 100000

set_option maxHeartbeats 80000000 in
theorem refSum_any (s : ByteArray) (a : Option Addr) (ca : Nat) (b : Option Addr) (cb : Nat) (w : World) (hs : s.size ≤ 100000) (ha : Lies w w.heap.size a (tIs first)) (hb : Lies w w.heap.size b (tIs roots)) :
    Calls Tryd.prog 9 #[.agg #[.slice a 8 ca, .slice b 64 cb], .string s] w fun e w' => e = .returned (.agg (bytes (sha s.data.toList)).toArray) ∧ Below w.heap.size w w' := by
  have HA := Lib.hid ha
  have HB := Lib.hid hb
  obtain ⟨N, hN⟩ : ∃ N, s.size = N := ⟨_, rfl⟩
  have hNI : (N : Int) ≤ 100000 := by omega
  have HN := Lib.hid hN
  obtain ⟨L, hL⟩ : ∃ L, s.data.toList = L := ⟨_, rfl⟩
  have HL := Lib.hid hL
  have HLL : Hid (L.length = N) := Lib.hid (by rw [← hL, size_list, hN])
  have HCV : Hid (∀ w2 : World, ∃ v w', (convert 9 47 (.string s)).run Tryd.prog w2 = .ok v w' ∧ OwnsT w' w2.heap.size 5 v N (bytes L) ∧ Below w2.heap.size w2 w') := Lib.hid fun w2 => by
    have h := conv_ownsT (P := Tryd.prog) s w2 9 47 5 Tryd.underlying9 Tryd.underlying47 Tryd.underlying5 (by omega)
    rw [hN, hL] at h
    exact h
  obtain ⟨Z32, hZ32⟩ : ∃ Z, List.replicate 32 (Value.int .u8 0) = Z := ⟨_, rfl⟩
  have HZ : Hid (∀ u, (zeroValue 31).run Tryd.prog u = .ok (.agg Z32.toArray) u) := Lib.hid (by rw [← hZ32]; exact sx_zero_hash)
  have HZ32 := Lib.hid hZ32
  rw [hL]
  have hsz : s.size = N := hN
  clear ha hb hs hL hZ32
  go_enter Tryd.func9, Tryd.ntmps9
  go_wp2_with (first
    | ((with_reducible refine wpBoxK [Value.slice a 8 ca, .slice b 64 cb] 27 ?_ ?_); rfl; intro w1 r1 b1 s1; have R1 := Lib.hid r1; have B1 := Lib.hid b1; clear r1 b1 s1)
    | ((with_reducible refine wpAllocK Z32 31 HZ.out ?_ ?_); rfl; intro w2 r2 b2 s2; have RO := Lib.hid r2; have RC := Lib.hid (R1.out.step b2); have B2 := Lib.hid (B1.out.next b2); obtain ⟨v3, w3, hcv, ho3, hb3⟩ := HCV.out w2; have O3 := Lib.hid ho3; have B3 := Lib.hid hb3; have OA3 := Lib.hid (O3.out.alloc (.cells #[.int .u8 128] 5)); have CA3 : Hid ((w3.alloc (.cells #[.int .u8 128] 5)).cell? ⟨w3.heap.size, 0, none⟩ = some (.int .u8 128)) := Lib.hid ((Row.new w3 5 [.int .u8 128]).cell 0); have BA3 := Lib.hid (B3.out.alloc B3.out.size (.cells #[.int .u8 128] 5)); have HO1 : Hid ((Value.int .u8 128).oneCell' = true) := Lib.hid rfl; have HPK : Big (N + 1 ≤ 1099511627776) := ⟨by omega⟩; have HZ3 := Lib.hid BA3.out.size; clear r2 b2 s2 ho3 hb3)
    | ((with_reducible refine OA3.out.wpAppend1 Tryd.underlying47 sx_one_byte CA3.out HO1.out HPK HZ3.out ?_ ?_); rfl; intro v4 w4 o4 g4; have O4 := Lib.hid o4; have B4 := Lib.hid (BA3.out.grown g4 BA3.out.size (fun k hk => (O3.out.lt k hk).1)); clear o4 g4))
  clear hsz
  obtain ⟨z, hz⟩ : ∃ z, (119 - N % 64) % 64 = z := ⟨_, rfl⟩
  have HZZ := Lib.hid hz
  have hz64 : z < 64 := by omega
  have HP0 : Hid (OwnsT w4 w2.heap.size 5 v4 (N + 1 + 0) (bytes (L ++ 128 :: List.replicate 0 0))) := Lib.hid (by
    have h : bytes (L ++ 128 :: List.replicate 0 0) = bytes L ++ [.int .u8 128] := by rw [bytes_append]; rfl
    rw [h]; exact O4.out)
  go_loopw [5] (fun v wr => ∃ j : Nat, j ≤ z ∧ OwnsT wr w2.heap.size 5 v (N + 1 + j) (bytes (L ++ 128 :: List.replicate j 0)) ∧ Below w2.heap.size w2 wr) (fun v _ => N + 1 + z - lenV v)
  case atStart => exact ⟨0, Nat.zero_le _, HP0.out, B4.out⟩
  case round =>
    clear HP0
    obtain ⟨j, hj, hown, hbw⟩ := hrel
    obtain ⟨gb, cp, rfl, hgb, hcp, hl⟩ := hown.lies
    have HOWN := Lib.hid hown
    have HW := Lib.hid hbw
    obtain ⟨m, hm⟩ : ∃ m, N + 1 + j = m := ⟨_, rfl⟩
    have HM := Lib.hid hm
    rw [hm] at HOWN ⊢
    clear hown hbw hl hgb hcp
    have hmI : (m : Int) ≤ 100100 := by omega
    by_cases hlt : j < z
    · have e1 : ¬ (m : Int) % 64 = 56 := by omega
      have e2 : ((m : Int) % 64 == 56) = false := beq_false_of_ne e1
      have e3 : ((m : Int) % 64 != 56) = true := by rw [bne, e2]; rfl
      have OA := Lib.hid (HOWN.out.alloc (.cells #[.int .u8 0] 5))
      have CA : Hid ((wr.alloc (.cells #[.int .u8 0] 5)).cell? ⟨wr.heap.size, 0, none⟩ = some (.int .u8 0)) := Lib.hid ((Row.new wr 5 [.int .u8 0]).cell 0)
      have BA := Lib.hid (HW.out.alloc HW.out.size (.cells #[.int .u8 0] 5))
      have HO1 : Hid ((Value.int .u8 0).oneCell' = true) := Lib.hid rfl
      have HPK : Big (m + 1 ≤ 1099511627776) := ⟨by omega⟩
      have HZB := Lib.hid BA.out.size
      have HNX : Hid (bytes (L ++ 128 :: List.replicate (j + 1) 0) = bytes (L ++ 128 :: List.replicate j 0) ++ [.int .u8 0]) := Lib.hid (pad_next L j)
      clear e1
      go_wp2_with ((with_reducible refine OA.out.wpAppend1 Tryd.underlying47 sx_one_byte CA.out HO1.out HPK HZB.out ?_ ?_); rfl; intro v5 w5 o5 g5; have O5 := Lib.hid o5; have B5 := Lib.hid (BA.out.grown g5 BA.out.size (fun k hk => (HOWN.out.lt k hk).1)); clear o5 g5)
      go_roundw
      case rel => exact ⟨j + 1, by omega, by rw [HNX.out, show N + 1 + (j + 1) = m + 1 from by omega]; exact O5.out, B5.out⟩
      case measure =>
        obtain ⟨g5, c5, e5, _⟩ := O5.out.lies
        rw [e5]
        simp only [lenV]
        omega
    · have e1 : (m : Int) % 64 = 56 := by omega
      have hjz : j = z := by omega
      have HJ := Lib.hid hjz
      obtain ⟨w5, rfl⟩ : ∃ w5, w5 = wr := ⟨_, rfl⟩
      obtain ⟨L2, hL2⟩ : ∃ L2, L ++ 128 :: List.replicate j 0 = L2 := ⟨_, rfl⟩
      rw [hL2] at HOWN
      have HL2 := Lib.hid hL2
      clear hL2 hjz hlt
      have HP1 : Hid (OwnsT w5 w2.heap.size 5 (.slice (some ⟨gb, 0, none⟩) m cp) (m + 0) (bytes (L2 ++ (eightB (8 * N)).take 0))) := Lib.hid (by rw [List.take_zero, List.append_nil]; exact HOWN.out)
      have hN8 : 8 * (N : Int) ≤ 800000 := by omega
      have hlen : s.size = N := HN.out
      go_wp2
      have HE56 := Lib.hid e1
      clear hlen e1
      go_loopw [5, 7] (fun v i wr => ∃ (q : Nat) (xi : Int), q ≤ 8 ∧ i = .int .i64 xi ∧ xi = 7 - (q : Int) ∧ OwnsT wr w2.heap.size 5 v (m + q) (bytes (L2 ++ (eightB (8 * N)).take q)) ∧ Below w2.heap.size w2 wr) (fun _ i _ => (intOf i + 1).toNat)
      case atStart => exact ⟨0, 7, Nat.zero_le _, rfl, rfl, HP1.out, HW.out⟩
      case round =>
        clear HP1 HOWN HW
        obtain ⟨q, xi, hq, rfl, hxi, hown, hbw⟩ := hrel
        have HOWN := Lib.hid hown
        have HW := Lib.hid hbw
        clear hown hbw
        by_cases hlt : q < 8
        · have HO0 : Hid ((Value.int .u8 ((8 * N / 256 ^ (7 - q) % 256 : Nat) : Int)).oneCell' = true) := Lib.hid rfl
          have HNX : Hid (bytes (L2 ++ (eightB (8 * N)).take (q + 1)) = bytes (L2 ++ (eightB (8 * N)).take q) ++ [.int .u8 ((8 * N / 256 ^ (7 - q) % 256 : Nat) : Int)]) := Lib.hid (tail_next L2 (8 * N) q hlt)
          obtain ⟨y, hy⟩ : ∃ y : Nat, 8 * N / 256 ^ (7 - q) % 256 = y := ⟨_, rfl⟩
          rw [hy] at HO0 HNX
          have hy8 : y < 256 := by rw [← hy]; exact Nat.mod_lt _ (by omega)
          have OA := Lib.hid (HOWN.out.alloc (.cells #[.int .u8 (y : Int)] 5))
          have CA : Hid ((wr.alloc (.cells #[.int .u8 (y : Int)] 5)).cell? ⟨wr.heap.size, 0, none⟩ = some (.int .u8 (y : Int))) := Lib.hid ((Row.new wr 5 [.int .u8 (y : Int)]).cell 0)
          have BA := Lib.hid (HW.out.alloc HW.out.size (.cells #[.int .u8 (y : Int)] 5))
          have HPK : Big (m + q + 1 ≤ 1099511627776) := ⟨by omega⟩
          have HZB := Lib.hid BA.out.size
          obtain ⟨xn, rfl⟩ : ∃ xn : Nat, xi = (xn : Int) := ⟨xi.toNat, by omega⟩
          have hx7 : xn = 7 - q := by omega
          have HXQ : Hid (xn = 7 - q ∧ q < 8) := Lib.hid ⟨hx7, hlt⟩
          obtain ⟨en, hen⟩ : ∃ en : Nat, 8 * (xn : Int) = (en : Int) := ⟨8 * xn, by omega⟩
          have henI : (en : Int) ≤ 56 := by omega
          have hx0 : 0 ≤ (xn : Int) := by omega
          have hsh0 : 8 * (N : Int) / 2 ^ en % 256 = (y : Int) := by
            have e1 : en = 8 * xn := by omega
            have e2 : (2 : Nat) ^ en = 256 ^ (7 - q) := by rw [e1, Nat.pow_mul, ← hx7]
            have e3 : ((8 * N / 256 ^ (7 - q) % 256 : Nat) : Int) = (y : Int) := by rw [hy]
            rw [← e2] at e3
            have e4 : ((2 ^ en : Nat) : Int) = 2 ^ en := by simp
            rw [← e3, ← e4]
            simp
          have hsh : (8 * (N : Int) / 2 ^ en).tmod 256 = (y : Int) := by
            rw [Int.tmod_eq_emod_of_nonneg (Int.ediv_nonneg (by omega) (Int.le_of_lt (Int.pow_pos (by omega)))), hsh0]
          have hym : (y : Int) % 256 = (y : Int) := by omega
          clear hy hxi hx7 hlt hsh0
          go_wp2_with ((with_reducible refine OA.out.wpAppend1 Tryd.underlying47 sx_one_byte CA.out HO0.out HPK HZB.out ?_ ?_); rfl; intro v6 w6 o6 g6; have O6 := Lib.hid o6; have B6 := Lib.hid (BA.out.grown g6 BA.out.size (fun k hk => (HOWN.out.lt k hk).1)); clear o6 g6)
          go_roundw
          case rel => exact ⟨q + 1, (xn : Int) - 1, by have := HXQ.out.2; omega, by go_num, by have := HXQ.out.1; have := HXQ.out.2; omega, by rw [HNX.out, ← Nat.add_assoc]; exact O6.out, B6.out⟩
          case measure => first | (simp [intOf]; done) | (simp [intOf]; omega)
        · have e1 : ¬ (0 : Int) ≤ xi := by omega
          have hq8 : q = 8 := by omega
          rw [hq8, List.take_of_length_le (by rw [eightB_length]; exact Nat.le_refl _)] at HOWN
          obtain ⟨BL, hBL⟩ : ∃ BL, padL L = BL := ⟨_, rfl⟩
          have hpl : L2 ++ eightB (8 * N) = BL := by
            rw [← hBL, ← HL2.out, padL, tailL, HLL.out, HZZ.out, HJ.out, List.append_assoc]
            rfl
          rw [hpl] at HOWN
          have HBL := Lib.hid hBL
          obtain ⟨w7, rfl⟩ : ∃ w7, w7 = wr := ⟨_, rfl⟩
          obtain ⟨bg, bc, rfl, hbg, hbc, _⟩ := HOWN.out.lies
          obtain ⟨bn, hbn⟩ : ∃ n, m + 8 = n := ⟨_, rfl⟩
          have HBN := Lib.hid hbn
          rw [hbn] at HOWN ⊢
          have HMJ : Hid (N + 1 + j = m) := HM
          have hbnl : BL.length = bn := by
            have h := HOWN.out.out
            obtain ⟨_, _, _, _, _, _, _, _, h5, _⟩ := h
            rw [bytes_length] at h5
            exact h5
          have HBLL := Lib.hid hbnl
          have c0 : (w7.alloc (.cells #[] 3)).cell? ⟨w.heap.size, 0, none⟩ = some (.slice a 8 ca) := (RC.out.step (HW.out.next (alloc_below w7 _))).cell 0
          have HOZ : Hid ((w7.alloc (.cells #[] 3)).ownsRow w7.heap.size 3 1 (.slice (some ⟨w7.heap.size, 0, none⟩) 0 0) 0 []) := Lib.hid (Row.owns (xs := []) (ys := []) (Row.new w7 3 []) (Nat.le_refl _) rfl rfl (Nat.le_refl _) (by unfold maxLen; omega))
          have HLA : Hid (Lies (w7.alloc (.cells #[] 3)) (w7.alloc (.cells #[] 3)).heap.size a (tIs first)) := Lib.hid (((HA.out.step B2.out).step HW.out).step (alloc_below w7 _))
          have HU1 : Hid ((tIs first).length = 8) := Lib.hid rfl
          have HU2 : Hid ((tIs first).all (·.oneCell') = true) := Lib.hid rfl
          have HPK : Big (0 + 8 ≤ 1099511627776) := ⟨by omega⟩
          have HB7 := Lib.hid (alloc_below w7 (.cells #[] 3))
          have HZ7 := Lib.hid HB7.out.size
          clear hpl hBL hq8 hbn hbnl
          go_wp2_with ((with_reducible refine wpAppendK ca HOZ.out Tryd.underlying25 sx_one_int HLA.out HU1.out (by decide) HU2.out HPK HZ7.out ?_ ?_); rfl; intro v8 w8 g1 g2 g3; obtain ⟨hg, hc, ys, rfl, hhg, hhc, hrow⟩ := sx_own_all g1 (by decide); have HROW8 := Lib.hid hrow; have HHG := Lib.hid hhg; have HHC := Lib.hid hhc; have B78 := Lib.hid (HB7.out.grown g2 HB7.out.size (fun k hk => by cases hk; exact Nat.le_refl _)); clear g1 g2 g3 hrow hhg hhc)
          clear c0
          have HHR : Hid (Row w8 hg 3 (tIs (blk BL 0) ++ ys)) := Lib.hid HROW8.out
          have hbnI : (bn : Int) ≤ 100200 := by have := HBN.out; omega
          have HMOD : Hid (bn % 64 = 0) := Lib.hid (by rw [← HBLL.out, ← HBL.out]; exact padL_mod L)
          have HGB8 : Hid (bg < w8.heap.size) := Lib.hid (by have := (HOWN.out.lt bg rfl).2; have := B78.out.size; omega)
          have HOB8 := Lib.hid (HOWN.out.below B78.out)
          go_wp2
          go_loopw [9] (fun x wr => ∃ t : Nat, 64 * t ≤ bn ∧ x = .int .i64 ((64 * t : Nat) : Int) ∧ Row wr hg 3 (tIs (blk BL t) ++ ys) ∧ Only hg w8 wr) (fun x _ => bn - (intOf x).toNat)
          case atStart => exact ⟨0, Nat.zero_le _, rfl, HHR.out, Only.refl _ _⟩
          case round =>
            clear HHR
            obtain ⟨t, ht, rfl, hrow, hon⟩ := hrel
            have HROW := Lib.hid hrow
            have HON := Lib.hid hon
            obtain ⟨A, hA⟩ : ∃ A : Nat, 64 * t = A := ⟨_, rfl⟩
            have HAT := Lib.hid hA
            rw [hA] at ht ⊢
            clear hrow hon hA
            by_cases hlt : A < bn
            · have e1A : (A : Int) < (bn : Int) := by omega
              have hA64 : A + 64 ≤ bn := by have := HMOD.out; have := HAT.out; omega
              obtain ⟨BK, hBK⟩ : ∃ BK, (BL.drop A).take 64 = BK := ⟨_, rfl⟩
              have hBKl : BK.length = 64 := by rw [← hBK, List.length_take, List.length_drop, HBLL.out]; omega
              have hBKg : ∀ q (h : q < BK.length), BL[A + q]? = some BK[q] := fun q h => by
                have h2 : BK[q]? = some BK[q] := List.getElem?_eq_getElem h
                generalize BK[q] = v at h2 ⊢
                rw [← hBK, List.getElem?_take_of_lt (by omega), List.getElem?_drop] at h2
                exact h2
              have HBK := Lib.hid hBK
              have HBKL := Lib.hid hBKl
              have HBKG := Lib.hid hBKg
              have HA64 := Lib.hid hA64
              have HIZ : Hid ((Tryd.prog.info? 3).map (fun i => (i.zero, i.size, i.bytes)) = some (some (.int .i64 0), 1, 8) ∨ (Tryd.prog.info? 3).map (fun i => (i.zero, i.size, i.bytes)) = some (some (.int .i64 0), 1, 1)) := Lib.hid (Or.inl info_int)
              clear hBK hBKl hBKg
              go_wp2_with ((with_reducible refine wpMakeK 25 3 (.int .i64 0) 64 64 Tryd.underlying25 HIZ.out rfl (Nat.le_refl _) (by omega) ?_ ?_); rfl; intro w9 r9 b9 s9; have HB9 := Lib.hid b9; have HW90 : Hid (Row w9 wr.heap.size 3 (tIs (loaded BK 0))) := Lib.hid (by rw [loaded_zero]; exact r9); have HS9 := Lib.hid s9; clear r9 b9 s9)
              obtain ⟨wo, hwo⟩ : ∃ wo, wo = wr := ⟨_, rfl⟩
              subst hwo
              go_loopw [11] (fun x wr => ∃ i : Nat, i ≤ 64 ∧ x = .int .i64 i ∧ Row wr wo.heap.size 3 (tIs (wst BK i)) ∧ Only wo.heap.size w9 wr) (fun x _ => 64 - (intOf x).toNat)
              case atStart => exact ⟨0, Nat.zero_le _, rfl, HW90.out, Only.refl _ _⟩
              case round =>
                clear HW90
                obtain ⟨i, hi, rfl, hrow2, hon2⟩ := hrel
                have HROW2 := Lib.hid hrow2
                have HON2 := Lib.hid hon2
                clear hrow2 hon2
                have hi64 : (i : Int) ≤ 64 := by omega
                by_cases hlti : i < 16
                · have e1i : (i : Int) < 64 := by omega
                  have e2i : (i : Int) < 16 := by omega
                  have HW0 : Hid (Row wr wo.heap.size 3 (tIs (loaded BK (4 * i + 0)))) := Lib.hid (by have h := HROW2.out; rw [wst, if_pos (by omega)] at h; exact h)
                  go_wp2
                  go_loopw [12] (fun x wr => ∃ k : Nat, k ≤ 4 ∧ x = .int .i64 k ∧ Row wr wo.heap.size 3 (tIs (loaded BK (4 * i + k))) ∧ Only wo.heap.size w9 wr) (fun x _ => 4 - (intOf x).toNat)
                  case atStart => exact ⟨0, Nat.zero_le _, rfl, HW0.out, HON2.out⟩
                  case round =>
                    clear HW0 HROW2 HON2
                    obtain ⟨k, hk, rfl, hrow3, hon3⟩ := hrel
                    have HROW3 := Lib.hid hrow3
                    have HON3 := Lib.hid hon3
                    clear hrow3 hon3
                    by_cases hltk : k < 4
                    · have hne9 : bg ≠ wo.heap.size := Nat.ne_of_lt (Nat.lt_of_lt_of_le HGB8.out HON.out.size)
                      have HOBR : Hid (OwnsT wr w2.heap.size 5 (.slice (some ⟨bg, 0, none⟩) bn bc) bn (bytes BL)) := Lib.hid (HOB8.out.heap fun g hg => by
                        cases hg
                        have q1 := HON.out.2.2.2.2 bg HGB8.out (Nat.ne_of_lt (by have h := (HOWN.out.lt bg rfl).2; have h2 := HHG.out; omega))
                        have q2 := HB9.out.block bg (Nat.lt_of_lt_of_le HGB8.out HON.out.size)
                        have q3 := HON3.out.2.2.2.2 bg (Nat.lt_of_lt_of_le (Nat.lt_of_lt_of_le HGB8.out HON.out.size) HB9.out.size) hne9
                        exact q3.trans (q2.trans q1))
                      have hby : bg < wr.heap.size ∧ ∀ q (h : q < BK.length), wr.cell? ⟨bg, A + q, none⟩ = some (.int .u8 (BK[q].toNat : Int)) := by
                        obtain ⟨g0, c0, e0, _, _, hl0⟩ := HOBR.out.lies
                        cases e0
                        obtain ⟨b1, o1, e1, hb1, hc1⟩ := hl0 (by rw [bytes_length, HBLL.out]; omega)
                        cases e1
                        refine ⟨hb1, fun q h => ?_⟩
                        have hbyte : (bytes BL)[A + q]? = some (.int .u8 (BK[q].toNat : Int)) := by
                          simp only [bytes, List.getElem?_map]
                          rw [HBKG.out _ h]
                          rfl
                        have h9 := hc1 _ _ hbyte
                        rwa [Nat.zero_add] at h9
                      refine sx_load (BK := BK) (A := A) (i := i) (k := k) (wgg := wo.heap.size) (bg := bg) (bn := bn) (bc := bc) (by kernel_rfl) hlti hltk HA64.out hbnI HBKL.out hby.1 hby.2 HROW3.out ?_
                      intro u12 u71 u72 u73 u74 u75 u76 u77 u78 u79 u80 u81 u82 u83 u84 u85 u86 u87 u88 u89 u90 u91 u92 u93 w' e12 hrow9 hon9
                      subst e12
                      have HLT := Lib.hid hltk
                      clear hby hne9 HOBR hltk hk
                      dsimp only [Exit.then]
                      go_roundw
                      case rel => exact ⟨k + 1, by have := HLT.out; omega, rfl, hrow9, HON3.out.trans hon9⟩
                      case measure => simp [intOf]; have := HLT.out; omega
                    · have e1k : ¬ (k : Int) < 4 := by omega
                      have HNX : Hid (Row wr wo.heap.size 3 (tIs (wst BK (i + 1)))) := Lib.hid (by
                        have h := HROW3.out
                        rw [show 4 * i + k = 4 * (i + 1) by omega] at h
                        rw [wst, if_pos (by omega)]
                        exact h)
                      have HILT := Lib.hid hlti
                      clear hltk hk hlti
                      go_wp2
                      go_roundw
                      case rel => exact ⟨i + 1, by have := HILT.out; omega, by go_num, HNX.out, HON3.out⟩
                      case measure => simp [intOf]; have := HILT.out; omega
                · by_cases hlt64 : i < 64
                  · refine sx_sched (BK := BK) (i := i) (wgg := wo.heap.size) (by kernel_rfl) hlti hlt64 HROW2.out ?_
                    intro u11 u12 u13 u14 u65 u66 u67 u68 u69 u70 u71 u72 u73 u74 u75 u76 u77 u78 u79 u80 u81 u82 u83 u84 u85 u86 u87 u88 u89 u90 u91 u92 u93 u94 u95 u96 u97 u98 u99 u100 u101 u102 u103 u104 u105 u106 u107 u108 u109 u110 u111 u112 u113 u114 u115 u116 u117 u118 u119 u120 u121 u122 u123 u124 u125 u126 u127 u128 u129 u130 u131 u132 u133 u134 u135 u136 w' e11 hrow9 hon9
                    subst e11
                    have HLT := Lib.hid hlt64
                    clear hi64 hlti hlt64
                    dsimp only [Exit.then]
                    go_roundw
                    case rel => exact ⟨i + 1, by have := HLT.out; omega, rfl, hrow9, HON2.out.trans hon9⟩
                    case measure => simp [intOf]; have := HLT.out; omega
                  · have ei : i = 64 := by omega
                    have hW : Row wr wo.heap.size 3 (tIs (spr BK)) := by
                      have h := HROW2.out
                      rw [ei, wst, if_neg (by omega)] at h
                      exact h
                    have HWR := Lib.hid hW
                    have HHB : Hid (w2.heap.size ≤ hg ∧ hg < wo.heap.size) := Lib.hid ⟨by have h1 := HHG.out; have h2 := HW.out.size; omega, HROW.out.lt⟩
                    have HHR9 := Lib.hid ((HROW.out.step HB9.out).only HON2.out (Nat.ne_of_lt HHB.out.2))
                    have HB211 : Hid (Below w2.heap.size w2 wr) := Lib.hid (by
                      have q1 : Below w2.heap.size w2 w8 := HW.out.next B78.out
                      have q2 : Below w2.heap.size w2 wo := q1.trans (HON.out.below HHB.out.1 q1.size)
                      have q3 : Below w2.heap.size w2 w9 := q2.next HB9.out
                      exact q3.trans (HON2.out.below q2.size q3.size))
                    obtain ⟨w11, rfl⟩ : ∃ w11, w11 = wr := ⟨_, rfl⟩
                    obtain ⟨H, hH⟩ : ∃ H, blk BL t = H := ⟨_, rfl⟩
                    have hHl : H.length = 8 := by rw [← hH, blk_length]
                    rw [hH] at HHR9
                    have HHL := Lib.hid hHl
                    have HHE := Lib.hid hH
                    obtain ⟨SP, hSP⟩ : ∃ S, spr BK = S := ⟨_, rfl⟩
                    have hSPl : SP.length = 64 := by rw [← hSP, spr_length]
                    rw [hSP] at HWR
                    have HSPL := Lib.hid hSPl
                    have HSPE := Lib.hid hSP
                    have HOZ2 : Hid ((w11.alloc (.cells #[] 3)).ownsRow w11.heap.size 3 1 (.slice (some ⟨w11.heap.size, 0, none⟩) 0 0) 0 []) := Lib.hid (Row.owns (xs := []) (ys := []) (Row.new w11 3 []) (Nat.le_refl _) rfl rfl (Nat.le_refl _) (by unfold maxLen; omega))
                    have HLH : Hid (Lies (w11.alloc (.cells #[] 3)) (w11.alloc (.cells #[] 3)).heap.size (some ⟨hg, 0, none⟩) (tIs H)) := Lib.hid (by
                      have h : Lies w11 w11.heap.size (some ⟨hg, 0, none⟩) (tIs H) := fun _ => ⟨hg, 0, rfl, HHR9.out.lt, fun j u hj => by
                        rw [Nat.zero_add, HHR9.out.cell, List.getElem?_append_left (List.getElem?_eq_some_iff.1 hj).1]; exact hj⟩
                      exact h.step (alloc_below w11 _))
                    have HV1 : Hid ((tIs H).length = 8) := Lib.hid (by rw [tIs_length, hHl])
                    have HV2 : Hid ((tIs H).all (·.oneCell') = true) := Lib.hid (by simp [tIs, Value.oneCell'])
                    have HPK2 : Big (0 + 8 ≤ 1099511627776) := ⟨by omega⟩
                    have HB12 := Lib.hid (alloc_below w11 (.cells #[] 3))
                    have HZ12 := Lib.hid HB12.out.size
                    have e64 : ¬ (i : Int) < 64 := by omega
                    clear hW ei hlti hlt64 hi hi64 hH hHl hSP hSPl
                    go_wp2_with ((with_reducible refine wpAppendK hc HOZ2.out Tryd.underlying25 sx_one_int HLH.out HV1.out (by decide) HV2.out HPK2 HZ12.out ?_ ?_); rfl; intro v12 w12 g1 g2 g3; obtain ⟨vg, vc, zs, rfl, hvg, hvc, hrow⟩ := sx_own_all g1 (by decide); have HROWV := Lib.hid hrow; have B1112 := Lib.hid (HB12.out.grown g2 HB12.out.size (fun k hk => by cases hk; exact Nat.le_refl _)); have HVN : Hid (w11.heap.size ≤ vg) := Lib.hid hvg; clear g1 g2 g3 hrow hvg hvc)
                    have HB212 : Hid (Below w2.heap.size w2 w12) := Lib.hid (HB211.out.next B1112.out)
                    have HWR12 := Lib.hid (HWR.out.step B1112.out)
                    have HHR12 := Lib.hid (HHR9.out.step B1112.out)
                    go_loopw [15, 16, 17, 18, 19, 20, 21, 22] (fun V x _ _ _ _ _ _ wr => ∃ (r vg vc : Nat) (zs : List Value), r ≤ 64 ∧ x = .int .i64 r ∧ V = .slice (some ⟨vg, 0, none⟩) 8 vc ∧ Row wr vg 3 (tIs (trns SP H r) ++ zs) ∧ Below w12.heap.size w12 wr ∧ w11.heap.size ≤ vg) (fun _ x _ _ _ _ _ _ _ => 64 - (intOf x).toNat)
                    case atStart => exact ⟨0, vg, vc, zs, Nat.zero_le _, rfl, rfl, HROWV.out, Below.refl _ _, HVN.out⟩
                    case round =>
                      clear HVN HROWV
                      obtain ⟨r, vg, vc, zs, hr, rfl, rfl, hrowv, hbw, hvn⟩ := hrel
                      have hlv : Lies wr wr.heap.size (some ⟨vg, 0, none⟩) (tIs (trns SP H r)) := fun _ => ⟨vg, 0, rfl, hrowv.lt, fun j u hj => by
                        rw [Nat.zero_add, hrowv.cell, List.getElem?_append_left (List.getElem?_eq_some_iff.1 hj).1]; exact hj⟩
                      have HROWV := Lib.hid hrowv
                      clear hrowv
                      have HVN := Lib.hid hvn
                      clear hvn
                      obtain ⟨wp, rfl⟩ : ∃ wp, wp = wr := ⟨_, rfl⟩
                      have HLV := Lib.hid hlv
                      have HBW := Lib.hid hbw
                      clear hlv hbw
                      by_cases hltr : r < 64
                      · have hB2p : Below w2.heap.size w2 wp := HB212.out.next HBW.out
                        refine sx_round (H := H) (SP := SP) (r := r) (vg := vg) (vc := vc) (bx := w.heap.size) (wgg := wo.heap.size) (cb := cb) (va := .slice a 8 ca) (b := b) (by kernel_rfl) hltr HHL.out HSPL.out HLV.out (RC.out.below hB2p RC.out.lt) (((HB.out.step B2.out)).step hB2p) (HWR12.out.step HBW.out) ?_
                        intro u15 u16 u17 u18 u19 u20 u21 u22 u140 u141 u142 u143 u144 u145 u146 u147 u148 u149 u150 u151 u152 u153 u154 u155 u156 u157 u158 u159 u160 u161 u162 u163 u164 u165 u166 u167 u168 u169 u170 u171 u172 u173 u174 u175 u176 u177 u178 u179 u180 u181 u182 u183 u184 u185 u186 u187 u188 u189 u190 u191 u192 u193 u194 u195 u196 u197 u198 u199 u200 u201 u202 u203 u204 u205 u206 u207 u208 u209 u210 u211 u212 u213 u214 u215 u216 u217 u218 u219 u220 u221 u222 u223 u224 u225 u226 u227 u228 u229 u230 u231 u232 u233 u234 u235 u236 u237 u238 u239 u240 g w' e15 e16 hg9 hrow9 hb9
                        subst e15 e16
                        have HLR := Lib.hid hltr
                        clear hB2p hltr hr
                        dsimp only [Exit.then]
                        go_roundw
                        case rel => exact ⟨r + 1, g, 8, [], by have := HLR.out; omega, rfl, rfl, hrow9, HBW.out.next hb9, by have h1 := B1112.out.size; have h2 := HBW.out.size; omega⟩
                        case measure => simp [intOf]; have := HLR.out; omega
                      · have er : r = 64 := by omega
                        obtain ⟨V8, hV8⟩ : ∃ V, trns SP H 64 = V := ⟨_, rfl⟩
                        have hV8l : V8.length = 8 := by rw [← hV8, trns_length, HHL.out]
                        have HRV : Hid (Row wp vg 3 (tIs V8 ++ zs)) := Lib.hid (by have h := HROWV.out; rwa [er, hV8] at h)
                        have HRA : Hid (Row wp hg 3 (tIs (addK H V8 0) ++ ys)) := Lib.hid (by rw [addK_zero]; exact HHR12.out.step HBW.out)
                        have HNEV : Hid (vg ≠ hg) := Lib.hid (by have h1 := HVN.out; have h2 := HHB.out.2; have h3 := HB9.out.size; have h4 := HON2.out.size; omega)
                        have HEB : Hid (addK H V8 8 = blk BL (t + 1)) := Lib.hid (by
                          show _ = mixed (blk BL t) ((BL.drop (64 * t)).take 64)
                          rw [HHE.out, HAT.out, HBK.out, mixed, HSPE.out, hV8])
                        have HONP : Hid (Only hg w8 wp) := Lib.hid ((((HON.out.step HB9.out).newer HON2.out HON.out.size).step B1112.out).step HBW.out)
                        have HHV : Hid (H.length = V8.length) := Lib.hid (by rw [HHL.out, hV8l])
                        have HV8L := Lib.hid hV8l
                        have hr64 : ¬ (r : Int) < 64 := by omega
                        have hr64d : decide ((r : Int) < 64) = false := by simpa using hr64
                        clear hV8 hV8l er hltr hr
                        go_wp2
                        go_loopw [23] (fun x wr => ∃ k : Nat, k ≤ 8 ∧ x = .int .i64 k ∧ Row wr hg 3 (tIs (addK H V8 k) ++ ys) ∧ Only hg wp wr) (fun x _ => 8 - (intOf x).toNat)
                        case atStart => exact ⟨0, Nat.zero_le _, rfl, HRA.out, Only.refl _ _⟩
                        case round =>
                          clear HRA
                          obtain ⟨k, hk8, rfl, hrowk, honk⟩ := hrel
                          by_cases hltk : k < 8
                          · obtain ⟨x, hx⟩ : ∃ x, H[k]'(by rw [HHL.out]; exact hltk) = x := ⟨_, rfl⟩
                            obtain ⟨y, hy⟩ : ∃ y, V8[k]'(by rw [HV8L.out]; exact hltk) = y := ⟨_, rfl⟩
                            have hlk : k < (addK H V8 k).length := by rw [addK_length _ _ _ HHV.out, HHL.out]; exact hltk
                            have hlk2 : k < (tIs (addK H V8 k)).length := by rw [tIs_length]; exact hlk
                            have hcH : wr.cell? ⟨hg, k, none⟩ = some (.int .i64 (tI x)) := by
                              rw [hrowk.cell, List.getElem?_append_left hlk2, tIs_get _ _ hlk, addK_get _ _ _ HHV.out (by rw [HHL.out]; exact hltk), hx]
                            have hcV : wr.cell? ⟨vg, k, none⟩ = some (.int .i64 (tI y)) := by
                              rw [(HRV.out.only honk HNEV.out).cell, List.getElem?_append_left (by rw [tIs_length, HV8L.out]; exact hltk), tIs_get _ _ (by rw [HV8L.out]; exact hltk), hy]
                            have hvl : vg < wr.heap.size := Nat.lt_of_lt_of_le HRV.out.lt honk.size
                            have hhl : hg < wr.heap.size := hrowk.lt
                            have hsum := sum2_tI x y
                            obtain ⟨X, hX⟩ : ∃ X, tI x = X := ⟨_, rfl⟩
                            obtain ⟨Y, hY⟩ : ∃ X, tI y = X := ⟨_, rfl⟩
                            obtain ⟨Z, hZ⟩ : ∃ X, tI (x + y) = X := ⟨_, rfl⟩
                            have HSETK : Hid ((tIs (addK H V8 k) ++ ys).set k (.int .i64 Z) = tIs (addK H V8 (k + 1)) ++ ys) := Lib.hid (by
                              rw [List.set_append_left _ _ hlk2, addK_step _ _ _ HHV.out (by rw [HHL.out]; exact hltk), hx, hy, ← hZ]
                              simp only [tIs, List.map_set])
                            have HLENK : Hid (k < (tIs (addK H V8 k) ++ ys).length) := Lib.hid (by rw [List.length_append]; omega)
                            have HIS : Hid ((Tryd.prog.info? 3).map (·.size) = some 1) := Lib.hid (by kernel_rfl)
                            have bx : 0 ≤ X ∧ X < 4294967296 := by rw [← hX]; exact tI_lt _
                            have by' : 0 ≤ Y ∧ Y < 4294967296 := by rw [← hY]; exact tI_lt _
                            have bz : 0 ≤ Z ∧ Z < 4294967296 := by rw [← hZ]; exact tI_lt _
                            rw [hX] at hcH hsum
                            rw [hY] at hcV hsum
                            rw [hZ] at hsum
                            obtain ⟨S, hS⟩ : ∃ S, X + Y = S := ⟨_, rfl⟩
                            rw [hS] at hsum
                            have hws : IntKind.i64.wrap S = S := by rw [IntKind.wrap_i64]; omega
                            have hwz : IntKind.i64.wrap Z = Z := by rw [IntKind.wrap_i64]; omega
                            have hst : S.tmod 4294967296 = Z := by rw [Int.tmod_eq_emod_of_nonneg (by omega)]; exact hsum
                            have hk1 : (k : Int) < 8 := by omega
                            have HLTK := Lib.hid hltk
                            have HROWK := Lib.hid hrowk
                            have HONK := Lib.hid honk
                            clear bx by' bz hsum hX hY hZ hx hy hlk hlk2 hrowk honk hltk
                            go_wp2
                            go_still_tail 13, (by kernel_rfl)
                            change wpList _ _ _ _ _ wr.drew
                            have HRKD := Lib.hid HROWK.out.drew
                            have HOKD := Lib.hid HONK.out.drew
                            generalize wr.drew = wkd at *
                            clear hcH hcV hvl hhl hws hwz hst hS
                            go_wp2_with ((with_reducible refine HRKD.out.wpStore1K k 3 (.int .i64 Z) HIS.out HLENK.out rfl rfl ?_ ?_); rfl; intro w30 r30 o30 s30; rw [HSETK.out] at r30; have R30 := Lib.hid r30; have O30 := Lib.hid (HOKD.out.trans o30); clear r30 o30 s30)
                            go_roundw
                            case rel => exact ⟨k + 1, by have := HLTK.out; omega, by go_num, R30.out, O30.out⟩
                            case measure => simp [intOf]; have := HLTK.out; omega
                          · have ek : k = 8 := by omega
                            have HRF : Hid (Row wr hg 3 (tIs (blk BL (t + 1)) ++ ys)) := Lib.hid (by rw [← HEB.out, ← ek]; exact hrowk)
                            have HOF : Hid (Only hg w8 wr) := Lib.hid (HONP.out.trans honk)
                            have hk1 : ¬ (k : Int) < 8 := by omega
                            have hA1 := HA64.out
                            have hA2 : (A : Int) ≤ 100200 := by omega
                            clear hrowk honk ek hltk hk8
                            go_wp2
                            go_roundw
                            case rel => exact ⟨t + 1, by have := HAT.out; omega, by rw [show ((64 * (t + 1) : Nat) : Int) = (A : Int) + 64 from by have := HAT.out; omega], HRF.out, HOF.out⟩
                            case measure => simp [intOf]; omega
            · have hAe : A = bn := by omega
              have e1A : ¬ (A : Int) < (bn : Int) := by omega
              have e1Ad : decide ((A : Int) < (bn : Int)) = false := by simpa using e1A
              obtain ⟨HV, hHV⟩ : ∃ X, blk BL t = X := ⟨_, rfl⟩
              have hHVl : HV.length = 8 := by rw [← hHV, blk_length]
              obtain ⟨T, hT⟩ : ∃ T, sha L = T := ⟨_, rfl⟩
              have hTl : T.length = 32 := by rw [← hT, sha_length]
              have hTH : hashB HV = T := by rw [← hT, sha, HBL.out, HBLL.out, ← hHV, show bn / 64 = t from by have := HAT.out; omega]
              have HROW20 : Hid (Row wr hg 3 (tIs HV ++ ys)) := Lib.hid (by rw [← hHV]; exact HROW.out)
              have HB220 : Hid (Below w2.heap.size w2 wr) := Lib.hid (by
                have q1 : Below w2.heap.size w2 w8 := HW.out.next B78.out
                exact q1.trans (HON.out.below (by have h1 := HHG.out; have h2 := HW.out.size; omega) q1.size))
              have HRO20 := Lib.hid (RO.out.below HB220.out RO.out.lt)
              have HRBL : Hid (w1.heap.size < w2.heap.size) := Lib.hid RO.out.lt
              have HGET : Hid (∀ k, k < 32 → ∃ (b : UInt8) (x : W), T[k]? = some b ∧ HV[k / 4]? = some x ∧ (b.toNat : Int) = tI (x >>> (24 - 8 * (k % 4))) % 256) := Lib.hid fun k hk => by
                have h4 : k / 4 < HV.length := by omega
                refine ⟨_, _, by rw [← hTH, hashB, List.getElem?_map, List.getElem?_range hk]; rfl, List.getElem?_eq_getElem h4, ?_⟩
                rw [UInt8.toNat_ofNat', List.getD_eq_getElem?_getD, List.getElem?_eq_getElem h4, Option.getD_some]
                unfold tI
                omega
              have HNX32 : Hid (∀ k (b : UInt8), k < 32 → T[k]? = some b → (bytes (T.take k ++ List.replicate (32 - k) 0)).set k (.int .u8 (b.toNat : Int)) = bytes (T.take (k + 1) ++ List.replicate (32 - (k + 1)) 0)) := Lib.hid fun k b hk hb => sx_next T k hTl hk b hb
              have HALL : Hid (T.take 32 ++ List.replicate (32 - 32) 0 = T) := Lib.hid (by simp [List.take_of_length_le (Nat.le_of_eq hTl)])
              have HL32 : Hid (∀ k, k < 32 → k < (bytes (T.take k ++ List.replicate (32 - k) 0)).length) := Lib.hid fun k hk => by rw [bytes_length]; simp; omega
              have HTL : Hid ((bytes T).length = 32) := Lib.hid (by rw [bytes_length, hTl])
              have HT1 : Hid ((bytes T).all (·.oneCell') = true) := Lib.hid (by simp [bytes, Value.oneCell'])
              have HZL : Hid (Z32.length = 32) := Lib.hid (by rw [← HZ32.out]; simp)
              have HYL : Hid ((bytes (List.replicate 32 0)).length = 32) := Lib.hid (by rw [bytes_length]; simp)
              have HY1 : Hid ((bytes (List.replicate 32 0)).all (·.oneCell') = true) := Lib.hid (by simp [bytes, Value.oneCell'])
              have HHVL := Lib.hid hHVl
              have HTE := Lib.hid hT
              clear hAe hHV hHVl hT hTl hTH hlt ht
              obtain ⟨w20, rfl⟩ : ∃ w20, w20 = wr := ⟨_, rfl⟩
              go_wp2_with (first
                | ((with_reducible refine wpAllocK (w := w20) Z32 31 HZ.out ?_ ?_); rfl; intro w21 r21 b21 s21; have R21 := Lib.hid r21; have HB21 := Lib.hid b21; clear r21 b21 s21)
                | ((with_reducible refine R21.out.wpStoreK 31 (bytes (List.replicate 32 0)) fits_hash HZL.out HYL.out HY1.out ?_ ?_); rfl; intro w22 r22 o22 s22; have R22 : Hid (Row w22 w20.heap.size 31 (bytes (T.take 0 ++ List.replicate (32 - 0) 0))) := Lib.hid r22; have HB22 : Hid (Below w20.heap.size w20 w22) := Lib.hid (HB21.out.trans (o22.below (Nat.le_refl _) HB21.out.size)); clear r22 o22 s22))
              have HROW22 := Lib.hid (HROW20.out.step HB22.out)
              have HNEH : Hid (hg ≠ w20.heap.size) := Lib.hid (Nat.ne_of_lt HROW20.out.lt)
              go_loopw [25] (fun x wr => ∃ k : Nat, k ≤ 32 ∧ x = .int .i64 k ∧ Row wr w20.heap.size 31 (bytes (T.take k ++ List.replicate (32 - k) 0)) ∧ Only w20.heap.size w22 wr) (fun x _ => 32 - (intOf x).toNat)
              case atStart => exact ⟨0, Nat.zero_le _, rfl, R22.out, Only.refl _ _⟩
              case round =>
                clear R22
                obtain ⟨k, hk32, rfl, hrowk, honk⟩ := hrel
                by_cases hltk : k < 32
                · obtain ⟨b, xw, hb, hxw, hv⟩ := HGET.out k hltk
                  obtain ⟨q, hq⟩ : ∃ q, k / 4 = q := ⟨_, rfl⟩
                  obtain ⟨p, hp⟩ : ∃ p, k % 4 = p := ⟨_, rfl⟩
                  obtain ⟨e8, he8⟩ : ∃ e, 8 * p = e := ⟨_, rfl⟩
                  obtain ⟨en, hen⟩ : ∃ e, 24 - e8 = e := ⟨_, rfl⟩
                  rw [hq] at hxw
                  rw [hp, he8, hen, ← shr_tI] at hv
                  have hcq : wr.cell? ⟨hg, q, none⟩ = some (.int .i64 (tI xw)) := by
                    rw [(HROW22.out.only honk HNEH.out).cell, List.getElem?_append_left (by rw [tIs_length, HHVL.out]; omega), tIs, List.getElem?_map, hxw]
                    rfl
                  have HSET := Lib.hid (HNX32.out k b hltk hb)
                  have HLEN := Lib.hid (HL32.out k hltk)
                  have HI8 : Hid ((Tryd.prog.info? 5).map (·.size) = some 1) := Lib.hid (by kernel_rfl)
                  obtain ⟨y, hy⟩ : ∃ y, b.toNat = y := ⟨_, rfl⟩
                  have hy8 : y < 256 := by rw [← hy]; exact b.toNat_lt
                  rw [hy] at hv HSET
                  have hx0 : 0 ≤ tI xw ∧ tI xw < 4294967296 := tI_lt xw
                  obtain ⟨X, hX⟩ : ∃ X, tI xw = X := ⟨_, rfl⟩
                  rw [hX] at hcq hv hx0
                  have hx1 := hx0.1
                  have hqI : (k : Int) / 4 = (q : Int) := by omega
                  have hpI : (k : Int) % 4 = (p : Int) := by omega
                  have heI : 8 * (p : Int) = (e8 : Int) := by omega
                  have hnI : (24 : Int) - (e8 : Int) = (en : Int) := by omega
                  have hen24 : (en : Int) ≤ 24 := by omega
                  have he24 : (e8 : Int) ≤ 24 := by omega
                  have hq8 : (q : Int) < 8 := by omega
                  have hsh : (X / 2 ^ en).tmod 256 = (y : Int) := by
                    rw [Int.tmod_eq_emod_of_nonneg (Int.ediv_nonneg (by omega) (Int.le_of_lt (Int.pow_pos (by omega)))), ← hv]
                  have hym : (y : Int) % 256 = (y : Int) := by omega
                  have hk1 : (k : Int) < 32 := by omega
                  have HLTK := Lib.hid hltk
                  have HROWK := Lib.hid hrowk
                  have HONK := Lib.hid honk
                  clear hv hX hy hb hxw hq hp he8 hen hrowk honk hltk hx0 hk32
                  go_wp2_with ((with_reducible refine HROWK.out.wpStore1K k 5 (.int .u8 (y : Int)) HI8.out HLEN.out rfl rfl ?_ ?_); rfl; intro w30 r30 o30 s30; rw [HSET.out] at r30; have R30 := Lib.hid r30; have O30 := Lib.hid (HONK.out.trans o30); clear r30 o30 s30)
                  go_roundw
                  case rel => exact ⟨k + 1, by have := HLTK.out; omega, by go_num, R30.out, O30.out⟩
                  case measure => simp [intOf]; have := HLTK.out; omega
                · have ek : k = 32 := by omega
                  have HRF : Hid (Row wr w20.heap.size 31 (bytes T)) := Lib.hid (by have h := hrowk; rw [ek, HALL.out] at h; exact h)
                  have HB23 : Hid (Below w20.heap.size w20 wr) := Lib.hid (HB22.out.trans (honk.below (Nat.le_refl _) HB22.out.size))
                  have HRO23 := Lib.hid (HRO20.out.step HB23.out)
                  have HBF : Hid (Below w2.heap.size w2 wr) := Lib.hid (HB220.out.next HB23.out)
                  have hk1 : ¬ (k : Int) < 32 := by omega
                  clear hrowk honk ek hltk hk32
                  go_wp2_with (first
                    | ((with_reducible refine HRF.out.wpLoadK 31 fits_hash HTL.out ?_ ?_); rfl)
                    | ((with_reducible refine HRO23.out.wpStoreK 31 (bytes T) fits_hash HZL.out HTL.out HT1.out ?_ ?_); rfl; intro w31 r31 o31 s31; have R31 := Lib.hid r31; have O31 := Lib.hid o31; clear r31 o31 s31))
                  exact bodyPost_ret (R31.out.result rfl _ _ rfl Tryd.underlying31 rfl (by rw [HTL.out]; exact fits_hash.size)) rfl ⟨by rw [HTE.out], (B2.out.next HBF.out).trans (O31.out.below B1.out.size (B2.out.next HBF.out).size)⟩
end Go.Proofs.YtmphjmbnfaimiaaDoor
