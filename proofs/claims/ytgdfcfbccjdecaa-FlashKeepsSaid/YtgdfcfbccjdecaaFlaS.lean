/- FlashKeeps' walk. (gen_fla_keeps.py) -/
import Derived.Test.YtgdfcfbccjdecaaFlaR
namespace Go.Proofs.Ytgdfcfbccjdecaa
open Go.RowKit FlaMath
set_option linter.unusedVariables false
set_option maxRecDepth 100000

def l90 : List UInt8 := List.replicate 16 90
set_option maxHeartbeats 4000000 in
theorem flashKeeps_walk (q l : Nat) (a : Option Addr) (cap : Nat) (L : List OpV) (w : World) (hq : q < 256) (hl : l < 256) (h : OpsAt w a L) (hL : L.length ≤ 9223372036854775807) (hI : ∀ o ∈ L, o.In) :
    Calls Try.prog 3 #[.int .u8 (q : Int), .int .u8 (l : Int), .slice a L.length cap] w fun e w' => e = .returned (.bool true) ∧ Below w.heap.size w w' := by
  have HA := Lib.hid (flash_awake w)
  have HG : Hid (∀ w1, Below w.heap.size w w1 → Calls Try.prog 8 #[.slice a L.length cap] w1 fun e w' => e = .returned (.bool (gr L)) ∧ Below w1.heap.size w1 w') := Lib.hid fun w1 hb => fla_great_any a cap L w1 (h.step hb) hL hI
  cases hG : gr L with
  | true =>
    rw [hG] at HG
    clear h hI hG
    go_enter Try.func3, Try.ntmps3
    go_wp2_with (first
      | (go_at_call 7; (with_reducible refine HA.out.mono ?_); rintro e w1 ⟨rfl, b1⟩; have B1 := Lib.hid b1; clear b1)
      | (go_at_call 8; (with_reducible refine (HG.out w1 B1.out).mono ?_); rintro e w2 ⟨rfl, b2⟩; have B2 := Lib.hid (B1.out.next b2); clear b2))
    go_ret
    exact ⟨rfl, B2.out⟩
  | false =>
    rw [hG] at HG
    have hlen : L.length ≤ 150 := by
      rw [gr, Bool.or_eq_false_iff] at hG
      have := of_decide_eq_false hG.1
      omega
    have HOA := Lib.hid h
    have HIN := Lib.hid hI
    obtain ⟨N, hN⟩ : ∃ N, L.length = N := ⟨_, rfl⟩
    rw [hN] at HG hlen ⊢
    have HNL := Lib.hid hN
    obtain ⟨n, hn⟩ : ∃ n, 1 + q % 12 = n := ⟨_, rfl⟩
    have hn1 : 1 ≤ n := by omega
    have hn2 : n ≤ 12 := by omega
    obtain ⟨at_, hat⟩ : ∃ at_, l % n = at_ := ⟨_, rfl⟩
    have hatn : at_ < n := by rw [← hat]; exact Nat.mod_lt _ (by omega)
    obtain ⟨r12, hr12⟩ : ∃ r, q % 12 = r := ⟨_, rfl⟩
    have HM1 : Hid ((wrap64 (q : Int)).tmod 12 = (r12 : Int)) := Lib.hid (by
      have e : wrap64 (q : Int) = q := by unfold wrap64; omega
      rw [e, Int.tmod_eq_emod_of_nonneg (by omega)]; omega)
    have HM2 : Hid (wrap64 (1 + (r12 : Int)) = n) := Lib.hid (by unfold wrap64; omega)
    have HM3 : Hid ((wrap64 (l : Int)).tmod (n : Int) = (at_ : Int)) := Lib.hid (by
      have e : wrap64 (l : Int) = l := by unfold wrap64; omega
      rw [e, Int.tmod_eq_emod_of_nonneg (by omega), ← hat]; omega)
    have m5 : ¬ (n : Int) = 0 := by omega
    obtain ⟨A6, hA6⟩ : ∃ x, at_ * 64 = x := ⟨_, rfl⟩
    obtain ⟨A1, hA1⟩ : ∃ x, at_ + 1 = x := ⟨_, rfl⟩
    have m6 : (at_ : Int) * 64 = (A6 : Int) := by omega
    have m7 : (at_ : Int) + 1 = (A1 : Int) := by omega
    have m9 : (A6 : Int) ≤ 704 := by omega
    have m10 : (A1 : Int) ≤ 12 := by omega
    have m11 : (at_ : Int) ≤ 11 := by omega
    have hA6b : (A6 : Int) < 9223372036854775808 := by omega
    have m12 : (n : Int) ≤ 12 := by omega
    have HNW : Hid (∀ w1, Calls Try.prog 9 #[.int .i64 (n : Int)] w1 fun e w' => ∃ s : Sh, e = .returned (.tuple #[.pointer (some ⟨s.b, 0, none⟩), .int .i64 0]) ∧ Dev w' s (D0 n) ∧ (∀ k ∈ s.S, w1.heap.size ≤ k) ∧ Below w1.heap.size w1 w') := Lib.hid fun w1 => flnew_any n w1 hn1 (by omega)
    have HRP : Hid (∀ w1, Calls Try.prog 11 #[.string { data := #[90] }, .int .i64 16] w1 fun e w' => e = .returned (.string (str l90)) ∧ Below w1.heap.size w1 w') := Lib.hid (frep 90)
    obtain ⟨hk0, hk1⟩ := kept0 n at_ l90 hatn hn2
    rw [hA6, hA1] at hk0 hk1
    obtain ⟨D1, hD1⟩ : ∃ D, programD (D0 n) (A6 : Int) l90 = D := ⟨_, rfl⟩
    have HPG : Hid (∀ s w1, Dev w1 s (D0 n) → Calls Try.prog 10 #[.pointer (some ⟨s.b, 0, none⟩), .int .i64 (A6 : Int), .string (str l90)] w1 fun e w' => (∃ x, e = .returned (.int .i64 x)) ∧ Dev w' s D1 ∧ Onl s.S w1 w') := Lib.hid fun s w1 h => by
      have := program_any s (D0 n) (A6 : Int) (str l90) w1 h hA6b (by rw [str_size]; decide)
      rw [str_list, hD1] at this
      exact this.mono fun e w' h => ⟨⟨_, h.1⟩, h.2⟩
    rw [hD1] at hk0 hk1
    obtain ⟨W, hW⟩ : ∃ W, dump D1 at_ = W := ⟨_, rfl⟩
    have HDU : Hid (∀ s w1, Dev w1 s D1 → Calls Try.prog 12 #[.pointer (some ⟨s.b, 0, none⟩), .int .i64 (at_ : Int)] w1 fun e w' => e = .returned (.string (str W)) ∧ w1 = w') := Lib.hid fun s w1 h => by
      have := dump_any s D1 at_ w1 h
      rwa [hW] at this
    rw [hW] at hk0
    have HLK : Hid (∀ s w1, Dev w1 s D1 → Calls Try.prog 13 #[.pointer (some ⟨s.b, 0, none⟩), .int .i64 (at_ : Int), .int .i64 (A1 : Int)] w1 fun e w' => e = .returned (.int .i64 0) ∧ (∃ D, Dev w' s D ∧ Kept n at_ W D) ∧ Onl s.S w1 w') := Lib.hid fun s w1 h => by
      refine (lock_any s D1 at_ (A1 : Int) w1 h).mono ?_
      rintro e w' ⟨rfl, h1, h2⟩
      exact ⟨by rw [hk1], ⟨_, h1, hk0⟩, h2⟩
    -- what the rounds call
    have HD : Hid (∀ s D w1 j, Dev w1 s D → Calls Try.prog 12 #[.pointer (some ⟨s.b, 0, none⟩), .int .i64 j] w1 fun e w' => e = .returned (.string (str (dump D j))) ∧ w1 = w') := Lib.hid fun s D w1 j h => dump_any s D j w1 h
    have HKD : Hid (∀ D, Kept n at_ W D → dump D at_ = W) := Lib.hid fun D h => h.dump hatn
    have HNE : Hid (W = W) := Lib.hid rfl
    obtain ⟨Z, hZ⟩ : ∃ Z, op0 = Z := ⟨_, rfl⟩
    have HZ : Hid (∀ u, (zeroValue 36).run Try.prog u = .ok (.agg Z.toArray) u) := Lib.hid (by rw [← hZ]; exact zero_op)
    have HZL : Hid (Z.length = 6) := Lib.hid (by rw [← hZ]; rfl)
    have HFT : Hid (∀ (x : Int) (m : UInt8), ([.int .i64 x, .int .u8 (m.toNat : Int)] : List Value).length = 2) := Lib.hid fun _ _ => rfl
    have hnb : ((str W).toList == (str W).toList) = true := beq_self_eq_true _
    have m13 : 1 ≤ (n : Int) := by omega
    have m15 : n ≤ 12 := hn2
    have m14 : (N : Int) ≤ 150 := by omega
    have m1 := HM1.out
    have m2 := HM2.out
    have m3 := HM3.out
    clear hr12 hA6b hA6 hA1 h hI hG hn hat hq hl hk0 hk1 hD1 hW hZ hN hL hlen hn1 hn2 hatn
    go_enter Try.func3, Try.ntmps3
    go_wp2_with (first
      | (go_at_call 7; (with_reducible refine HA.out.mono ?_); rintro e w1 ⟨rfl, b1⟩; have B1 := Lib.hid b1; clear b1)
      | (go_at_call 8; (with_reducible refine (HG.out w1 B1.out).mono ?_); rintro e w2 ⟨rfl, b2⟩; have B2 := Lib.hid (B1.out.next b2); clear b2)
      | (go_at_call 9; (with_reducible refine (HNW.out w2).mono ?_); rintro e w3 ⟨s, rfl, d3, n3, b3⟩; have E3 := Lib.hid d3; have N3 : Hid (∀ k ∈ s.S, w.heap.size ≤ k) := Lib.hid (fun k hk => Nat.le_trans B2.out.size (n3 k hk)); have B3 := Lib.hid (B2.out.next b3); clear d3 b3 n3)
      | (go_at_call 11; (with_reducible refine (HRP.out w3).mono ?_); rintro e w4 ⟨rfl, b4⟩; have E4 := Lib.hid (E3.out.step b4); have B4 := Lib.hid (B3.out.next b4); clear b4)
      | (go_at_call 10; (with_reducible refine (HPG.out s w4 E4.out).mono ?_); rintro e w5 ⟨⟨x5, rfl⟩, d5, o5⟩; have E5 := Lib.hid d5; have B5 := Lib.hid (B4.out.trans (o5.below N3.out B4.out.size)); clear d5 o5)
      | (go_at_call 12; (with_reducible refine (HDU.out s w5 E5.out).mono ?_); rintro e u1 ⟨rfl, rfl⟩)
      | (go_at_call 13; (with_reducible refine (HLK.out s w5 E5.out).mono ?_); rintro e w6 ⟨rfl, ⟨D6, d6, k6⟩, o6⟩; have E6 := Lib.hid d6; have K6 := Lib.hid k6; have B6 := Lib.hid (B5.out.trans (o6.below N3.out B5.out.size)); clear d6 k6 o6))
    go_loopw [53] (fun x wr => ∃ k : Nat, k ≤ N ∧ x = .int .i64 k ∧ (∃ D, Dev wr s D ∧ Kept n at_ W D) ∧ Below w.heap.size w wr) (fun x _ => N - (intOf x).toNat)
    case atStart => exact ⟨0, Nat.zero_le _, rfl, ⟨D6, E6.out, K6.out⟩, B6.out⟩
    case round =>
      clear E6 K6 E3 E4 E5 B1 B2 B3 B4 B5 B6 m1 m2 m3 m6 m7
      obtain ⟨k, hk, rfl, ⟨D, hd, hkp⟩, hbl⟩ := hrel
      by_cases hlt : k < N
      · have hkL : k < L.length := by rw [HNL.out]; exact hlt
        obtain ⟨bl, off, rfl, _, hc⟩ := HOA.out.step hbl (by omega)
        obtain ⟨o, ho⟩ : ∃ o, L[k] = o := ⟨_, rfl⟩
        have hIn : o.In := by rw [← ho]; exact HIN.out _ (List.getElem_mem hkL)
        have RY := Lib.hid (hc k hkL)
        rw [ho] at RY
        have e1 : (k : Int) < N := by omega
        have E0 := Lib.hid hd
        have KP := Lib.hid hkp
        have BL := Lib.hid hbl
        clear hc ho hkL hd hkp hbl
        obtain ⟨ok, oa, on, os, ofb, ofm⟩ := o
        have ha2 : oa < 9223372036854775808 := hIn.ha.2
        have hs2 : os.size ≤ 140737488351232 := hIn.hs
        clear hIn
        obtain ⟨Y, hY⟩ : ∃ Y, opL ⟨ok, oa, on, os, ofb, ofm⟩ = Y := ⟨_, rfl⟩
        have HY0 : Hid (Y[0]? = some (.int .i64 ok)) := Lib.hid (by rw [← hY]; rfl)
        have HYa : Hid (Y[1]? = some (.int .i64 oa)) := Lib.hid (by rw [← hY]; rfl)
        have HYn : Hid (Y[2]? = some (.int .i64 on)) := Lib.hid (by rw [← hY]; rfl)
        have HYs : Hid (Y[3]? = some (.string os)) := Lib.hid (by rw [← hY]; rfl)
        have HYT : Hid (Y = [.int .i64 ok, .int .i64 oa, .int .i64 on, .string os] ++ [.int .i64 ofb, .int .u8 (ofm.toNat : Int)] ++ []) := Lib.hid (by rw [← hY]; rfl)
        have HYL : Hid (Y.length = 6) := Lib.hid (by rw [← hY]; rfl)
        have HY1 : Hid (Y.all (·.oneCell') = true) := Lib.hid (by rw [← hY]; rfl)
        have HX4 : Hid (([.int .i64 ok, .int .i64 oa, .int .i64 on, .string os] : List Value).length = 4) := Lib.hid rfl
        have HT2 : Hid (([.int .i64 ofb, .int .u8 (ofm.toNat : Int)] : List Value).length = 2) := Lib.hid rfl
        rw [hY] at RY
        -- what the call makes of the device
        have HRD : Hid (∀ w2, Dev w2 s D → Calls Try.prog 14 #[.pointer (some ⟨s.b, 0, none⟩), .int .i64 oa, .int .i64 on] w2 fun e w' => (∃ x y, e = .returned (.tuple #[.string x, .int .i64 y])) ∧ (∃ D', Dev w' s D' ∧ Kept n at_ W D' ∧ D'.C = D.C ∧ D'.L = D.L) ∧ Onl s.S w2 w') := Lib.hid fun w2 h2 => by
          refine (read_any s D oa on w2 h2 ha2).mono ?_
          rintro e w' ⟨rfl, h3, h4⟩
          have hq := readD_C D oa on (wrap64 (D.ops + 1))
          exact ⟨⟨_, _, rfl⟩, ⟨_, h3, KP.out.same hq.1 hq.2.1, hq.1, hq.2.1⟩, h4⟩
        have HER : Hid (∀ w2, Dev w2 s D → Calls Try.prog 15 #[.pointer (some ⟨s.b, 0, none⟩), .int .i64 oa] w2 fun e w' => (∃ x, e = .returned (.int .i64 x)) ∧ (∃ D', Dev w' s D' ∧ Kept n at_ W D') ∧ Onl s.S w2 w') := Lib.hid fun w2 h2 => by
          refine (fla_erase_any s D oa w2 h2).mono ?_
          rintro e w' ⟨rfl, h3, h4⟩
          exact ⟨⟨_, rfl⟩, ⟨_, h3, KP.out.erase oa⟩, h4⟩
        have HPR : Hid (∀ w2, Dev w2 s D → Calls Try.prog 10 #[.pointer (some ⟨s.b, 0, none⟩), .int .i64 oa, .string os] w2 fun e w' => (∃ x, e = .returned (.int .i64 x)) ∧ (∃ D', Dev w' s D' ∧ Kept n at_ W D') ∧ Onl s.S w2 w') := Lib.hid fun w2 h2 => by
          refine (program_any s D oa os w2 h2 ha2 (by omega)).mono ?_
          rintro e w' ⟨rfl, h3, h4⟩
          exact ⟨⟨_, rfl⟩, ⟨_, h3, KP.out.program oa _⟩, h4⟩
        have HFU : Hid (∀ w2, Dev w2 s D → Calls Try.prog 16 #[.pointer (some ⟨s.b, 0, none⟩), .int .i64 on, .agg ([.int .i64 ofb, .int .u8 (ofm.toNat : Int)] : List Value).toArray] w2 fun e w' => e = .returned (.tuple #[]) ∧ (∃ D', Dev w' s D' ∧ Kept n at_ W D' ∧ D'.C = D.C ∧ D'.L = D.L) ∧ Onl s.S w2 w') := Lib.hid fun w2 h2 => by
          refine (fuse_any s D on ofb ofm w2 h2).mono ?_
          rintro e w' ⟨rfl, h3, h4⟩
          exact ⟨rfl, ⟨_, h3, KP.out.same rfl rfl, rfl, rfl⟩, h4⟩
        have HPO : Hid (∀ w2, Dev w2 s D → Calls Try.prog 17 #[.pointer (some ⟨s.b, 0, none⟩)] w2 fun e w' => e = .returned (.tuple #[]) ∧ (∃ D', Dev w' s D' ∧ Kept n at_ W D' ∧ D'.C = D.C ∧ D'.L = D.L) ∧ Onl s.S w2 w') := Lib.hid fun w2 h2 => by
          refine (poweron_any s D w2 h2).mono ?_
          rintro e w' ⟨rfl, h3, h4⟩
          exact ⟨rfl, ⟨_, h3, KP.out.same rfl rfl, rfl, rfl⟩, h4⟩
        clear hY ha2 hs2
        by_cases hk0 : ok = 0
        · subst hk0
          go_wp2_with (first
            | ((with_reducible refine wpLoadAtK RY.out 36 fits_op HYL.out ?_ ?_); rfl)
            | ((with_reducible refine wpAllocK Z 36 HZ.out ?_ ?_); rfl; intro w1 r1 b1 s1; have R1 := Lib.hid r1; have E1 := Lib.hid (E0.out.step b1); have B1 := Lib.hid (BL.out.next b1); clear r1 b1 s1)
            | ((with_reducible refine R1.out.wpStoreK 36 Y fits_op HZL.out HYL.out HY1.out ?_ ?_); rfl; intro w2 r2 o2 s2; have R2 := Lib.hid r2; have E2 := Lib.hid (E1.out.onl (S := [wr.heap.size]) (Onl.of_only o2 (by simp)) (fun k hk hq => by have := E0.out.lt k hk; simp at hq; omega)); have c0 : w2.cell? ⟨wr.heap.size, 0, none⟩ = some (.int .i64 0) := (r2.cell 0).trans HY0.out; have ca : w2.cell? ⟨wr.heap.size, 1, none⟩ = some (.int .i64 oa) := (r2.cell 1).trans HYa.out; have cn : w2.cell? ⟨wr.heap.size, 2, none⟩ = some (.int .i64 on) := (r2.cell 2).trans HYn.out; have cs : w2.cell? ⟨wr.heap.size, 3, none⟩ = some (.string os) := (r2.cell 3).trans HYs.out; have RM2 : Hid (Row w2 wr.heap.size 36 ([.int .i64 0, .int .i64 oa, .int .i64 on, .string os] ++ [.int .i64 ofb, .int .u8 (ofm.toNat : Int)] ++ [])) := Lib.hid (by rw [← HYT.out]; exact r2); have B2 := Lib.hid (B1.out.trans (o2.below BL.out.size B1.out.size)); have GB := Lib.hid (BL.out.size); clear r2 o2 s2))
          go_loop [14, 15] (fun x i => ∃ j : Nat, j ≤ n ∧ i = .int .i64 j ∧ x = .string (str (catd D j))) (fun _ i => n - (intOf i).toNat)
          case atStart => exact ⟨0, Nat.zero_le _, rfl, rfl⟩
          case round =>
            obtain ⟨j, hj, rfl, rfl⟩ := hrel
            by_cases hjn : j < n
            · have e2 : (j : Int) < n := by omega
              have HDJ := Lib.hid (HD.out s D w2 j E2.out)
              obtain ⟨l1, hl1⟩ : ∃ x, catd D j = x := ⟨_, rfl⟩
              obtain ⟨l2, hl2⟩ : ∃ x, dump D (j : Int) = x := ⟨_, rfl⟩
              have hap := str_append l1 l2
              have HS : Hid (catd D (j + 1) = l1 ++ l2) := Lib.hid (by rw [catd_succ, hl1, hl2])
              have hsz : (str l1).size + (str l2).size ≤ 2000 := by
                have h1 := catd_len D j
                have h2 := dump_len D j
                rw [str_size, str_size, ← hl1, ← hl2]
                omega
              rw [hl2] at HDJ
              rw [hl1]
              clear hl1 hl2
              go_wp2_with (go_at_call 12; (with_reducible refine HDJ.out.mono ?_); rintro e u1 ⟨rfl, rfl⟩)
              case roundEnd => exact ⟨⟨j + 1, by omega, by go_num, by rw [HS.out]⟩, by simp [intOf]; omega⟩
            · obtain rfl : j = n := by omega
              obtain ⟨all, hall⟩ : ∃ x, catd D j = x := ⟨_, rfl⟩
              have HALL := Lib.hid hall
              rw [hall]
              clear hall hjn
              go_wp2_with (first
                | (go_at_call 14; (with_reducible refine (HRD.out w2 E2.out).mono ?_); rintro e w3 ⟨⟨x3, y3, rfl⟩, ⟨D3, d3, k3, hC, hL⟩, o3⟩; have E4 := Lib.hid d3; have K4 := Lib.hid k3; have B4 := Lib.hid (B2.out.trans (o3.below N3.out B2.out.size)); have c04 : w3.cell? ⟨wr.heap.size, 0, none⟩ = some (.int .i64 0) := (cell_onl 0 o3 R2.out.lt (fun hm => by have := E0.out.lt _ hm; omega)).trans c0; have HSM := Lib.hid (And.intro hC hL); clear d3 k3 o3))
              go_loop [16, 17] (fun x i => ∃ q : Nat, q ≤ j ∧ i = .int .i64 q ∧ x = .string (str (catd D3 q))) (fun _ i => j - (intOf i).toNat)
              case atStart => exact ⟨0, Nat.zero_le _, rfl, rfl⟩
              case round =>
                obtain ⟨q2, hj2, rfl, rfl⟩ := hrel
                by_cases hjn : q2 < j
                · have e2 : (q2 : Int) < j := by omega
                  have HDJ := Lib.hid (HD.out s D3 w3 q2 E4.out)
                  obtain ⟨l1, hl1⟩ : ∃ x, catd D3 q2 = x := ⟨_, rfl⟩
                  obtain ⟨l2, hl2⟩ : ∃ x, dump D3 (q2 : Int) = x := ⟨_, rfl⟩
                  have hap := str_append l1 l2
                  have HS : Hid (catd D3 (q2 + 1) = l1 ++ l2) := Lib.hid (by rw [catd_succ, hl1, hl2])
                  have hsz : (str l1).size + (str l2).size ≤ 2000 := by
                    have h1 := catd_len D3 q2
                    have h2 := dump_len D3 q2
                    rw [str_size, str_size, ← hl1, ← hl2]
                    omega
                  rw [hl2] at HDJ
                  rw [hl1]
                  clear hl1 hl2
                  go_wp2_with (go_at_call 12; (with_reducible refine HDJ.out.mono ?_); rintro e u1 ⟨rfl, rfl⟩)
                  case roundEnd => exact ⟨⟨q2 + 1, by omega, by go_num, by rw [HS.out]⟩, by simp [intOf]; omega⟩
                · obtain rfl : q2 = j := by omega
                  have HDA : Hid (Calls Try.prog 12 #[.pointer (some ⟨s.b, 0, none⟩), .int .i64 (at_ : Int)] w3 fun e w' => e = .returned (.string (str W)) ∧ w3 = w') := Lib.hid (by
                    have := HD.out s D3 w3 at_ E4.out
                    rwa [HKD.out _ K4.out] at this)
                  rw [catd_same HSM.out.1 HSM.out.2, HALL.out]
                  clear hjn
                  go_wp2_with (go_at_call 12; (with_reducible refine HDA.out.mono ?_); rintro e u1 ⟨rfl, rfl⟩)
                  go_roundw
                  case rel => exact ⟨k + 1, by omega, by go_num, ⟨_, E4.out, K4.out⟩, B4.out⟩
                  case measure => simp [intOf]; omega
        have q0 : (ok == (0 : Int)) = false := beq_eq_false_iff_ne.2 hk0
        have p0 : (ok != (0 : Int)) = true := bne_iff_ne.2 hk0
        by_cases hk1 : ok = 1
        · subst hk1
          go_wp2_with (first
            | ((with_reducible refine wpLoadAtK RY.out 36 fits_op HYL.out ?_ ?_); rfl)
            | ((with_reducible refine wpAllocK Z 36 HZ.out ?_ ?_); rfl; intro w1 r1 b1 s1; have R1 := Lib.hid r1; have E1 := Lib.hid (E0.out.step b1); have B1 := Lib.hid (BL.out.next b1); clear r1 b1 s1)
            | ((with_reducible refine R1.out.wpStoreK 36 Y fits_op HZL.out HYL.out HY1.out ?_ ?_); rfl; intro w2 r2 o2 s2; have R2 := Lib.hid r2; have E2 := Lib.hid (E1.out.onl (S := [wr.heap.size]) (Onl.of_only o2 (by simp)) (fun k hk hq => by have := E0.out.lt k hk; simp at hq; omega)); have c0 : w2.cell? ⟨wr.heap.size, 0, none⟩ = some (.int .i64 1) := (r2.cell 0).trans HY0.out; have ca : w2.cell? ⟨wr.heap.size, 1, none⟩ = some (.int .i64 oa) := (r2.cell 1).trans HYa.out; have cn : w2.cell? ⟨wr.heap.size, 2, none⟩ = some (.int .i64 on) := (r2.cell 2).trans HYn.out; have cs : w2.cell? ⟨wr.heap.size, 3, none⟩ = some (.string os) := (r2.cell 3).trans HYs.out; have RM2 : Hid (Row w2 wr.heap.size 36 ([.int .i64 1, .int .i64 oa, .int .i64 on, .string os] ++ [.int .i64 ofb, .int .u8 (ofm.toNat : Int)] ++ [])) := Lib.hid (by rw [← HYT.out]; exact r2); have B2 := Lib.hid (B1.out.trans (o2.below BL.out.size B1.out.size)); have GB := Lib.hid (BL.out.size); clear r2 o2 s2))
          go_loop [14, 15] (fun x i => ∃ j : Nat, j ≤ n ∧ i = .int .i64 j ∧ x = .string (str (catd D j))) (fun _ i => n - (intOf i).toNat)
          case atStart => exact ⟨0, Nat.zero_le _, rfl, rfl⟩
          case round =>
            obtain ⟨j, hj, rfl, rfl⟩ := hrel
            by_cases hjn : j < n
            · have e2 : (j : Int) < n := by omega
              have HDJ := Lib.hid (HD.out s D w2 j E2.out)
              obtain ⟨l1, hl1⟩ : ∃ x, catd D j = x := ⟨_, rfl⟩
              obtain ⟨l2, hl2⟩ : ∃ x, dump D (j : Int) = x := ⟨_, rfl⟩
              have hap := str_append l1 l2
              have HS : Hid (catd D (j + 1) = l1 ++ l2) := Lib.hid (by rw [catd_succ, hl1, hl2])
              have hsz : (str l1).size + (str l2).size ≤ 2000 := by
                have h1 := catd_len D j
                have h2 := dump_len D j
                rw [str_size, str_size, ← hl1, ← hl2]
                omega
              rw [hl2] at HDJ
              rw [hl1]
              clear hl1 hl2
              go_wp2_with (go_at_call 12; (with_reducible refine HDJ.out.mono ?_); rintro e u1 ⟨rfl, rfl⟩)
              case roundEnd => exact ⟨⟨j + 1, by omega, by go_num, by rw [HS.out]⟩, by simp [intOf]; omega⟩
            · obtain rfl : j = n := by omega
              obtain ⟨all, hall⟩ : ∃ x, catd D j = x := ⟨_, rfl⟩
              have HALL := Lib.hid hall
              rw [hall]
              clear hall hjn
              go_wp2_with (first
                | (go_at_call 15; (with_reducible refine (HER.out w2 E2.out).mono ?_); rintro e w3 ⟨⟨x3, rfl⟩, ⟨D3, d3, k3⟩, o3⟩; have E4 := Lib.hid d3; have K4 := Lib.hid k3; have B4 := Lib.hid (B2.out.trans (o3.below N3.out B2.out.size)); have c04 : w3.cell? ⟨wr.heap.size, 0, none⟩ = some (.int .i64 1) := (cell_onl 0 o3 R2.out.lt (fun hm => by have := E0.out.lt _ hm; omega)).trans c0; clear d3 k3 o3))
              go_loop [16, 17] (fun x i => ∃ q : Nat, q ≤ j ∧ i = .int .i64 q ∧ x = .string (str (catd D3 q))) (fun _ i => j - (intOf i).toNat)
              case atStart => exact ⟨0, Nat.zero_le _, rfl, rfl⟩
              case round =>
                obtain ⟨q2, hj2, rfl, rfl⟩ := hrel
                by_cases hjn : q2 < j
                · have e2 : (q2 : Int) < j := by omega
                  have HDJ := Lib.hid (HD.out s D3 w3 q2 E4.out)
                  obtain ⟨l1, hl1⟩ : ∃ x, catd D3 q2 = x := ⟨_, rfl⟩
                  obtain ⟨l2, hl2⟩ : ∃ x, dump D3 (q2 : Int) = x := ⟨_, rfl⟩
                  have hap := str_append l1 l2
                  have HS : Hid (catd D3 (q2 + 1) = l1 ++ l2) := Lib.hid (by rw [catd_succ, hl1, hl2])
                  have hsz : (str l1).size + (str l2).size ≤ 2000 := by
                    have h1 := catd_len D3 q2
                    have h2 := dump_len D3 q2
                    rw [str_size, str_size, ← hl1, ← hl2]
                    omega
                  rw [hl2] at HDJ
                  rw [hl1]
                  clear hl1 hl2
                  go_wp2_with (go_at_call 12; (with_reducible refine HDJ.out.mono ?_); rintro e u1 ⟨rfl, rfl⟩)
                  case roundEnd => exact ⟨⟨q2 + 1, by omega, by go_num, by rw [HS.out]⟩, by simp [intOf]; omega⟩
                · obtain rfl : q2 = j := by omega
                  have HDA : Hid (Calls Try.prog 12 #[.pointer (some ⟨s.b, 0, none⟩), .int .i64 (at_ : Int)] w3 fun e w' => e = .returned (.string (str W)) ∧ w3 = w') := Lib.hid (by
                    have := HD.out s D3 w3 at_ E4.out
                    rwa [HKD.out _ K4.out] at this)
                  obtain ⟨now, hnow⟩ : ∃ x, catd D3 q2 = x := ⟨_, rfl⟩
                  rw [hnow]
                  clear hnow
                  clear hjn
                  go_wp2_with (go_at_call 12; (with_reducible refine HDA.out.mono ?_); rintro e u1 ⟨rfl, rfl⟩)
                  go_roundw
                  case rel => exact ⟨k + 1, by omega, by go_num, ⟨_, E4.out, K4.out⟩, B4.out⟩
                  case measure => simp [intOf]; omega
        have q1 : (ok == (1 : Int)) = false := beq_eq_false_iff_ne.2 hk1
        have p1 : (ok != (1 : Int)) = true := bne_iff_ne.2 hk1
        by_cases hk2 : ok = 2
        · subst hk2
          go_wp2_with (first
            | ((with_reducible refine wpLoadAtK RY.out 36 fits_op HYL.out ?_ ?_); rfl)
            | ((with_reducible refine wpAllocK Z 36 HZ.out ?_ ?_); rfl; intro w1 r1 b1 s1; have R1 := Lib.hid r1; have E1 := Lib.hid (E0.out.step b1); have B1 := Lib.hid (BL.out.next b1); clear r1 b1 s1)
            | ((with_reducible refine R1.out.wpStoreK 36 Y fits_op HZL.out HYL.out HY1.out ?_ ?_); rfl; intro w2 r2 o2 s2; have R2 := Lib.hid r2; have E2 := Lib.hid (E1.out.onl (S := [wr.heap.size]) (Onl.of_only o2 (by simp)) (fun k hk hq => by have := E0.out.lt k hk; simp at hq; omega)); have c0 : w2.cell? ⟨wr.heap.size, 0, none⟩ = some (.int .i64 2) := (r2.cell 0).trans HY0.out; have ca : w2.cell? ⟨wr.heap.size, 1, none⟩ = some (.int .i64 oa) := (r2.cell 1).trans HYa.out; have cn : w2.cell? ⟨wr.heap.size, 2, none⟩ = some (.int .i64 on) := (r2.cell 2).trans HYn.out; have cs : w2.cell? ⟨wr.heap.size, 3, none⟩ = some (.string os) := (r2.cell 3).trans HYs.out; have RM2 : Hid (Row w2 wr.heap.size 36 ([.int .i64 2, .int .i64 oa, .int .i64 on, .string os] ++ [.int .i64 ofb, .int .u8 (ofm.toNat : Int)] ++ [])) := Lib.hid (by rw [← HYT.out]; exact r2); have B2 := Lib.hid (B1.out.trans (o2.below BL.out.size B1.out.size)); have GB := Lib.hid (BL.out.size); clear r2 o2 s2))
          go_loop [14, 15] (fun x i => ∃ j : Nat, j ≤ n ∧ i = .int .i64 j ∧ x = .string (str (catd D j))) (fun _ i => n - (intOf i).toNat)
          case atStart => exact ⟨0, Nat.zero_le _, rfl, rfl⟩
          case round =>
            obtain ⟨j, hj, rfl, rfl⟩ := hrel
            by_cases hjn : j < n
            · have e2 : (j : Int) < n := by omega
              have HDJ := Lib.hid (HD.out s D w2 j E2.out)
              obtain ⟨l1, hl1⟩ : ∃ x, catd D j = x := ⟨_, rfl⟩
              obtain ⟨l2, hl2⟩ : ∃ x, dump D (j : Int) = x := ⟨_, rfl⟩
              have hap := str_append l1 l2
              have HS : Hid (catd D (j + 1) = l1 ++ l2) := Lib.hid (by rw [catd_succ, hl1, hl2])
              have hsz : (str l1).size + (str l2).size ≤ 2000 := by
                have h1 := catd_len D j
                have h2 := dump_len D j
                rw [str_size, str_size, ← hl1, ← hl2]
                omega
              rw [hl2] at HDJ
              rw [hl1]
              clear hl1 hl2
              go_wp2_with (go_at_call 12; (with_reducible refine HDJ.out.mono ?_); rintro e u1 ⟨rfl, rfl⟩)
              case roundEnd => exact ⟨⟨j + 1, by omega, by go_num, by rw [HS.out]⟩, by simp [intOf]; omega⟩
            · obtain rfl : j = n := by omega
              obtain ⟨all, hall⟩ : ∃ x, catd D j = x := ⟨_, rfl⟩
              have HALL := Lib.hid hall
              rw [hall]
              clear hall hjn
              go_wp2_with (first
                | (go_at_call 10; (with_reducible refine (HPR.out w2 E2.out).mono ?_); rintro e w3 ⟨⟨x3, rfl⟩, ⟨D3, d3, k3⟩, o3⟩; have E4 := Lib.hid d3; have K4 := Lib.hid k3; have B4 := Lib.hid (B2.out.trans (o3.below N3.out B2.out.size)); have c04 : w3.cell? ⟨wr.heap.size, 0, none⟩ = some (.int .i64 2) := (cell_onl 0 o3 R2.out.lt (fun hm => by have := E0.out.lt _ hm; omega)).trans c0; clear d3 k3 o3))
              go_loop [16, 17] (fun x i => ∃ q : Nat, q ≤ j ∧ i = .int .i64 q ∧ x = .string (str (catd D3 q))) (fun _ i => j - (intOf i).toNat)
              case atStart => exact ⟨0, Nat.zero_le _, rfl, rfl⟩
              case round =>
                obtain ⟨q2, hj2, rfl, rfl⟩ := hrel
                by_cases hjn : q2 < j
                · have e2 : (q2 : Int) < j := by omega
                  have HDJ := Lib.hid (HD.out s D3 w3 q2 E4.out)
                  obtain ⟨l1, hl1⟩ : ∃ x, catd D3 q2 = x := ⟨_, rfl⟩
                  obtain ⟨l2, hl2⟩ : ∃ x, dump D3 (q2 : Int) = x := ⟨_, rfl⟩
                  have hap := str_append l1 l2
                  have HS : Hid (catd D3 (q2 + 1) = l1 ++ l2) := Lib.hid (by rw [catd_succ, hl1, hl2])
                  have hsz : (str l1).size + (str l2).size ≤ 2000 := by
                    have h1 := catd_len D3 q2
                    have h2 := dump_len D3 q2
                    rw [str_size, str_size, ← hl1, ← hl2]
                    omega
                  rw [hl2] at HDJ
                  rw [hl1]
                  clear hl1 hl2
                  go_wp2_with (go_at_call 12; (with_reducible refine HDJ.out.mono ?_); rintro e u1 ⟨rfl, rfl⟩)
                  case roundEnd => exact ⟨⟨q2 + 1, by omega, by go_num, by rw [HS.out]⟩, by simp [intOf]; omega⟩
                · obtain rfl : q2 = j := by omega
                  have HDA : Hid (Calls Try.prog 12 #[.pointer (some ⟨s.b, 0, none⟩), .int .i64 (at_ : Int)] w3 fun e w' => e = .returned (.string (str W)) ∧ w3 = w') := Lib.hid (by
                    have := HD.out s D3 w3 at_ E4.out
                    rwa [HKD.out _ K4.out] at this)
                  obtain ⟨now, hnow⟩ : ∃ x, catd D3 q2 = x := ⟨_, rfl⟩
                  rw [hnow]
                  clear hnow
                  clear hjn
                  go_wp2_with (go_at_call 12; (with_reducible refine HDA.out.mono ?_); rintro e u1 ⟨rfl, rfl⟩)
                  go_roundw
                  case rel => exact ⟨k + 1, by omega, by go_num, ⟨_, E4.out, K4.out⟩, B4.out⟩
                  case measure => simp [intOf]; omega
        have q2 : (ok == (2 : Int)) = false := beq_eq_false_iff_ne.2 hk2
        have p2 : (ok != (2 : Int)) = true := bne_iff_ne.2 hk2
        by_cases hk4 : ok = 4
        · subst hk4
          go_wp2_with (first
            | ((with_reducible refine wpLoadAtK RY.out 36 fits_op HYL.out ?_ ?_); rfl)
            | ((with_reducible refine wpAllocK Z 36 HZ.out ?_ ?_); rfl; intro w1 r1 b1 s1; have R1 := Lib.hid r1; have E1 := Lib.hid (E0.out.step b1); have B1 := Lib.hid (BL.out.next b1); clear r1 b1 s1)
            | ((with_reducible refine R1.out.wpStoreK 36 Y fits_op HZL.out HYL.out HY1.out ?_ ?_); rfl; intro w2 r2 o2 s2; have R2 := Lib.hid r2; have E2 := Lib.hid (E1.out.onl (S := [wr.heap.size]) (Onl.of_only o2 (by simp)) (fun k hk hq => by have := E0.out.lt k hk; simp at hq; omega)); have c0 : w2.cell? ⟨wr.heap.size, 0, none⟩ = some (.int .i64 4) := (r2.cell 0).trans HY0.out; have ca : w2.cell? ⟨wr.heap.size, 1, none⟩ = some (.int .i64 oa) := (r2.cell 1).trans HYa.out; have cn : w2.cell? ⟨wr.heap.size, 2, none⟩ = some (.int .i64 on) := (r2.cell 2).trans HYn.out; have cs : w2.cell? ⟨wr.heap.size, 3, none⟩ = some (.string os) := (r2.cell 3).trans HYs.out; have RM2 : Hid (Row w2 wr.heap.size 36 ([.int .i64 4, .int .i64 oa, .int .i64 on, .string os] ++ [.int .i64 ofb, .int .u8 (ofm.toNat : Int)] ++ [])) := Lib.hid (by rw [← HYT.out]; exact r2); have B2 := Lib.hid (B1.out.trans (o2.below BL.out.size B1.out.size)); have GB := Lib.hid (BL.out.size); clear r2 o2 s2))
          go_loop [14, 15] (fun x i => ∃ j : Nat, j ≤ n ∧ i = .int .i64 j ∧ x = .string (str (catd D j))) (fun _ i => n - (intOf i).toNat)
          case atStart => exact ⟨0, Nat.zero_le _, rfl, rfl⟩
          case round =>
            obtain ⟨j, hj, rfl, rfl⟩ := hrel
            by_cases hjn : j < n
            · have e2 : (j : Int) < n := by omega
              have HDJ := Lib.hid (HD.out s D w2 j E2.out)
              obtain ⟨l1, hl1⟩ : ∃ x, catd D j = x := ⟨_, rfl⟩
              obtain ⟨l2, hl2⟩ : ∃ x, dump D (j : Int) = x := ⟨_, rfl⟩
              have hap := str_append l1 l2
              have HS : Hid (catd D (j + 1) = l1 ++ l2) := Lib.hid (by rw [catd_succ, hl1, hl2])
              have hsz : (str l1).size + (str l2).size ≤ 2000 := by
                have h1 := catd_len D j
                have h2 := dump_len D j
                rw [str_size, str_size, ← hl1, ← hl2]
                omega
              rw [hl2] at HDJ
              rw [hl1]
              clear hl1 hl2
              go_wp2_with (go_at_call 12; (with_reducible refine HDJ.out.mono ?_); rintro e u1 ⟨rfl, rfl⟩)
              case roundEnd => exact ⟨⟨j + 1, by omega, by go_num, by rw [HS.out]⟩, by simp [intOf]; omega⟩
            · obtain rfl : j = n := by omega
              obtain ⟨all, hall⟩ : ∃ x, catd D j = x := ⟨_, rfl⟩
              have HALL := Lib.hid hall
              rw [hall]
              clear hall hjn
              go_wp2_with (first
                | ((with_reducible refine RM2.out.wpLoadMidK 4 HX4.out 34 fits_torn HT2.out ?_ ?_); rfl)
                | (go_at_call 16; (with_reducible refine (HFU.out w2 E2.out).mono ?_); rintro e w3 ⟨rfl, ⟨D3, d3, k3, hC, hL⟩, o3⟩; have E4 := Lib.hid d3; have K4 := Lib.hid k3; have B4 := Lib.hid (B2.out.trans (o3.below N3.out B2.out.size)); have c04 : w3.cell? ⟨wr.heap.size, 0, none⟩ = some (.int .i64 4) := (cell_onl 0 o3 R2.out.lt (fun hm => by have := E0.out.lt _ hm; omega)).trans c0; have HSM := Lib.hid (And.intro hC hL); clear d3 k3 o3))
              go_loop [16, 17] (fun x i => ∃ q : Nat, q ≤ j ∧ i = .int .i64 q ∧ x = .string (str (catd D3 q))) (fun _ i => j - (intOf i).toNat)
              case atStart => exact ⟨0, Nat.zero_le _, rfl, rfl⟩
              case round =>
                obtain ⟨q2, hj2, rfl, rfl⟩ := hrel
                by_cases hjn : q2 < j
                · have e2 : (q2 : Int) < j := by omega
                  have HDJ := Lib.hid (HD.out s D3 w3 q2 E4.out)
                  obtain ⟨l1, hl1⟩ : ∃ x, catd D3 q2 = x := ⟨_, rfl⟩
                  obtain ⟨l2, hl2⟩ : ∃ x, dump D3 (q2 : Int) = x := ⟨_, rfl⟩
                  have hap := str_append l1 l2
                  have HS : Hid (catd D3 (q2 + 1) = l1 ++ l2) := Lib.hid (by rw [catd_succ, hl1, hl2])
                  have hsz : (str l1).size + (str l2).size ≤ 2000 := by
                    have h1 := catd_len D3 q2
                    have h2 := dump_len D3 q2
                    rw [str_size, str_size, ← hl1, ← hl2]
                    omega
                  rw [hl2] at HDJ
                  rw [hl1]
                  clear hl1 hl2
                  go_wp2_with (go_at_call 12; (with_reducible refine HDJ.out.mono ?_); rintro e u1 ⟨rfl, rfl⟩)
                  case roundEnd => exact ⟨⟨q2 + 1, by omega, by go_num, by rw [HS.out]⟩, by simp [intOf]; omega⟩
                · obtain rfl : q2 = j := by omega
                  have HDA : Hid (Calls Try.prog 12 #[.pointer (some ⟨s.b, 0, none⟩), .int .i64 (at_ : Int)] w3 fun e w' => e = .returned (.string (str W)) ∧ w3 = w') := Lib.hid (by
                    have := HD.out s D3 w3 at_ E4.out
                    rwa [HKD.out _ K4.out] at this)
                  rw [catd_same HSM.out.1 HSM.out.2, HALL.out]
                  clear hjn
                  go_wp2_with (go_at_call 12; (with_reducible refine HDA.out.mono ?_); rintro e u1 ⟨rfl, rfl⟩)
                  go_roundw
                  case rel => exact ⟨k + 1, by omega, by go_num, ⟨_, E4.out, K4.out⟩, B4.out⟩
                  case measure => simp [intOf]; omega
        have q4 : (ok == (4 : Int)) = false := beq_eq_false_iff_ne.2 hk4
        have p4 : (ok != (4 : Int)) = true := bne_iff_ne.2 hk4
        by_cases hk5 : ok = 5
        · subst hk5
          go_wp2_with (first
            | ((with_reducible refine wpLoadAtK RY.out 36 fits_op HYL.out ?_ ?_); rfl)
            | ((with_reducible refine wpAllocK Z 36 HZ.out ?_ ?_); rfl; intro w1 r1 b1 s1; have R1 := Lib.hid r1; have E1 := Lib.hid (E0.out.step b1); have B1 := Lib.hid (BL.out.next b1); clear r1 b1 s1)
            | ((with_reducible refine R1.out.wpStoreK 36 Y fits_op HZL.out HYL.out HY1.out ?_ ?_); rfl; intro w2 r2 o2 s2; have R2 := Lib.hid r2; have E2 := Lib.hid (E1.out.onl (S := [wr.heap.size]) (Onl.of_only o2 (by simp)) (fun k hk hq => by have := E0.out.lt k hk; simp at hq; omega)); have c0 : w2.cell? ⟨wr.heap.size, 0, none⟩ = some (.int .i64 5) := (r2.cell 0).trans HY0.out; have ca : w2.cell? ⟨wr.heap.size, 1, none⟩ = some (.int .i64 oa) := (r2.cell 1).trans HYa.out; have cn : w2.cell? ⟨wr.heap.size, 2, none⟩ = some (.int .i64 on) := (r2.cell 2).trans HYn.out; have cs : w2.cell? ⟨wr.heap.size, 3, none⟩ = some (.string os) := (r2.cell 3).trans HYs.out; have RM2 : Hid (Row w2 wr.heap.size 36 ([.int .i64 5, .int .i64 oa, .int .i64 on, .string os] ++ [.int .i64 ofb, .int .u8 (ofm.toNat : Int)] ++ [])) := Lib.hid (by rw [← HYT.out]; exact r2); have B2 := Lib.hid (B1.out.trans (o2.below BL.out.size B1.out.size)); have GB := Lib.hid (BL.out.size); clear r2 o2 s2))
          go_loop [14, 15] (fun x i => ∃ j : Nat, j ≤ n ∧ i = .int .i64 j ∧ x = .string (str (catd D j))) (fun _ i => n - (intOf i).toNat)
          case atStart => exact ⟨0, Nat.zero_le _, rfl, rfl⟩
          case round =>
            obtain ⟨j, hj, rfl, rfl⟩ := hrel
            by_cases hjn : j < n
            · have e2 : (j : Int) < n := by omega
              have HDJ := Lib.hid (HD.out s D w2 j E2.out)
              obtain ⟨l1, hl1⟩ : ∃ x, catd D j = x := ⟨_, rfl⟩
              obtain ⟨l2, hl2⟩ : ∃ x, dump D (j : Int) = x := ⟨_, rfl⟩
              have hap := str_append l1 l2
              have HS : Hid (catd D (j + 1) = l1 ++ l2) := Lib.hid (by rw [catd_succ, hl1, hl2])
              have hsz : (str l1).size + (str l2).size ≤ 2000 := by
                have h1 := catd_len D j
                have h2 := dump_len D j
                rw [str_size, str_size, ← hl1, ← hl2]
                omega
              rw [hl2] at HDJ
              rw [hl1]
              clear hl1 hl2
              go_wp2_with (go_at_call 12; (with_reducible refine HDJ.out.mono ?_); rintro e u1 ⟨rfl, rfl⟩)
              case roundEnd => exact ⟨⟨j + 1, by omega, by go_num, by rw [HS.out]⟩, by simp [intOf]; omega⟩
            · obtain rfl : j = n := by omega
              obtain ⟨all, hall⟩ : ∃ x, catd D j = x := ⟨_, rfl⟩
              have HALL := Lib.hid hall
              rw [hall]
              clear hall hjn
              go_wp2_with (first
                | (go_at_call 17; (with_reducible refine (HPO.out w2 E2.out).mono ?_); rintro e w3 ⟨rfl, ⟨D3, d3, k3, hC, hL⟩, o3⟩; have E4 := Lib.hid d3; have K4 := Lib.hid k3; have B4 := Lib.hid (B2.out.trans (o3.below N3.out B2.out.size)); have c04 : w3.cell? ⟨wr.heap.size, 0, none⟩ = some (.int .i64 5) := (cell_onl 0 o3 R2.out.lt (fun hm => by have := E0.out.lt _ hm; omega)).trans c0; have HSM := Lib.hid (And.intro hC hL); clear d3 k3 o3))
              go_loop [16, 17] (fun x i => ∃ q : Nat, q ≤ j ∧ i = .int .i64 q ∧ x = .string (str (catd D3 q))) (fun _ i => j - (intOf i).toNat)
              case atStart => exact ⟨0, Nat.zero_le _, rfl, rfl⟩
              case round =>
                obtain ⟨q2, hj2, rfl, rfl⟩ := hrel
                by_cases hjn : q2 < j
                · have e2 : (q2 : Int) < j := by omega
                  have HDJ := Lib.hid (HD.out s D3 w3 q2 E4.out)
                  obtain ⟨l1, hl1⟩ : ∃ x, catd D3 q2 = x := ⟨_, rfl⟩
                  obtain ⟨l2, hl2⟩ : ∃ x, dump D3 (q2 : Int) = x := ⟨_, rfl⟩
                  have hap := str_append l1 l2
                  have HS : Hid (catd D3 (q2 + 1) = l1 ++ l2) := Lib.hid (by rw [catd_succ, hl1, hl2])
                  have hsz : (str l1).size + (str l2).size ≤ 2000 := by
                    have h1 := catd_len D3 q2
                    have h2 := dump_len D3 q2
                    rw [str_size, str_size, ← hl1, ← hl2]
                    omega
                  rw [hl2] at HDJ
                  rw [hl1]
                  clear hl1 hl2
                  go_wp2_with (go_at_call 12; (with_reducible refine HDJ.out.mono ?_); rintro e u1 ⟨rfl, rfl⟩)
                  case roundEnd => exact ⟨⟨q2 + 1, by omega, by go_num, by rw [HS.out]⟩, by simp [intOf]; omega⟩
                · obtain rfl : q2 = j := by omega
                  have HDA : Hid (Calls Try.prog 12 #[.pointer (some ⟨s.b, 0, none⟩), .int .i64 (at_ : Int)] w3 fun e w' => e = .returned (.string (str W)) ∧ w3 = w') := Lib.hid (by
                    have := HD.out s D3 w3 at_ E4.out
                    rwa [HKD.out _ K4.out] at this)
                  rw [catd_same HSM.out.1 HSM.out.2, HALL.out]
                  clear hjn
                  go_wp2_with (go_at_call 12; (with_reducible refine HDA.out.mono ?_); rintro e u1 ⟨rfl, rfl⟩)
                  go_roundw
                  case rel => exact ⟨k + 1, by omega, by go_num, ⟨_, E4.out, K4.out⟩, B4.out⟩
                  case measure => simp [intOf]; omega
        have q5 : (ok == (5 : Int)) = false := beq_eq_false_iff_ne.2 hk5
        have p5 : (ok != (5 : Int)) = true := bne_iff_ne.2 hk5
        go_wp2_with (first
          | ((with_reducible refine wpLoadAtK RY.out 36 fits_op HYL.out ?_ ?_); rfl)
          | ((with_reducible refine wpAllocK Z 36 HZ.out ?_ ?_); rfl; intro w1 r1 b1 s1; have R1 := Lib.hid r1; have E1 := Lib.hid (E0.out.step b1); have B1 := Lib.hid (BL.out.next b1); clear r1 b1 s1)
          | ((with_reducible refine R1.out.wpStoreK 36 Y fits_op HZL.out HYL.out HY1.out ?_ ?_); rfl; intro w2 r2 o2 s2; have R2 := Lib.hid r2; have E2 := Lib.hid (E1.out.onl (S := [wr.heap.size]) (Onl.of_only o2 (by simp)) (fun k hk hq => by have := E0.out.lt k hk; simp at hq; omega)); have c0 : w2.cell? ⟨wr.heap.size, 0, none⟩ = some (.int .i64 ok) := (r2.cell 0).trans HY0.out; have ca : w2.cell? ⟨wr.heap.size, 1, none⟩ = some (.int .i64 oa) := (r2.cell 1).trans HYa.out; have cn : w2.cell? ⟨wr.heap.size, 2, none⟩ = some (.int .i64 on) := (r2.cell 2).trans HYn.out; have cs : w2.cell? ⟨wr.heap.size, 3, none⟩ = some (.string os) := (r2.cell 3).trans HYs.out; have RM2 : Hid (Row w2 wr.heap.size 36 ([.int .i64 ok, .int .i64 oa, .int .i64 on, .string os] ++ [.int .i64 ofb, .int .u8 (ofm.toNat : Int)] ++ [])) := Lib.hid (by rw [← HYT.out]; exact r2); have B2 := Lib.hid (B1.out.trans (o2.below BL.out.size B1.out.size)); have GB := Lib.hid (BL.out.size); clear r2 o2 s2))
        go_loop [14, 15] (fun x i => ∃ j : Nat, j ≤ n ∧ i = .int .i64 j ∧ x = .string (str (catd D j))) (fun _ i => n - (intOf i).toNat)
        case atStart => exact ⟨0, Nat.zero_le _, rfl, rfl⟩
        case round =>
          obtain ⟨j, hj, rfl, rfl⟩ := hrel
          by_cases hjn : j < n
          · have e2 : (j : Int) < n := by omega
            have HDJ := Lib.hid (HD.out s D w2 j E2.out)
            obtain ⟨l1, hl1⟩ : ∃ x, catd D j = x := ⟨_, rfl⟩
            obtain ⟨l2, hl2⟩ : ∃ x, dump D (j : Int) = x := ⟨_, rfl⟩
            have hap := str_append l1 l2
            have HS : Hid (catd D (j + 1) = l1 ++ l2) := Lib.hid (by rw [catd_succ, hl1, hl2])
            have hsz : (str l1).size + (str l2).size ≤ 2000 := by
              have h1 := catd_len D j
              have h2 := dump_len D j
              rw [str_size, str_size, ← hl1, ← hl2]
              omega
            rw [hl2] at HDJ
            rw [hl1]
            clear hl1 hl2
            go_wp2_with (go_at_call 12; (with_reducible refine HDJ.out.mono ?_); rintro e u1 ⟨rfl, rfl⟩)
            case roundEnd => exact ⟨⟨j + 1, by omega, by go_num, by rw [HS.out]⟩, by simp [intOf]; omega⟩
          · obtain rfl : j = n := by omega
            obtain ⟨all, hall⟩ : ∃ x, catd D j = x := ⟨_, rfl⟩
            have HALL := Lib.hid hall
            rw [hall]
            clear hall hjn
            go_wp2
            go_loop [16, 17] (fun x i => ∃ q : Nat, q ≤ j ∧ i = .int .i64 q ∧ x = .string (str (catd D q))) (fun _ i => j - (intOf i).toNat)
            case atStart => exact ⟨0, Nat.zero_le _, rfl, rfl⟩
            case round =>
              obtain ⟨q2, hj2, rfl, rfl⟩ := hrel
              by_cases hjn : q2 < j
              · have e2 : (q2 : Int) < j := by omega
                have HDJ := Lib.hid (HD.out s D w2 q2 E2.out)
                obtain ⟨l1, hl1⟩ : ∃ x, catd D q2 = x := ⟨_, rfl⟩
                obtain ⟨l2, hl2⟩ : ∃ x, dump D (q2 : Int) = x := ⟨_, rfl⟩
                have hap := str_append l1 l2
                have HS : Hid (catd D (q2 + 1) = l1 ++ l2) := Lib.hid (by rw [catd_succ, hl1, hl2])
                have hsz : (str l1).size + (str l2).size ≤ 2000 := by
                  have h1 := catd_len D q2
                  have h2 := dump_len D q2
                  rw [str_size, str_size, ← hl1, ← hl2]
                  omega
                rw [hl2] at HDJ
                rw [hl1]
                clear hl1 hl2
                go_wp2_with (go_at_call 12; (with_reducible refine HDJ.out.mono ?_); rintro e u1 ⟨rfl, rfl⟩)
                case roundEnd => exact ⟨⟨q2 + 1, by omega, by go_num, by rw [HS.out]⟩, by simp [intOf]; omega⟩
              · obtain rfl : q2 = j := by omega
                have HDA : Hid (Calls Try.prog 12 #[.pointer (some ⟨s.b, 0, none⟩), .int .i64 (at_ : Int)] w2 fun e w' => e = .returned (.string (str W)) ∧ w2 = w') := Lib.hid (by
                  have := HD.out s D w2 at_ E2.out
                  rwa [HKD.out _ KP.out] at this)
                rw [HALL.out]
                clear hjn
                go_wp2_with (go_at_call 12; (with_reducible refine HDA.out.mono ?_); rintro e u1 ⟨rfl, rfl⟩)
                go_roundw
                case rel => exact ⟨k + 1, by omega, by go_num, ⟨_, E2.out, KP.out⟩, B2.out⟩
                case measure => simp [intOf]; omega
      · obtain rfl : k = N := by omega
        clear hlt
        have BL := Lib.hid hbl
        clear hd hkp hbl
        go_wp2
        go_ret
        exact ⟨rfl, BL.out⟩
end Go.Proofs.Ytgdfcfbccjdecaa
