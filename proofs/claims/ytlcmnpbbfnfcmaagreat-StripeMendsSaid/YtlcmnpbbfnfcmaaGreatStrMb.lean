/- The law's turned (gen_str_m.py). -/
import Derived.Test.YtlcmnpbbfnfcmaaGreatStrMa
import Derived.Test.YtlcmnpbbfnfcmaaGreatB5
import Derived.Carry
namespace Go.Proofs.YtlcmnpbbfnfcmaaGreat
open Go.RowKit CrcMath GfMath PolyMath RsMath SolMath GeoMath Go.Maps
set_option linter.unusedVariables false
set_option linter.unusedSimpArgs false
set_option maxRecDepth 100000

theorem fits_tu : Fits Tryz.prog 66 4 := ⟨⟨_, Tryz.underlying66, rfl⟩, by kernel_rfl⟩
theorem zero_tu : ∀ u, (zeroValue 66).run Tryz.prog u = .ok (.agg ([.int .i64 0, .int .i64 0, .int .u8 0, .bool false] : List Value).toArray) u := fun u => by kernel_rfl
theorem me_one_string : One Tryz.prog 9 := One.of (by kernel_rfl)
theorem me_info_str : (Tryz.prog.info? 9).map (·.size) = some 1 := by kernel_rfl
theorem me_info_byte : (Tryz.prog.info? 5).map (·.size) = some 1 := by kernel_rfl
theorem me_str_cells (s : ByteArray) : (Value.string s).cells = #[.string s] := rfl
theorem me_str_one (s : ByteArray) : (Value.string s).oneCell' = true := rfl
theorem me_row_grown {w w' : World} {g B : Nat} {t : TypeId} {l : List Value} (h : Row w g t l) (hg : w.grownBy w' (some B)) (hne : g ≠ B) : Row w' g t l := (hg.block g h.lt (fun e => hne (Option.some.inj e))).trans h
theorem me_set {n : Nat} {M : List ByteArray} {z : List Value} {i : Nat} (hM : Sx n M) (hi : i < n) (T : ByteArray) : (strs M ++ z).set i (.string T) = strs (M.set i T) ++ z := by
  rw [List.set_append_left _ _ (by rw [strs_length, hM.1]; exact hi)]
  unfold strs
  rw [List.map_set]
theorem me_get {n : Nat} {M : List ByteArray} {z : List Value} {i : Nat} (hM : Sx n M) (hi : i < n) : (strs M ++ z)[i]? = some (.string (M.getD i ByteArray.empty)) := by
  rw [List.getElem?_append_left (by rw [strs_length, hM.1]; exact hi), strs_get _ _ (by rw [hM.1]; exact hi), List.getD_eq_getElem?_getD, List.getElem?_eq_getElem (by rw [hM.1]; exact hi)]
  rfl
set_option maxHeartbeats 4000000 in
theorem turned_any (gs n capl : Nat) (L : List ByteArray) (at_ : Option Addr) (nt ct : Nat) (ts : List Tu) (w : World) (hn : 3 ≤ n) (hn14 : n ≤ 14) (hL : Sx n L) (hr : Row w gs 9 (strs L)) (hts : ts.length = nt) (hnt : nt ≤ 60) (ht : Lies w w.heap.size at_ (tucs ts)) :
    Calls Tryz.prog 8 #[.slice (some ⟨gs, 0, none⟩) n capl, .slice at_ nt ct] w fun e w' =>
      (∃ g c2 B z, e = .returned (.tuple #[.slice (some ⟨g, 0, none⟩) n c2, .map (some B)]) ∧ Row w' g 9 (strs (tuF n L ts) ++ z) ∧ SeenG KM w' B (neN L (tuF n L ts) n) (neK L (tuF n L ts) n)) ∧ Below w.heap.size w w' := by
  have HR := Lib.hid hr
  have HT := Lib.hid ht
  have HTS := Lib.hid hts
  have HSX := Lib.hid hL
  have HSXK : Hid (∀ k, Sx n (tuF n L (ts.take k))) := Lib.hid fun k => hL.all
  have HNX : Hid (∀ k (h : k < ts.length), tuF n L (ts.take (k + 1)) = tuStep n (tuF n L (ts.take k)) ts[k]) := Lib.hid fun k h => tuF_next n L ts k h
  have HEND : Hid (tuF n L (ts.take nt) = tuF n L ts) := Lib.hid (by rw [← hts, List.take_length])
  have H00 : Hid (tuF n L (ts.take 0) = L) := Lib.hid rfl
  have hni : (n : Int) ≤ 14 := by omega
  have hn0 : 3 ≤ (n : Int) := by omega
  have hnti : (nt : Int) ≤ 60 := by omega
  have HL : Hid ((strs L).length = n) := Lib.hid (by rw [strs_length]; exact hL.1)
  have H0 : Hid (0 < n) := Lib.hid (by omega)
  have H1 : Hid ((strs L).all (·.oneCell') = true) := Lib.hid (by unfold strs; rw [List.all_map]; exact List.all_eq_true.2 fun _ _ => rfl)
  have HN : Big (0 + n ≤ 1099511627776) := ⟨by omega⟩
  have HRP : Hid (∀ u, Calls Tryz.prog 13 #[.string { data := #[255] }, .int .i64 64] u fun e w' => e = .returned (.string (str (List.replicate 64 255))) ∧ Below u.heap.size u w') := Lib.hid fun u => tag_rep 255 64 u (by omega)
  have HBL : Hid ((str (List.replicate 64 255)).data.toList.length = (str (List.replicate 64 255)).size) := Lib.hid (size_list _)
  have HBS : Hid (str (str (List.replicate 64 255)).data.toList = str (List.replicate 64 255)) := Lib.hid (str_of _)
  generalize hBLX : str (List.replicate 64 255) = BL at *
  have HBLX := Lib.hid hBLX
  have HLI : Hid (Lies w w.heap.size (some ⟨gs, 0, none⟩) (strs L)) := Lib.hid fun _ => ⟨gs, 0, rfl, hr.lt, fun j u hj => by rw [Nat.zero_add, hr.cell]; exact hj⟩
  obtain ⟨B0, hB⟩ : ∃ B, B = w.heap.size := ⟨_, rfl⟩
  have HB := Lib.hid hB
  have HOW : Hid (∀ (t : TypeId) (u : World), u.heap.size = B0 → t = 9 → (u.alloc (.cells #[] t)).ownsRow B0 9 1 (.slice (some ⟨u.heap.size, 0, none⟩) 0 0) 0 []) := Lib.hid (by
    intro t u hu ht
    subst ht
    exact Row.owns (xs := []) (ys := []) (Row.new u _ []) (by omega) rfl rfl (Nat.le_refl _) (by unfold maxLen; omega))
  have hmm := @run_makeMap Tryz.prog
  clear hn hn14 hL hr hts hnt ht hB hBLX
  go_enter Tryz.func8, Tryz.ntmps8
  go_wp2_with ((with_reducible refine wpAppendK capl (HOW.out 9 w HB.out.symm rfl) Tryz.underlying33 me_one_string (HLI.out.step (alloc_below _ _)) HL.out H0.out H1.out HN (by rw [HB.out]; exact (alloc_below w _).size) ?_ ?_); rfl; intro v1 u1 g1 g2 g3; have G1 := Lib.hid g1; have G2 := Lib.hid g2; clear g1 g2 g3)
  have hbel : Below w.heap.size w u1 := (alloc_below w _).grown G2.out (by simp) (fun k hk => by cases hk; exact Nat.le_refl _)
  have h1 := G1.out
  rw [Nat.zero_add, List.nil_append, HB.out] at h1
  obtain ⟨g, c2, hv, hge⟩ : ∃ g c2, v1 = .slice (some ⟨g, 0, none⟩) n c2 ∧ w.heap.size ≤ g := by
    rcases h1.2 with ⟨rfl, h2⟩ | ⟨g', cap', cur, rfl, h3, _⟩
    · exact absurd h2 (by have := H0.out; omega)
    · exact ⟨g', cap', rfl, h3⟩
  subst hv
  obtain ⟨z, hrow⟩ := (own_row h1).2
  have R1 := Lib.hid hrow
  have BE1 := Lib.hid hbel
  have HGE := Lib.hid hge
  clear h1 hbel hrow hge G1 G2 HOW HB
  obtain ⟨B, hBm⟩ : ∃ B, u1.heap.size = B := ⟨_, rfl⟩
  have SM1 : Hid (SeenG KM (u1.alloc (.map #[] 0)) B 0 (fun _ => false)) := Lib.hid (by rw [← hBm]; exact SeenG.made u1)
  have R2 : Hid (Row (u1.alloc (.map #[] 0)) g 9 (strs (tuF n L (ts.take 0)) ++ z)) := Lib.hid (by rw [H00.out]; exact R1.out.step (alloc_below _ _))
  have BE2 : Hid (Below w.heap.size w (u1.alloc (.map #[] 0))) := Lib.hid (BE1.out.next (alloc_below _ _))
  have HGB : Hid (g ≠ B) := Lib.hid (by have := R1.out.lt; omega)
  have HWB : Hid (w.heap.size ≤ B) := Lib.hid (by rw [← hBm]; exact BE1.out.size)
  clear H00 H1 HN HL HLI
  go_wp2
  rw [hBm]
  go_loopw [18] (fun i wr => ∃ k : Nat, k ≤ nt ∧ i = .int .i64 k ∧ Row wr g 9 (strs (tuF n L (ts.take k)) ++ z) ∧ SeenG KM wr B 0 (fun _ => false) ∧ Below w.heap.size w wr) (fun i _ => nt - (intOf i).toNat)
  case atStart => exact ⟨0, Nat.zero_le _, rfl, R2.out, SM1.out, BE2.out⟩
  case round =>
    clear R1 BE1 R2 SM1 BE2 hBm
    obtain ⟨k, hk, rfl, hrw, hsm, hbw⟩ := hrel
    have RW := Lib.hid hrw
    have SM := Lib.hid hsm
    have HBW := Lib.hid hbw
    clear hrw hsm hbw
    by_cases hlt : k < nt
    · have hk1 : (k : Int) < (nt : Int) := by omega
      have hkl : Hid (k < ts.length) := Lib.hid (by rw [HTS.out]; exact hlt)
      obtain ⟨b2, off, rfl, hbb, hc⟩ := HT.out (by rw [tucs_length, HTS.out]; omega)
      have HRG : Hid (wr.rangeAt b2 (off + k * 4) (tuv (ts[k]'hkl.out))) := Lib.hid (tucs_at (w := wr) (fun j u hj => (HBW.out.cell (p := ⟨b2, off + j, none⟩) hbb).trans (hc j u hj)) k hkl.out)
      have HNXK := Lib.hid (HNX.out k hkl.out)
      have HSK := Lib.hid (HSXK.out k)
      obtain ⟨⟨sec, a_, by_, al⟩, hx⟩ : ∃ r, ts[k]'hkl.out = r := ⟨_, rfl⟩
      rw [hx] at HRG HNXK
      have HRG2 : Hid (wr.rangeAt b2 (off + k * 4) [.int .i64 sec, .int .i64 a_, .int .u8 (by_.toNat : Int), .bool al]) := HRG
      generalize tuF n L (ts.take k) = M at *
      clear hc hx HRG HT HNX HSXK HEND
      by_cases hok : tuOk n ⟨sec, a_, by_, al⟩
      · obtain ⟨o1, o2, o3, o4⟩ := hok
        have HSTEP : Hid (tuF n L (ts.take (k + 1)) = M.set sec.toNat (tuS (M.getD sec.toNat ByteArray.empty) a_.toNat by_ al)) := Lib.hid (by rw [HNXK.out]; unfold tuStep; rw [if_pos ⟨o1, o2, o3, o4⟩])
        dsimp only at o1 o2 o3 o4
        obtain ⟨i, rfl⟩ : ∃ i : Nat, sec = (i : Int) := ⟨sec.toNat, by omega⟩
        obtain ⟨a, rfl⟩ : ∃ a : Nat, a_ = (a : Int) := ⟨a_.toNat, by omega⟩
        rw [Int.toNat_natCast, Int.toNat_natCast] at HSTEP
        have hi : i < n := by omega
        have ha : a < 64 := by omega
        have n1 : ¬ (i : Int) < 0 := by omega
        have n2 : ¬ (n : Int) ≤ (i : Int) := by omega
        have n3 : ¬ (a : Int) < 0 := by omega
        have n4 : ¬ (63 : Int) < (a : Int) := by omega
        have d1 : decide ((i : Int) < 0) = false := decide_eq_false n1
        have d2 : decide ((n : Int) ≤ (i : Int)) = false := decide_eq_false n2
        have d3 : decide ((a : Int) < 0) = false := decide_eq_false n3
        have d4 : decide ((63 : Int) < (a : Int)) = false := decide_eq_false n4
        obtain ⟨S, hS⟩ : ∃ S, M.getD i ByteArray.empty = S := ⟨_, rfl⟩
        have HSZ : Hid (S.size = 64) := Lib.hid (by rw [← hS]; exact HSK.out.get hi)
        have HCELL : Hid (∀ u, Row u g 9 (strs M ++ z) → u.cell? ⟨g, i, none⟩ = some (.string S)) := Lib.hid fun u h => by rw [h.cell, me_get HSK.out hi, hS]
        rw [hS] at HSTEP
        have haS : (a : Int) < (S.size : Int) := by have := HSZ.out; omega
        have HLEN : Hid (i < (strs M ++ z).length) := Lib.hid (by rw [List.length_append, strs_length, HSK.out.1]; omega)
        have HSETM : Hid (∀ T, (strs M ++ z).set i (.string T) = strs (M.set i T) ++ z) := Lib.hid fun T => me_set HSK.out hi T
        obtain ⟨X, hX⟩ : ∃ X, S.data.toList = X := ⟨_, rfl⟩
        have HXL : Hid (X.length = S.size) := Lib.hid (by rw [← hX, size_list])
        have HAX : Hid (a < X.length) := Lib.hid (by rw [HXL.out, HSZ.out]; exact ha)
        obtain ⟨x, hxx⟩ : ∃ x, X[a]'HAX.out = x := ⟨_, rfl⟩
        have HXD : Hid (X.getD a 0 = x) := Lib.hid (by rw [List.getD_eq_getElem?_getD, List.getElem?_eq_getElem HAX.out, hxx]; rfl)
        obtain ⟨y, hy⟩ : ∃ y, x ^^^ by_ = y := ⟨_, rfl⟩
        have HTS1 : Hid (tuS S a by_ false = str (X.set a y)) := Lib.hid (by unfold tuS; rw [if_neg (by decide), hX, HXD.out, hy])
        have HTS2 : Hid (tuS S a by_ true = BL) := Lib.hid (by unfold tuS; rw [if_pos rfl, HBLX.out])
        have hxor : bits .xor .u8 (x.toNat : Int) (by_.toNat : Int) = (y.toNat : Int) := by rw [← hy, u8_xor_nat _ _ x.toNat_lt by_.toNat_lt, UInt8.toNat_xor]
        have lb := by_.toNat_lt
        have HYB := Lib.hid lb
        clear o1 o2 o3 o4 hi ha hS lb hy
        go_wp2_with (first
          | ((with_reducible refine wpLoadRK HRG2.out 66 fits_tu rfl ?_ ?_); rfl)
          | ((with_reducible refine wpAllocK (w := wr) [.int .i64 0, .int .i64 0, .int .u8 0, .bool false] 66 zero_tu ?_ ?_); rfl; intro x1 r1 b1 s1; have R1 := Lib.hid r1; have BB1 := Lib.hid b1; clear r1 b1 s1)
          | ((with_reducible refine R1.out.wpStoreK 66 [.int .i64 (i : Int), .int .i64 (a : Int), .int .u8 (by_.toNat : Int), .bool al] fits_tu rfl rfl rfl ?_ ?_); rfl; intro x2 r2 o2 s2; have BB2 : Hid (Below wr.heap.size wr x2) := Lib.hid (BB1.out.trans (o2.below (Nat.le_refl _) BB1.out.size)); have RW2 := Lib.hid (RW.out.step BB2.out); have SM2 := Lib.hid (SM.out.below BB2.out); have K2 := Lib.hid r2; have k0 : x2.cell? ⟨wr.heap.size, 0, none⟩ = some (.int .i64 (i : Int)) := r2.cell 0; have k1 : x2.cell? ⟨wr.heap.size, 1, none⟩ = some (.int .i64 (a : Int)) := r2.cell 1; have ks := HCELL.out x2 RW2.out; obtain ⟨uc, cap, hconv, hby, hbc⟩ := conv_new S x2; obtain ⟨gb, hgb⟩ : ∃ q, x2.heap.size = q := ⟨_, rfl⟩; rw [hX] at hby; rw [hgb] at hconv hby; have BY := Lib.hid hby; have BC := Lib.hid hbc; have HGBE := Lib.hid hgb; clear r2 o2 s2 hby hbc hgb))
        have RW3 := Lib.hid (RW2.out.step BC.out)
        have SM3 := Lib.hid (SM2.out.below BC.out)
        have K3 := Lib.hid (K2.out.step BC.out)
        have k1 : uc.cell? ⟨wr.heap.size, 1, none⟩ = some (.int .i64 (a : Int)) := K3.out.cell 1
        have k2 : uc.cell? ⟨wr.heap.size, 2, none⟩ = some (.int .u8 (by_.toNat : Int)) := K3.out.cell 2
        have kx : uc.cell? ⟨gb, a, none⟩ = some (.int .u8 (x.toNat : Int)) := by rw [BY.out.cell a HAX.out, hxx]
        have HNE1 : Hid (g ≠ gb ∧ B ≠ gb ∧ wr.heap.size ≠ gb ∧ w.heap.size ≤ gb) := Lib.hid (by have h1 := RW2.out.lt; have h2 := SM2.out.lt; have h3 := K2.out.lt; have h4 := HGBE.out; have h5 := (HBW.out.next BB2.out).size; omega)
        have BF3 : Hid (Below w.heap.size w uc) := Lib.hid ((HBW.out.next BB2.out).next BC.out)
        have BY0 : Hid (Bytes uc.drew gb X) := Lib.hid BY.out.drew
        have RW0 : Hid (Row uc.drew g 9 (strs M ++ z)) := Lib.hid RW3.out.drew
        have K0 : Hid (Row uc.drew wr.heap.size 66 [.int .i64 (i : Int), .int .i64 (a : Int), .int .u8 (by_.toNat : Int), .bool al]) := Lib.hid K3.out.drew
        have SM0 : Hid (SeenG KM uc.drew B 0 (fun _ => false)) := Lib.hid (SM3.out.below (Below.refl _ _).drew)
        have BF0 : Hid (Below w.heap.size w uc.drew) := Lib.hid (BF3.out.next (Below.refl _ _).drew)
        clear hconv
        go_still_tail 9, (by kernel_rfl)
        change wpList _ _ _ _ _ uc.drew
        generalize uc.drew = wq at *
        clear k1 k2 kx RW3 SM3 K3 BY BC BF3 RW2 SM2 K2 ks
        refine BY0.out.wpStore1 a 5 y me_info_byte HAX.out ?_ ?_
        · rfl
        intro y1 r1 o1 s1
        have BY1 := Lib.hid r1
        have RW4 := Lib.hid (RW0.out.only o1 HNE1.out.1)
        have K4 := Lib.hid (K0.out.only o1 HNE1.out.2.2.1)
        have SM4 : Hid (SeenG KM y1 B 0 (fun _ => false)) := Lib.hid (SM0.out.keepM (o1.2.2.2.2 B SM0.out.lt HNE1.out.2.1))
        have BF4 : Hid (Below w.heap.size w y1) := Lib.hid (BF0.out.trans (o1.below HNE1.out.2.2.2 BF0.out.size))
        have j3 : y1.cell? ⟨wr.heap.size, 3, none⟩ = some (.bool al) := K4.out.cell 3
        have j0 : y1.cell? ⟨wr.heap.size, 0, none⟩ = some (.int .i64 (i : Int)) := K4.out.cell 0
        have hcv := r1.conv (cap := cap) (n := S.size) (by rw [List.length_set]; exact HXL.out)
        clear r1 o1 s1
        cases al with
        | false =>
          rw [HTS1.out] at HSTEP
          go_wp2_with ((with_reducible refine RW4.out.wpStore1K i 9 (.string (str (X.set a y))) me_info_str HLEN.out (me_str_cells _) (me_str_one _) ?_ ?_); rfl; intro y2 r2 o2 s2; have RW5 : Hid (Row y2 g 9 (strs (tuF n L (ts.take (k + 1))) ++ z)) := Lib.hid (by rw [HSTEP.out, ← HSETM.out]; exact r2); have SM5 : Hid (SeenG KM y2 B 0 (fun _ => false)) := Lib.hid (SM4.out.keepM (o2.2.2.2.2 B SM4.out.lt HGB.out.symm)); have BF5 : Hid (Below w.heap.size w y2) := Lib.hid (BF4.out.trans (o2.below HGE.out BF4.out.size)); clear r2 o2 s2)
          go_roundw
          case rel => exact ⟨k + 1, by omega, by go_num, RW5.out, SM5.out, BF5.out⟩
          case measure => simp [intOf]; omega
        | true =>
          rw [HTS2.out] at HSTEP
          clear hcv
          go_wp2_with (first
            | (go_at_call 13; (with_reducible refine (HRP.out y1).mono ?_); rintro e y2 ⟨rfl, b2⟩; obtain ⟨y3, cap3, hconv3, hby3, hbc3⟩ := conv_new BL y2; obtain ⟨g3, hg3⟩ : ∃ q, y2.heap.size = q := ⟨_, rfl⟩; rw [hg3] at hconv3 hby3; have RW5 := Lib.hid ((RW4.out.step b2).step hbc3); have SM5 := Lib.hid ((SM4.out.below b2).below hbc3); have K5 := Lib.hid ((K4.out.step b2).step hbc3); have BF5 : Hid (Below w.heap.size w y3) := Lib.hid ((BF4.out.next b2).next hbc3); have q0 : y3.cell? ⟨wr.heap.size, 0, none⟩ = some (.int .i64 (i : Int)) := K5.out.cell 0; have hcv3 := hby3.conv (cap := cap3) HBL.out; rw [HBS.out] at hcv3; clear b2 hby3 hbc3 hg3)
            | ((with_reducible refine RW5.out.wpStore1K i 9 (.string BL) me_info_str HLEN.out (me_str_cells _) (me_str_one _) ?_ ?_); rfl; intro y4 r2 o2 s2; have RW6 : Hid (Row y4 g 9 (strs (tuF n L (ts.take (k + 1))) ++ z)) := Lib.hid (by rw [HSTEP.out, ← HSETM.out]; exact r2); have SM6 : Hid (SeenG KM y4 B 0 (fun _ => false)) := Lib.hid (SM5.out.keepM (o2.2.2.2.2 B SM5.out.lt HGB.out.symm)); have BF6 : Hid (Below w.heap.size w y4) := Lib.hid (BF5.out.trans (o2.below HGE.out BF5.out.size)); clear r2 o2 s2))
          go_roundw
          case rel => exact ⟨k + 1, by omega, by go_num, RW6.out, SM6.out, BF6.out⟩
          case measure => simp [intOf]; omega
      · have HSTEP : Hid (tuF n L (ts.take (k + 1)) = M) := Lib.hid (by rw [HNXK.out]; unfold tuStep; rw [if_neg hok])
        have hcase : sec < 0 ∨ (¬ sec < 0 ∧ (n : Int) ≤ sec) ∨ (¬ sec < 0 ∧ ¬ (n : Int) ≤ sec ∧ a_ < 0) ∨ (¬ sec < 0 ∧ ¬ (n : Int) ≤ sec ∧ ¬ a_ < 0 ∧ (63 : Int) < a_) := by
          by_cases c1 : sec < 0
          · exact .inl c1
          by_cases c2 : (n : Int) ≤ sec
          · exact .inr (.inl ⟨c1, c2⟩)
          by_cases c3 : a_ < 0
          · exact .inr (.inr (.inl ⟨c1, c2, c3⟩))
          refine .inr (.inr (.inr ⟨c1, c2, c3, ?_⟩))
          refine Classical.byContradiction fun c4 => hok ⟨by show 0 ≤ sec; omega, by show sec < (n : Int); omega, by show 0 ≤ a_; omega, by show a_ ≤ 63; omega⟩
        clear hok
        rcases hcase with c1 | ⟨c1, c2⟩ | ⟨c1, c2, c3⟩ | ⟨c1, c2, c3, c4⟩
        · have d1 : decide (sec < 0) = true := decide_eq_true c1
          go_wp2_with (first
            | ((with_reducible refine wpLoadRK HRG2.out 66 fits_tu rfl ?_ ?_); rfl)
            | ((with_reducible refine wpAllocK (w := wr) [.int .i64 0, .int .i64 0, .int .u8 0, .bool false] 66 zero_tu ?_ ?_); rfl; intro x1 r1 b1 s1; have R1 := Lib.hid r1; have BB1 := Lib.hid b1; clear r1 b1 s1)
            | ((with_reducible refine R1.out.wpStoreK 66 [.int .i64 sec, .int .i64 a_, .int .u8 (by_.toNat : Int), .bool al] fits_tu rfl rfl rfl ?_ ?_); rfl; intro x2 r2 o2 s2; have BB2 : Hid (Below wr.heap.size wr x2) := Lib.hid (BB1.out.trans (o2.below (Nat.le_refl _) BB1.out.size)); have RW2 : Hid (Row x2 g 9 (strs (tuF n L (ts.take (k + 1))) ++ z)) := Lib.hid (by rw [HSTEP.out]; exact RW.out.step BB2.out); have SM2 := Lib.hid (SM.out.below BB2.out); have BF2 := Lib.hid (HBW.out.next BB2.out); have k0 : x2.cell? ⟨wr.heap.size, 0, none⟩ = some (.int .i64 sec) := r2.cell 0; have k1 : x2.cell? ⟨wr.heap.size, 1, none⟩ = some (.int .i64 a_) := r2.cell 1; clear r2 o2 s2))
          go_roundw
          case rel => exact ⟨k + 1, by omega, by go_num, RW2.out, SM2.out, BF2.out⟩
          case measure => simp [intOf]; omega
        · have d1 : decide (sec < 0) = false := decide_eq_false c1
          have d2 : decide ((n : Int) ≤ sec) = true := decide_eq_true c2
          go_wp2_with (first
            | ((with_reducible refine wpLoadRK HRG2.out 66 fits_tu rfl ?_ ?_); rfl)
            | ((with_reducible refine wpAllocK (w := wr) [.int .i64 0, .int .i64 0, .int .u8 0, .bool false] 66 zero_tu ?_ ?_); rfl; intro x1 r1 b1 s1; have R1 := Lib.hid r1; have BB1 := Lib.hid b1; clear r1 b1 s1)
            | ((with_reducible refine R1.out.wpStoreK 66 [.int .i64 sec, .int .i64 a_, .int .u8 (by_.toNat : Int), .bool al] fits_tu rfl rfl rfl ?_ ?_); rfl; intro x2 r2 o2 s2; have BB2 : Hid (Below wr.heap.size wr x2) := Lib.hid (BB1.out.trans (o2.below (Nat.le_refl _) BB1.out.size)); have RW2 : Hid (Row x2 g 9 (strs (tuF n L (ts.take (k + 1))) ++ z)) := Lib.hid (by rw [HSTEP.out]; exact RW.out.step BB2.out); have SM2 := Lib.hid (SM.out.below BB2.out); have BF2 := Lib.hid (HBW.out.next BB2.out); have k0 : x2.cell? ⟨wr.heap.size, 0, none⟩ = some (.int .i64 sec) := r2.cell 0; have k1 : x2.cell? ⟨wr.heap.size, 1, none⟩ = some (.int .i64 a_) := r2.cell 1; clear r2 o2 s2))
          go_roundw
          case rel => exact ⟨k + 1, by omega, by go_num, RW2.out, SM2.out, BF2.out⟩
          case measure => simp [intOf]; omega
        · have d1 : decide (sec < 0) = false := decide_eq_false c1
          have d2 : decide ((n : Int) ≤ sec) = false := decide_eq_false c2
          have d3 : decide (a_ < 0) = true := decide_eq_true c3
          go_wp2_with (first
            | ((with_reducible refine wpLoadRK HRG2.out 66 fits_tu rfl ?_ ?_); rfl)
            | ((with_reducible refine wpAllocK (w := wr) [.int .i64 0, .int .i64 0, .int .u8 0, .bool false] 66 zero_tu ?_ ?_); rfl; intro x1 r1 b1 s1; have R1 := Lib.hid r1; have BB1 := Lib.hid b1; clear r1 b1 s1)
            | ((with_reducible refine R1.out.wpStoreK 66 [.int .i64 sec, .int .i64 a_, .int .u8 (by_.toNat : Int), .bool al] fits_tu rfl rfl rfl ?_ ?_); rfl; intro x2 r2 o2 s2; have BB2 : Hid (Below wr.heap.size wr x2) := Lib.hid (BB1.out.trans (o2.below (Nat.le_refl _) BB1.out.size)); have RW2 : Hid (Row x2 g 9 (strs (tuF n L (ts.take (k + 1))) ++ z)) := Lib.hid (by rw [HSTEP.out]; exact RW.out.step BB2.out); have SM2 := Lib.hid (SM.out.below BB2.out); have BF2 := Lib.hid (HBW.out.next BB2.out); have k0 : x2.cell? ⟨wr.heap.size, 0, none⟩ = some (.int .i64 sec) := r2.cell 0; have k1 : x2.cell? ⟨wr.heap.size, 1, none⟩ = some (.int .i64 a_) := r2.cell 1; clear r2 o2 s2))
          go_roundw
          case rel => exact ⟨k + 1, by omega, by go_num, RW2.out, SM2.out, BF2.out⟩
          case measure => simp [intOf]; omega
        · have d1 : decide (sec < 0) = false := decide_eq_false c1
          have d2 : decide ((n : Int) ≤ sec) = false := decide_eq_false c2
          have d3 : decide (a_ < 0) = false := decide_eq_false c3
          have d4 : decide ((63 : Int) < a_) = true := decide_eq_true c4
          go_wp2_with (first
            | ((with_reducible refine wpLoadRK HRG2.out 66 fits_tu rfl ?_ ?_); rfl)
            | ((with_reducible refine wpAllocK (w := wr) [.int .i64 0, .int .i64 0, .int .u8 0, .bool false] 66 zero_tu ?_ ?_); rfl; intro x1 r1 b1 s1; have R1 := Lib.hid r1; have BB1 := Lib.hid b1; clear r1 b1 s1)
            | ((with_reducible refine R1.out.wpStoreK 66 [.int .i64 sec, .int .i64 a_, .int .u8 (by_.toNat : Int), .bool al] fits_tu rfl rfl rfl ?_ ?_); rfl; intro x2 r2 o2 s2; have BB2 : Hid (Below wr.heap.size wr x2) := Lib.hid (BB1.out.trans (o2.below (Nat.le_refl _) BB1.out.size)); have RW2 : Hid (Row x2 g 9 (strs (tuF n L (ts.take (k + 1))) ++ z)) := Lib.hid (by rw [HSTEP.out]; exact RW.out.step BB2.out); have SM2 := Lib.hid (SM.out.below BB2.out); have BF2 := Lib.hid (HBW.out.next BB2.out); have k0 : x2.cell? ⟨wr.heap.size, 0, none⟩ = some (.int .i64 sec) := r2.cell 0; have k1 : x2.cell? ⟨wr.heap.size, 1, none⟩ = some (.int .i64 a_) := r2.cell 1; clear r2 o2 s2))
          go_roundw
          case rel => exact ⟨k + 1, by omega, by go_num, RW2.out, SM2.out, BF2.out⟩
          case measure => simp [intOf]; omega
    · have hke : k = nt := by omega
      have hk1 : ¬ (k : Int) < (nt : Int) := by omega
      rw [hke, HEND.out] at RW
      have HSE : Hid (Sx n (tuF n L ts)) := Lib.hid HSX.out.all
      obtain ⟨M, hM⟩ : ∃ M, tuF n L ts = M := ⟨_, rfl⟩
      rw [hM] at RW HSE
      have HMM := Lib.hid hM
      clear hM
      have HGL : Hid (∀ i, i < n → (∀ u, Row u g 9 (strs M ++ z) → u.cell? ⟨g, i, none⟩ = some (.string (M.getD i ByteArray.empty)))) := Lib.hid fun i hi u h => by rw [h.cell, me_get HSE.out hi]
      have HGS : Hid (∀ i, i < n → (∀ u, Below w.heap.size w u → u.cell? ⟨gs, i, none⟩ = some (.string (L.getD i ByteArray.empty)))) := Lib.hid fun i hi u h => by
        rw [(HR.out.step h).cell]
        have := me_get (z := []) HSX.out hi
        rwa [List.append_nil] at this
      have SM9 : Hid (SeenG KM wr B (neN L M 0) (neK L M 0)) := Lib.hid (SM.out.congr rfl fun i _ => (neK_zero L M i).symm)
      clear HT HTS HNX HSXK HEND HRP HBL HBS HBLX hke hk hlt SM
      go_wp2
      go_loopw [70] (fun i w2 => ∃ k : Nat, k ≤ n ∧ i = .int .i64 k ∧ Row w2 g 9 (strs M ++ z) ∧ SeenG KM w2 B (neN L M k) (neK L M k) ∧ Below w.heap.size w w2) (fun i _ => n - (intOf i).toNat)
      case atStart => exact ⟨0, Nat.zero_le _, rfl, RW.out, SM9.out, HBW.out⟩
      case round =>
        clear RW SM9 HBW
        obtain ⟨k, hk, rfl, hrw, hsm, hbw⟩ := hrel
        have RW := Lib.hid hrw
        have SM := Lib.hid hsm
        have HBW := Lib.hid hbw
        clear hrw hsm hbw
        by_cases hlt : k < n
        · have hk1 : (k : Int) < (n : Int) := by omega
          have c1 := HGL.out k hlt wr RW.out
          have c2 := HGS.out k hlt wr HBW.out
          have HNS := Lib.hid (neN_succ L M k)
          have HKS := Lib.hid (neK_succ L M k)
          have HOK : Hid (KM.ok (k : Int)) := Lib.hid (KM_ok k (by have := HSX.out.1; omega))
          have HNW : Hid (neK L M k (k : Int) = false) := Lib.hid (by unfold neK; rw [decide_eq_false (by omega)]; rfl)
          have HC1 : Hid (neN L M k < 100000) := Lib.hid (by have := neN_le L M k; omega)
          by_cases heq : M.getD k ByteArray.empty = L.getD k ByteArray.empty
          · have HFE : Hid (neS L M k = false) := Lib.hid (by unfold neS; exact decide_eq_false (fun h => h heq))
            have hbe : ((M.getD k ByteArray.empty).toList == (L.getD k ByteArray.empty).toList) = true := beq_yes heq
            clear heq
            generalize M.getD k ByteArray.empty = T1 at *
            generalize L.getD k ByteArray.empty = T2 at *
            go_wp2
            go_quiet (fail)
            go_wp2
            go_roundw
            case rel => exact ⟨k + 1, by omega, by go_num, RW.out.drewN nq, (SM.out.below ((Below.refl _ _).drewN nq)).congr (by rw [HNS.out, HFE.out]; rfl) (fun i _ => by rw [HKS.out, HFE.out]; rfl), HBW.out.drewN nq⟩
            case measure => simp [intOf]; omega
          · have HFE : Hid (neS L M k = true) := Lib.hid (by unfold neS; exact decide_eq_true heq)
            have hbe : ((M.getD k ByteArray.empty).toList == (L.getD k ByteArray.empty).toList) = false := beq_no heq
            clear heq
            generalize M.getD k ByteArray.empty = T1 at *
            generalize L.getD k ByteArray.empty = T2 at *
            go_wp2
            go_quiet (fail)
            have RW2 := Lib.hid (RW.out.drewN nq)
            have SM2 := Lib.hid (SM.out.below ((Below.refl _ _).drewN nq))
            have HB2 := Lib.hid (HBW.out.drewN nq)
            generalize wr.drewN nq = wq at *
            go_wp2_with (at_mapUpdate; refine SM2.out.wpPut HOK.out HNW.out HC1.out rfl _ _ _ rfl rfl rfl rfl ?_; intro w6 s6 g6; have SM6 := Lib.hid s6; have RW6 := Lib.hid (me_row_grown RW2.out g6 HGB.out); have HB6 := Lib.hid (HB2.out.grown g6 HB2.out.size (fun j hj => by cases hj; exact HWB.out)); clear s6 g6)
            go_roundw
            case rel => exact ⟨k + 1, by omega, by go_num, RW6.out, SM6.out.congr (by rw [HNS.out, HFE.out]; rfl) (fun i _ => by rw [HKS.out, HFE.out]; rfl), HB6.out⟩
            case measure => simp [intOf]; omega
        · have hke : k = n := by omega
          have hk1 : ¬ (k : Int) < (n : Int) := by omega
          rw [hke] at SM
          clear hke
          go_wp2
          go_ret2
          exact ⟨⟨g, c2, B, rfl, ⟨z, by rw [HMM.out]; exact RW.out⟩, by rw [HMM.out]; exact SM.out⟩, HBW.out⟩
end Go.Proofs.YtlcmnpbbfnfcmaaGreat
