/- ShaMacs (gen_sha_macs.py). -/
import Derived.Test.YtmphjmbnfaimiaaDoorShaMR
import Derived.Test.YtmphjmbnfaimiaaDoorShaR
import Derived.Test.YtmphjmbnfaimiaaDoorOpen
namespace Go.Proofs.YtmphjmbnfaimiaaDoor
open Go.RowKit ShaMath
set_option linter.unusedVariables false
set_option maxRecDepth 100000

theorem sx_reads_two {w : World} {cs : List Value} {x : List (List Int)} (h : Open.Reads w (.arr 2 (.arr 32 (.int .u8))) cs x) : ∃ A B : List UInt8, A.length = 32 ∧ B.length = 32 ∧ cs = bytes A ++ bytes B := by
  obtain ⟨h1, h2, h3⟩ := h
  have h1' : x.length = 2 := h1
  have h2' : cs.length = 64 := h2
  obtain ⟨A, hA, eA⟩ := reads_bytes (h3 0 (by omega))
  obtain ⟨B, hB, eB⟩ := reads_bytes (h3 1 (by omega))
  have eA' : (cs.drop 0).take 32 = bytes A := eA
  have eB' : (cs.drop 32).take 32 = bytes B := eB
  refine ⟨A, B, hA, hB, ?_⟩
  rw [← eA', ← eB', List.drop_zero, List.take_of_length_le (l := cs.drop 32) (by rw [List.length_drop]; omega), List.take_append_drop]
theorem sx_mac_lst (key J : ByteArray) (M : List UInt8) (v : Value) (w : World) (hM : mac key.data.toList J.data.toList = M) (hg : Glob w) (hk : key.size ≤ 300) (hJ : J.size ≤ 3000) (hv : Lst [.string J] v w) :
    Calls Tryd.prog 16 #[.string key, v] w fun e w' => e = .returned (.agg (bytes M).toArray) ∧ Below w.heap.size w w' := by
  obtain ⟨g, n, rfl, hn, hl⟩ := hv
  obtain rfl : 1 = n := hn
  have h := mac_any key (some ⟨g, 0, none⟩) 1 [J] w hg (by omega) (by show 1 ≤ _; omega) (by rw [cat_one, size_list]; omega) hl
  rw [cat_one, hM] at h
  exact h
theorem sx_eq_hash (D E : List UInt8) (hD : D.length = 32) (hE : E.length = 32) (r : Bool) (h : decide (D = E) = r) (u : World) : (Op.equalIn 10000 31 (.agg (bytes D).toArray) (.agg (bytes E).toArray)).run Tryd.prog u = .ok r u := by rw [eq_hash D E hD hE u, h]

set_option maxHeartbeats 4000000 in
theorem shaMacs_walk (key : ByteArray) (a0 : Option Addr) (cap0 : Nat) (l : List ByteArray) (P R : List UInt8) (w : World) (hg : Glob w) (hkb : key.size ≤ 140737488351232) (hla : l.length ≤ 140737488351232) (hsa : ∀ s ∈ l, s.size ≤ 140737488351232) (hra : Lies w w.heap.size a0 (strs l)) (hP : P.length = 32) (hR : R.length = 32) :
    Calls Tryd.prog 4 #[.string key, .slice a0 l.length cap0, .agg (bytes P ++ bytes R).toArray] w fun e w' => e = .returned (.bool true) ∧ Below w.heap.size w w' := by
  have HG := Lib.hid hg
  have hw2 := hg.size
  have HL1 : Hid (∀ u, Below w.heap.size w u → Calls Tryd.prog 6 #[.slice a0 l.length cap0] u fun e u' => e = .returned (.bool (longB l)) ∧ u = u') := Lib.hid fun u h => long_any a0 cap0 l u hla hsa ((hra.below h).mono h.size)
  by_cases hA : longB l = true
  · rw [hA] at HL1
    clear hA hg hla hsa hra
    generalize bytes P ++ bytes R = PR
    go_enter Tryd.func4, Tryd.ntmps4
    go_wp2_with (first
      | ((with_reducible refine wpBoxK (w := w) PR 39 ?_ ?_); rfl; intro u0 r0 b0 s0; have X0 := Lib.hid r0; have B0 := Lib.hid b0; clear r0 b0 s0)
      | (go_at_call 5; (with_reducible refine (sha_awake_any u0 (HG.out.step2 B0.out)).mono ?_); rintro e u1 ⟨rfl, b1⟩; have X1 := Lib.hid (X0.out.step b1); have B1 : Hid (Below w.heap.size w u1) := Lib.hid (B0.out.next b1); clear b1)
      | (go_at_call 6; (with_reducible refine (HL1.out _ B1.out).mono ?_); rintro e u2 ⟨rfl, rfl⟩))
    go_ret
    exact ⟨rfl, B1.out⟩
  have hA2 : longB l = false := by simpa using hA
  rw [hA2] at HL1
  by_cases hbig : 300 < key.size
  · have hki : 300 < (key.size : Int) := by omega
    have hkd : decide (300 < (key.size : Int)) = true := by simpa using hki
    clear hA hA2 hg hla hsa hra hbig
    generalize bytes P ++ bytes R = PR
    go_enter Tryd.func4, Tryd.ntmps4
    go_wp2_with (first
      | ((with_reducible refine wpBoxK (w := w) PR 39 ?_ ?_); rfl; intro u0 r0 b0 s0; have X0 := Lib.hid r0; have B0 := Lib.hid b0; clear r0 b0 s0)
      | (go_at_call 5; (with_reducible refine (sha_awake_any u0 (HG.out.step2 B0.out)).mono ?_); rintro e u1 ⟨rfl, b1⟩; have X1 := Lib.hid (X0.out.step b1); have B1 : Hid (Below w.heap.size w u1) := Lib.hid (B0.out.next b1); clear b1)
      | (go_at_call 6; (with_reducible refine (HL1.out _ B1.out).mono ?_); rintro e u2 ⟨rfl, rfl⟩))
    go_ret
    exact ⟨rfl, B1.out⟩
  have hki : (key.size : Int) ≤ 300 := by omega
  have hkd : decide (300 < (key.size : Int)) = false := by simpa using hki
  obtain ⟨cl, nl⟩ := long_no hA2
  obtain ⟨J, hJ⟩ : ∃ J, str (cat l) = J := ⟨_, rfl⟩
  have hJL : J.data.toList = cat l := by rw [← hJ, str_list]
  have hJz : J.size ≤ 3000 := by rw [← hJ, str_size]; exact cl
  obtain ⟨M, hM⟩ : ∃ D, mac key.data.toList (cat l) = D := ⟨_, rfl⟩
  have lM : M.length = 32 := by rw [← hM, mac, sha_length]
  have HJ1 : Hid (∀ u, Below w.heap.size w u → Calls Tryd.prog 8 #[.slice a0 l.length cap0] u fun e u' => e = .returned (.string J) ∧ u = u') := Lib.hid fun u h => by rw [← hJ]; exact refJoined_any a0 cap0 l u (by omega) (by omega) hsa ((hra.below h).mono h.size)
  have HM1 : Hid (∀ u, Glob u → Below w.heap.size w u → Calls Tryd.prog 16 #[.string key, .slice a0 l.length cap0] u fun e u' => e = .returned (.agg (bytes M).toArray) ∧ Below u.heap.size u u') := Lib.hid fun u g h => by rw [← hM]; exact mac_any key a0 cap0 l u g (by omega) (by omega) (by omega) ((hra.below h).mono h.size)
  have HM2 : Hid (∀ u v, Glob u → Lst [.string J] v u → Calls Tryd.prog 16 #[.string key, v] u fun e u' => e = .returned (.agg (bytes M).toArray) ∧ Below u.heap.size u u') := Lib.hid fun u v g h => sx_mac_lst key J M v u (by rw [hJL, hM]) g (by omega) hJz h
  have HRM : Hid (∀ u x y, Wds u (.agg #[x, y]) → Calls Tryd.prog 17 #[.agg #[x, y], .string key, .string J] u fun e u' => e = .returned (.agg (bytes M).toArray) ∧ Below u.heap.size u u') := Lib.hid fun u x y h => refMac_any x y key J M u (by rw [hJL, hM]) h (by omega) hJz
  obtain ⟨r, hr⟩ : ∃ r, decide (P = R) = r := ⟨_, rfl⟩
  have HE1 : Hid (∀ u, Calls Tryd.prog 18 #[.agg (bytes P).toArray, .agg (bytes R).toArray] u fun e u' => e = .returned (.bool r) ∧ Below u.heap.size u u') := Lib.hid fun u => by rw [← hr]; exact equal_any P R u hP hR
  have HE2 : Hid (∀ u, Calls Tryd.prog 18 #[.agg (bytes M).toArray, .agg (bytes M).toArray] u fun e u' => e = .returned (.bool true) ∧ Below u.heap.size u u') := Lib.hid fun u => (equal_any M M u lM lM).mono fun e u' h => ⟨by rw [h.1]; simp, h.2⟩
  have HEM := Lib.hid (same_hash M lM)
  have HEP := Lib.hid (sx_eq_hash P R hP hR r hr)
  have LO : Hid ((bytes (List.replicate 32 0)).length = 32) := Lib.hid (by rw [bytes_length]; simp)
  have LM : Hid ((bytes M).length = 32) := Lib.hid (by rw [bytes_length, lM])
  have LM1 : Hid ((bytes M).all (·.oneCell') = true) := Lib.hid (bytes_one _)
  have LP : Hid ((bytes P).length = 32) := Lib.hid (by rw [bytes_length, hP])
  have LR : Hid ((bytes R).length = 32) := Lib.hid (by rw [bytes_length, hR])
  obtain ⟨PR, hPR⟩ : ∃ X, bytes P ++ bytes R = X := ⟨_, rfl⟩
  have HPR := Lib.hid hPR
  rw [hPR]
  have hJi : (J.size : Int) ≤ 3000 := by omega
  clear hA hA2 hg hla hsa hra hJ hJL hM lM cl hJz hbig hr hP hR hPR
  go_enter Tryd.func4, Tryd.ntmps4
  go_wp2_with (first
    | ((with_reducible refine wpBoxK (w := w) PR 39 ?_ ?_); rfl; intro u0 r0 b0 s0; have X0 := Lib.hid r0; have B0 := Lib.hid b0; clear r0 b0 s0)
    | (go_at_call 5; (with_reducible refine (sha_awake_any u0 (HG.out.step2 B0.out)).mono ?_); rintro e u1 ⟨rfl, b1⟩; have X1 := Lib.hid (X0.out.step b1); have B1 : Hid (Below w.heap.size w u1) := Lib.hid (B0.out.next b1); clear b1)
    | (go_at_call 6; (with_reducible refine (HL1.out _ B1.out).mono ?_); rintro e u2 ⟨rfl, rfl⟩)
    | (go_at_call 7; (with_reducible refine (refNew_any u1).mono ?_); rintro e u2 ⟨cv, rfl, hcv, b2⟩; obtain ⟨ap, ac, bp, bc, rfl, wa, wb⟩ := hcv; have W2 : Hid (Wds u2 (.agg #[.slice ap 8 ac, .slice bp 64 bc])) := Lib.hid ⟨ap, ac, bp, bc, rfl, wa, wb⟩; have X2 := Lib.hid (X1.out.step b2); have B2 : Hid (Below w.heap.size w u2) := Lib.hid (B1.out.next b2); clear b2 wa wb)
    | ((with_reducible refine wpAllocK (w := u2) [.slice none 0 0, .slice none 0 0] 27 sx_zero_words ?_ ?_); rfl; intro u3 r3 b3 s3; have C3 := Lib.hid r3; have B23 := Lib.hid b3; clear r3 b3 s3)
    | ((with_reducible refine C3.out.wpStoreK 27 [.slice ap 8 ac, .slice bp 64 bc] sx_fits_words rfl rfl rfl ?_ ?_); rfl; intro u4 r4 o4 s4; have C4 := Lib.hid r4; have q4 : Below u2.heap.size u2 u4 := B23.out.trans (o4.below (Nat.le_refl _) B23.out.size); have W4 := Lib.hid (sx_wds_step W2.out q4); have X4 := Lib.hid (X2.out.step q4); have B4 : Hid (Below w.heap.size w u4) := Lib.hid (B2.out.next q4); clear r4 o4 s4 q4)
    | (go_at_call 8; (with_reducible refine (HJ1.out _ B4.out).mono ?_); rintro e uu ⟨rfl, rfl⟩)
    | (go_at_call 16; (with_reducible refine (HM1.out u4 (HG.out.step2 B4.out) B4.out).mono ?_); rintro e u5 ⟨rfl, b5⟩; have C5 := Lib.hid (C4.out.step b5); have W5 := Lib.hid (sx_wds_step W4.out b5); have X5 := Lib.hid (X4.out.step b5); have B5 : Hid (Below w.heap.size w u5) := Lib.hid (B4.out.next b5); clear b5)
    | ((with_reducible refine wpAllocK (w := u5) (bytes (List.replicate 32 0)) 31 zero32 ?_ ?_); rfl; intro u6 r6 b6 s6; have K6 := Lib.hid r6; have B56 := Lib.hid b6; clear r6 b6 s6)
    | ((with_reducible refine K6.out.wpStoreK 31 (bytes M) fits_hash LO.out LM.out LM1.out ?_ ?_); rfl; intro u7 r7 o7 s7; have K7 := Lib.hid r7; have q7 : Below u5.heap.size u5 u7 := B56.out.trans (o7.below (Nat.le_refl _) B56.out.size); have C7 := Lib.hid (C5.out.step q7); have W7 := Lib.hid (sx_wds_step W5.out q7); have X7 := Lib.hid (X5.out.step q7); have B7 : Hid (Below w.heap.size w u7) := Lib.hid (B5.out.next q7); clear r7 o7 s7 q7))
  have XA : Hid (Row u7 w.heap.size 39 ([] ++ bytes P ++ bytes R)) := Lib.hid (by rw [List.nil_append, HPR.out]; exact X7.out)
  have XB : Hid (Row u7 w.heap.size 39 (bytes P ++ bytes R ++ [])) := Lib.hid (by rw [List.append_nil, HPR.out]; exact X7.out)
  clear hkd
  refine region_invX [(0, 25), (1, 26), (2, 27), (3, 28), (4, 29), (5, 30), (6, 31), (7, 32), (8, 33), (9, 34), (10, 35), (11, 36), (12, 37), (13, 38), (14, 39), (15, 40), (16, 41), (17, 42), (18, 43), (19, 44), (20, 45), (21, 46), (22, 47), (23, 48), (24, 49), (25, 50), (26, 51), (27, 52), (28, 53), (29, 54), (30, 55), (31, 56), (32, 6)]
    (fun ii => [Is (.agg (bytes M).toArray), Is (.agg ([Value.slice ap 8 ac, .slice bp 64 bc]).toArray), Is (.string key), Is (.string J), Is (.agg (bytes M).toArray), Is (.bool true), Is (.bool true), Is (.agg (bytes M).toArray), Is (.string key), Is (.string J), Lst [.string J], Is (.agg (bytes M).toArray), Is (.bool true), Is (.bool true), Is (.bool true), Is (.pointer (some ⟨w.heap.size, 0, none⟩)), Is (.agg (bytes P).toArray), Is (.pointer (some ⟨w.heap.size, 32, none⟩)), Is (.agg (bytes R).toArray), Is (.bool r), Is (.pointer (some ⟨w.heap.size, 0, none⟩)), Is (.agg (bytes P).toArray), Is (.pointer (some ⟨w.heap.size, 32, none⟩)), Is (.agg (bytes R).toArray), Is (.bool r), Is (.bool true), Is (.bool true), Is (.bool true), Is (.agg (bytes M).toArray), Is (.agg (bytes M).toArray), Is (.bool true), Is (.bool true), Is (.bool true)].getD ii (Is undef))
    (fun w' => Below u7.heap.size u7 w') (by kernel_rfl) (by kernel_rfl) (by decide) (by decide) (by kernel_rfl) rfl ?monoA ((Below.refl _ _).drew) ?stepA ?finA
  case monoA =>
    intro i
    match i with
    | 0 | 1 | 2 | 3 | 4 | 5 | 6 | 7 | 8 | 9 | 11 | 12 | 13 | 14 | 15 | 16 | 17 | 18 | 19 | 20 | 21 | 22 | 23 | 24 | 25 | 26 | 27 | 28 | 29 | 30 | 31 | 32 => exact Is.monot _
    | 10 => exact Lst.monot _
    | _ + 33 => exact Is.monot _
  case stepA =>
    refine List.forall_mem_cons.2 ⟨?As0, List.forall_mem_cons.2 ⟨?As1, List.forall_mem_cons.2 ⟨?As2, List.forall_mem_cons.2 ⟨?As3, List.forall_mem_cons.2 ⟨?As4, List.forall_mem_cons.2 ⟨?As5, List.forall_mem_cons.2 ⟨?As6, List.forall_mem_cons.2 ⟨?As7, List.forall_mem_cons.2 ⟨?As8, List.forall_mem_cons.2 ⟨?As9, List.forall_mem_cons.2 ⟨?As10, List.forall_mem_cons.2 ⟨?As11, List.forall_mem_cons.2 ⟨?As12, List.forall_mem_cons.2 ⟨?As13, List.forall_mem_cons.2 ⟨?As14, List.forall_mem_cons.2 ⟨?As15, List.forall_mem_cons.2 ⟨?As16, List.forall_mem_cons.2 ⟨?As17, List.forall_mem_cons.2 ⟨?As18, List.forall_mem_cons.2 ⟨?As19, List.forall_mem_cons.2 ⟨?As20, List.forall_mem_cons.2 ⟨?As21, List.forall_mem_cons.2 ⟨?As22, List.forall_mem_cons.2 ⟨?As23, List.forall_mem_cons.2 ⟨?As24, List.forall_mem_cons.2 ⟨?As25, List.forall_mem_cons.2 ⟨?As26, List.forall_mem_cons.2 ⟨?As27, List.forall_mem_cons.2 ⟨?As28, List.forall_mem_cons.2 ⟨?As29, List.forall_mem_cons.2 ⟨?As30, List.forall_mem_cons.2 ⟨?As31, List.forall_mem_cons.2 ⟨?As32, List.forall_mem_nil _⟩⟩⟩⟩⟩⟩⟩⟩⟩⟩⟩⟩⟩⟩⟩⟩⟩⟩⟩⟩⟩⟩⟩⟩⟩⟩⟩⟩⟩⟩⟩⟩⟩
    case As0 =>
      intro u wx hg hC
      clear hC
      generalize hA : puts [(0, 25), (1, 26), (2, 27), (3, 28), (4, 29), (5, 30), (6, 31), (7, 32), (8, 33), (9, 34), (10, 35), (11, 36), (12, 37), (13, 38), (14, 39), (15, 40), (16, 41), (17, 42), (18, 43), (19, 44), (20, 45), (21, 46), (22, 47), (23, 48), (24, 49), (25, 50), (26, 51), (27, 52), (28, 53), (29, 54), (30, 55), (31, 56), (32, 6)] _ u = A
      have hp : A.tmps.getD 9 undef = (.pointer (some ⟨u5.heap.size, 0, none⟩)) := by rw [← hA]; exact (puts_get_out u _ _ 9 (by decide)).trans (by rfl)
      have hsz : 25 < A.tmps.size := by rw [← hA]; exact puts_room u (by kernel_rfl)
      refine wpOp_step rfl (fun K hK => ?_)
      clear hA
      exact opLoadK (φ := Is (.agg (bytes M).toArray)) (K7.out.step hg) _ (fits_hash) (LM.out) 25 rfl hsz hK (.tmp 9) rfl hp rfl hg
    case As1 =>
      intro u wx hg hC
      clear hC
      generalize hA : puts [(0, 25), (1, 26), (2, 27), (3, 28), (4, 29), (5, 30), (6, 31), (7, 32), (8, 33), (9, 34), (10, 35), (11, 36), (12, 37), (13, 38), (14, 39), (15, 40), (16, 41), (17, 42), (18, 43), (19, 44), (20, 45), (21, 46), (22, 47), (23, 48), (24, 49), (25, 50), (26, 51), (27, 52), (28, 53), (29, 54), (30, 55), (31, 56), (32, 6)] _ u = A
      have hp : A.tmps.getD 7 undef = (.pointer (some ⟨u2.heap.size, 0, none⟩)) := by rw [← hA]; exact (puts_get_out u _ _ 7 (by decide)).trans (by rfl)
      have hsz : 26 < A.tmps.size := by rw [← hA]; exact puts_room u (by kernel_rfl)
      refine wpOp_step rfl (fun K hK => ?_)
      clear hA
      exact opLoadK (φ := Is (.agg ([Value.slice ap 8 ac, .slice bp 64 bc]).toArray)) (C7.out.step hg) _ (sx_fits_words) (rfl) 26 rfl hsz hK (.tmp 7) rfl hp rfl hg
    case As2 =>
      intro u wx hg hC
      clear hC
      refine wpOp_step rfl (fun K hK => ?_)
      simp only [puts, List.foldl]
      go_simp
      exact hK _ _ ⟨rfl, rfl, hg, Below.refl _ _⟩
    case As3 =>
      intro u wx hg hC
      clear hC
      refine wpOp_step rfl (fun K hK => ?_)
      simp only [puts, List.foldl]
      go_simp
      exact hK _ _ ⟨rfl, rfl, hg, Below.refl _ _⟩
    case As4 =>
      intro u wx hg hC
      have hJ1 : u 1 = (.agg ([Value.slice ap 8 ac, .slice bp 64 bc]).toArray) := hC.at 1 (by kernel_rfl)
      have hJ2 : u 2 = (.string key) := hC.at 2 (by kernel_rfl)
      have hJ3 : u 3 = (.string J) := hC.at 3 (by kernel_rfl)
      clear hC
      refine wpOp_step rfl (fun K hK => ?_)
      simp only [puts, List.foldl]
      go_simp
      refine (HRM.out wx _ _ (sx_wds_step W7.out hg)).mono ?_
      rintro e w' ⟨rfl, hb'⟩
      exact hK _ _ ⟨rfl, rfl, hg.next hb', hb'⟩
    case As5 =>
      intro u wx hg hC
      have hJ0 : u 0 = (.agg (bytes M).toArray) := hC.at 0 (by kernel_rfl)
      have hJ4 : u 4 = (.agg (bytes M).toArray) := hC.at 4 (by kernel_rfl)
      clear hC
      have heq := HEM.out
      refine wpOp_step rfl (fun K hK => ?_)
      simp only [puts, List.foldl]
      go_simp
      exact hK _ _ ⟨rfl, rfl, hg, Below.refl _ _⟩
    case As6 =>
      intro u wx hg hC
      have hJ5 : u 5 = (.bool true) := hC.at 5 (by kernel_rfl)
      clear hC
      refine wpOp_step rfl (fun K hK => ?_)
      simp only [puts, List.foldl]
      go_simp
      exact hK _ _ ⟨rfl, rfl, hg, Below.refl _ _⟩
    case As7 =>
      intro u wx hg hC
      have hJ6 : u 6 = (.bool true) := hC.at 6 (by kernel_rfl)
      clear hC
      generalize hA : puts [(0, 25), (1, 26), (2, 27), (3, 28), (4, 29), (5, 30), (6, 31), (7, 32), (8, 33), (9, 34), (10, 35), (11, 36), (12, 37), (13, 38), (14, 39), (15, 40), (16, 41), (17, 42), (18, 43), (19, 44), (20, 45), (21, 46), (22, 47), (23, 48), (24, 49), (25, 50), (26, 51), (27, 52), (28, 53), (29, 54), (30, 55), (31, 56), (32, 6)] _ u = A
      have hgv : A.tmps.getD 31 undef = .bool true := by rw [← hA]; exact (puts_get u 6 31 _ _ (by decide) (by decide) (by kernel_rfl)).trans hJ6
      have hgs : 31 < A.tmps.size := by rw [← hA]; exact puts_room u (by kernel_rfl)
      have hp : A.tmps.getD 9 undef = (.pointer (some ⟨u5.heap.size, 0, none⟩)) := by rw [← hA]; exact (puts_get_out u _ _ 9 (by decide)).trans (by rfl)
      have hsz : 32 < A.tmps.size := by rw [← hA]; exact puts_room u (by kernel_rfl)
      refine wpOp_guard rfl 6 31 true rfl rfl hgs hgv (fun K hK => ?_)
      clear hA
      exact opLoadK (φ := Is (.agg (bytes M).toArray)) (K7.out.step hg) _ (fits_hash) (LM.out) 32 rfl hsz hK (.tmp 9) rfl hp rfl hg
    case As8 =>
      intro u wx hg hC
      have hJ6 : u 6 = (.bool true) := hC.at 6 (by kernel_rfl)
      clear hC
      generalize hA : puts [(0, 25), (1, 26), (2, 27), (3, 28), (4, 29), (5, 30), (6, 31), (7, 32), (8, 33), (9, 34), (10, 35), (11, 36), (12, 37), (13, 38), (14, 39), (15, 40), (16, 41), (17, 42), (18, 43), (19, 44), (20, 45), (21, 46), (22, 47), (23, 48), (24, 49), (25, 50), (26, 51), (27, 52), (28, 53), (29, 54), (30, 55), (31, 56), (32, 6)] _ u = A
      have hgv : A.tmps.getD 31 undef = .bool true := by rw [← hA]; exact (puts_get u 6 31 _ _ (by decide) (by decide) (by kernel_rfl)).trans hJ6
      have hgs : 31 < A.tmps.size := by rw [← hA]; exact puts_room u (by kernel_rfl)
      refine wpOp_guard rfl 6 31 true rfl rfl hgs hgv (fun K hK => ?_)
      subst hA
      simp only [puts, List.foldl]
      go_simp
      exact hK _ _ ⟨rfl, rfl, hg, Below.refl _ _⟩
    case As9 =>
      intro u wx hg hC
      have hJ6 : u 6 = (.bool true) := hC.at 6 (by kernel_rfl)
      clear hC
      generalize hA : puts [(0, 25), (1, 26), (2, 27), (3, 28), (4, 29), (5, 30), (6, 31), (7, 32), (8, 33), (9, 34), (10, 35), (11, 36), (12, 37), (13, 38), (14, 39), (15, 40), (16, 41), (17, 42), (18, 43), (19, 44), (20, 45), (21, 46), (22, 47), (23, 48), (24, 49), (25, 50), (26, 51), (27, 52), (28, 53), (29, 54), (30, 55), (31, 56), (32, 6)] _ u = A
      have hgv : A.tmps.getD 31 undef = .bool true := by rw [← hA]; exact (puts_get u 6 31 _ _ (by decide) (by decide) (by kernel_rfl)).trans hJ6
      have hgs : 31 < A.tmps.size := by rw [← hA]; exact puts_room u (by kernel_rfl)
      refine wpOp_guard rfl 6 31 true rfl rfl hgs hgv (fun K hK => ?_)
      subst hA
      simp only [puts, List.foldl]
      go_simp
      exact hK _ _ ⟨rfl, rfl, hg, Below.refl _ _⟩
    case As10 =>
      intro u wx hg hC
      have hJ6 : u 6 = (.bool true) := hC.at 6 (by kernel_rfl)
      have hJ9 : u 9 = (.string J) := hC.at 9 (by kernel_rfl)
      clear hC
      generalize hA : puts [(0, 25), (1, 26), (2, 27), (3, 28), (4, 29), (5, 30), (6, 31), (7, 32), (8, 33), (9, 34), (10, 35), (11, 36), (12, 37), (13, 38), (14, 39), (15, 40), (16, 41), (17, 42), (18, 43), (19, 44), (20, 45), (21, 46), (22, 47), (23, 48), (24, 49), (25, 50), (26, 51), (27, 52), (28, 53), (29, 54), (30, 55), (31, 56), (32, 6)] _ u = A
      have hgv : A.tmps.getD 31 undef = .bool true := by rw [← hA]; exact (puts_get u 6 31 _ _ (by decide) (by decide) (by kernel_rfl)).trans hJ6
      have hgs : 31 < A.tmps.size := by rw [← hA]; exact puts_room u (by kernel_rfl)
      refine wpOp_guard rfl 6 31 true rfl rfl hgs hgv (fun K hK => ?_)
      subst hA
      simp only [puts, List.foldl]
      go_simp
      exact hK _ _ ⟨rfl, lst_new [.string J] wx 9 _ rfl, hg.next (alloc_below _ _), alloc_below _ _⟩
    case As11 =>
      intro u wx hg hC
      have hJ6 : u 6 = (.bool true) := hC.at 6 (by kernel_rfl)
      have hJ8 : u 8 = (.string key) := hC.at 8 (by kernel_rfl)
      have hJ10 : (Lst [.string J]) (u 10) wx := hC.at 10 (by kernel_rfl)
      clear hC
      generalize hA : puts [(0, 25), (1, 26), (2, 27), (3, 28), (4, 29), (5, 30), (6, 31), (7, 32), (8, 33), (9, 34), (10, 35), (11, 36), (12, 37), (13, 38), (14, 39), (15, 40), (16, 41), (17, 42), (18, 43), (19, 44), (20, 45), (21, 46), (22, 47), (23, 48), (24, 49), (25, 50), (26, 51), (27, 52), (28, 53), (29, 54), (30, 55), (31, 56), (32, 6)] _ u = A
      have hgv : A.tmps.getD 31 undef = .bool true := by rw [← hA]; exact (puts_get u 6 31 _ _ (by decide) (by decide) (by kernel_rfl)).trans hJ6
      have hgs : 31 < A.tmps.size := by rw [← hA]; exact puts_room u (by kernel_rfl)
      refine wpOp_guard rfl 6 31 true rfl rfl hgs hgv (fun K hK => ?_)
      subst hA
      simp only [puts, List.foldl]
      go_simp
      refine (HM2.out wx _ ((HG.out.step2 B7.out).step2 hg) hJ10).mono ?_
      rintro e w' ⟨rfl, hb'⟩
      exact hK _ _ ⟨rfl, rfl, hg.next hb', hb'⟩
    case As12 =>
      intro u wx hg hC
      have hJ6 : u 6 = (.bool true) := hC.at 6 (by kernel_rfl)
      have hJ7 : u 7 = (.agg (bytes M).toArray) := hC.at 7 (by kernel_rfl)
      have hJ11 : u 11 = (.agg (bytes M).toArray) := hC.at 11 (by kernel_rfl)
      clear hC
      have heq := HEM.out
      generalize hA : puts [(0, 25), (1, 26), (2, 27), (3, 28), (4, 29), (5, 30), (6, 31), (7, 32), (8, 33), (9, 34), (10, 35), (11, 36), (12, 37), (13, 38), (14, 39), (15, 40), (16, 41), (17, 42), (18, 43), (19, 44), (20, 45), (21, 46), (22, 47), (23, 48), (24, 49), (25, 50), (26, 51), (27, 52), (28, 53), (29, 54), (30, 55), (31, 56), (32, 6)] _ u = A
      have hgv : A.tmps.getD 31 undef = .bool true := by rw [← hA]; exact (puts_get u 6 31 _ _ (by decide) (by decide) (by kernel_rfl)).trans hJ6
      have hgs : 31 < A.tmps.size := by rw [← hA]; exact puts_room u (by kernel_rfl)
      refine wpOp_guard rfl 6 31 true rfl rfl hgs hgv (fun K hK => ?_)
      subst hA
      simp only [puts, List.foldl]
      go_simp
      exact hK _ _ ⟨rfl, rfl, hg, Below.refl _ _⟩
    case As13 =>
      intro u wx hg hC
      have hJ6 : u 6 = (.bool true) := hC.at 6 (by kernel_rfl)
      have hJ12 : u 12 = (.bool true) := hC.at 12 (by kernel_rfl)
      clear hC
      refine wpOp_step rfl (fun K hK => ?_)
      simp only [puts, List.foldl]
      go_simp
      exact hK _ _ ⟨rfl, rfl, hg, Below.refl _ _⟩
    case As14 =>
      intro u wx hg hC
      have hJ13 : u 13 = (.bool true) := hC.at 13 (by kernel_rfl)
      clear hC
      refine wpOp_step rfl (fun K hK => ?_)
      simp only [puts, List.foldl]
      go_simp
      exact hK _ _ ⟨rfl, rfl, hg, Below.refl _ _⟩
    case As15 =>
      intro u wx hg hC
      have hJ14 : u 14 = (.bool true) := hC.at 14 (by kernel_rfl)
      clear hC
      generalize hA : puts [(0, 25), (1, 26), (2, 27), (3, 28), (4, 29), (5, 30), (6, 31), (7, 32), (8, 33), (9, 34), (10, 35), (11, 36), (12, 37), (13, 38), (14, 39), (15, 40), (16, 41), (17, 42), (18, 43), (19, 44), (20, 45), (21, 46), (22, 47), (23, 48), (24, 49), (25, 50), (26, 51), (27, 52), (28, 53), (29, 54), (30, 55), (31, 56), (32, 6)] _ u = A
      have hgv : A.tmps.getD 39 undef = .bool true := by rw [← hA]; exact (puts_get u 14 39 _ _ (by decide) (by decide) (by kernel_rfl)).trans hJ14
      have hgs : 39 < A.tmps.size := by rw [← hA]; exact puts_room u (by kernel_rfl)
      refine wpOp_guard rfl 14 39 true rfl rfl hgs hgv (fun K hK => ?_)
      subst hA
      simp only [puts, List.foldl]
      go_simp
      exact hK _ _ ⟨rfl, rfl, hg, Below.refl _ _⟩
    case As16 =>
      intro u wx hg hC
      have hJ14 : u 14 = (.bool true) := hC.at 14 (by kernel_rfl)
      have hJ15 : u 15 = (.pointer (some ⟨w.heap.size, 0, none⟩)) := hC.at 15 (by kernel_rfl)
      clear hC
      generalize hA : puts [(0, 25), (1, 26), (2, 27), (3, 28), (4, 29), (5, 30), (6, 31), (7, 32), (8, 33), (9, 34), (10, 35), (11, 36), (12, 37), (13, 38), (14, 39), (15, 40), (16, 41), (17, 42), (18, 43), (19, 44), (20, 45), (21, 46), (22, 47), (23, 48), (24, 49), (25, 50), (26, 51), (27, 52), (28, 53), (29, 54), (30, 55), (31, 56), (32, 6)] _ u = A
      have hgv : A.tmps.getD 39 undef = .bool true := by rw [← hA]; exact (puts_get u 14 39 _ _ (by decide) (by decide) (by kernel_rfl)).trans hJ14
      have hgs : 39 < A.tmps.size := by rw [← hA]; exact puts_room u (by kernel_rfl)
      have hp : A.tmps.getD 40 undef = (.pointer (some ⟨w.heap.size, 0, none⟩)) := by rw [← hA]; exact (puts_get u 15 40 _ _ (by decide) (by decide) (by kernel_rfl)).trans hJ15
      have hsz : 41 < A.tmps.size := by rw [← hA]; exact puts_room u (by kernel_rfl)
      refine wpOp_guard rfl 14 39 true rfl rfl hgs hgv (fun K hK => ?_)
      clear hA
      exact opLoadRK (φ := Is (.agg (bytes P).toArray)) ((XA.out.step hg).mid 0 rfl) _ (fits_hash) (LP.out) 41 rfl hsz hK (.tmp 40) rfl hp rfl hg
    case As17 =>
      intro u wx hg hC
      have hJ14 : u 14 = (.bool true) := hC.at 14 (by kernel_rfl)
      clear hC
      generalize hA : puts [(0, 25), (1, 26), (2, 27), (3, 28), (4, 29), (5, 30), (6, 31), (7, 32), (8, 33), (9, 34), (10, 35), (11, 36), (12, 37), (13, 38), (14, 39), (15, 40), (16, 41), (17, 42), (18, 43), (19, 44), (20, 45), (21, 46), (22, 47), (23, 48), (24, 49), (25, 50), (26, 51), (27, 52), (28, 53), (29, 54), (30, 55), (31, 56), (32, 6)] _ u = A
      have hgv : A.tmps.getD 39 undef = .bool true := by rw [← hA]; exact (puts_get u 14 39 _ _ (by decide) (by decide) (by kernel_rfl)).trans hJ14
      have hgs : 39 < A.tmps.size := by rw [← hA]; exact puts_room u (by kernel_rfl)
      refine wpOp_guard rfl 14 39 true rfl rfl hgs hgv (fun K hK => ?_)
      subst hA
      simp only [puts, List.foldl]
      go_simp
      exact hK _ _ ⟨rfl, rfl, hg, Below.refl _ _⟩
    case As18 =>
      intro u wx hg hC
      have hJ14 : u 14 = (.bool true) := hC.at 14 (by kernel_rfl)
      have hJ17 : u 17 = (.pointer (some ⟨w.heap.size, 32, none⟩)) := hC.at 17 (by kernel_rfl)
      clear hC
      generalize hA : puts [(0, 25), (1, 26), (2, 27), (3, 28), (4, 29), (5, 30), (6, 31), (7, 32), (8, 33), (9, 34), (10, 35), (11, 36), (12, 37), (13, 38), (14, 39), (15, 40), (16, 41), (17, 42), (18, 43), (19, 44), (20, 45), (21, 46), (22, 47), (23, 48), (24, 49), (25, 50), (26, 51), (27, 52), (28, 53), (29, 54), (30, 55), (31, 56), (32, 6)] _ u = A
      have hgv : A.tmps.getD 39 undef = .bool true := by rw [← hA]; exact (puts_get u 14 39 _ _ (by decide) (by decide) (by kernel_rfl)).trans hJ14
      have hgs : 39 < A.tmps.size := by rw [← hA]; exact puts_room u (by kernel_rfl)
      have hp : A.tmps.getD 42 undef = (.pointer (some ⟨w.heap.size, 32, none⟩)) := by rw [← hA]; exact (puts_get u 17 42 _ _ (by decide) (by decide) (by kernel_rfl)).trans hJ17
      have hsz : 43 < A.tmps.size := by rw [← hA]; exact puts_room u (by kernel_rfl)
      refine wpOp_guard rfl 14 39 true rfl rfl hgs hgv (fun K hK => ?_)
      clear hA
      exact opLoadRK (φ := Is (.agg (bytes R).toArray)) ((XB.out.step hg).mid 32 LP.out) _ (fits_hash) (LR.out) 43 rfl hsz hK (.tmp 42) rfl hp rfl hg
    case As19 =>
      intro u wx hg hC
      have hJ14 : u 14 = (.bool true) := hC.at 14 (by kernel_rfl)
      have hJ16 : u 16 = (.agg (bytes P).toArray) := hC.at 16 (by kernel_rfl)
      have hJ18 : u 18 = (.agg (bytes R).toArray) := hC.at 18 (by kernel_rfl)
      clear hC
      generalize hA : puts [(0, 25), (1, 26), (2, 27), (3, 28), (4, 29), (5, 30), (6, 31), (7, 32), (8, 33), (9, 34), (10, 35), (11, 36), (12, 37), (13, 38), (14, 39), (15, 40), (16, 41), (17, 42), (18, 43), (19, 44), (20, 45), (21, 46), (22, 47), (23, 48), (24, 49), (25, 50), (26, 51), (27, 52), (28, 53), (29, 54), (30, 55), (31, 56), (32, 6)] _ u = A
      have hgv : A.tmps.getD 39 undef = .bool true := by rw [← hA]; exact (puts_get u 14 39 _ _ (by decide) (by decide) (by kernel_rfl)).trans hJ14
      have hgs : 39 < A.tmps.size := by rw [← hA]; exact puts_room u (by kernel_rfl)
      refine wpOp_guard rfl 14 39 true rfl rfl hgs hgv (fun K hK => ?_)
      subst hA
      simp only [puts, List.foldl]
      go_simp
      refine (HE1.out wx).mono ?_
      rintro e w' ⟨rfl, hb'⟩
      exact hK _ _ ⟨rfl, rfl, hg.next hb', hb'⟩
    case As20 =>
      intro u wx hg hC
      have hJ14 : u 14 = (.bool true) := hC.at 14 (by kernel_rfl)
      clear hC
      generalize hA : puts [(0, 25), (1, 26), (2, 27), (3, 28), (4, 29), (5, 30), (6, 31), (7, 32), (8, 33), (9, 34), (10, 35), (11, 36), (12, 37), (13, 38), (14, 39), (15, 40), (16, 41), (17, 42), (18, 43), (19, 44), (20, 45), (21, 46), (22, 47), (23, 48), (24, 49), (25, 50), (26, 51), (27, 52), (28, 53), (29, 54), (30, 55), (31, 56), (32, 6)] _ u = A
      have hgv : A.tmps.getD 39 undef = .bool true := by rw [← hA]; exact (puts_get u 14 39 _ _ (by decide) (by decide) (by kernel_rfl)).trans hJ14
      have hgs : 39 < A.tmps.size := by rw [← hA]; exact puts_room u (by kernel_rfl)
      refine wpOp_guard rfl 14 39 true rfl rfl hgs hgv (fun K hK => ?_)
      subst hA
      simp only [puts, List.foldl]
      go_simp
      exact hK _ _ ⟨rfl, rfl, hg, Below.refl _ _⟩
    case As21 =>
      intro u wx hg hC
      have hJ14 : u 14 = (.bool true) := hC.at 14 (by kernel_rfl)
      have hJ20 : u 20 = (.pointer (some ⟨w.heap.size, 0, none⟩)) := hC.at 20 (by kernel_rfl)
      clear hC
      generalize hA : puts [(0, 25), (1, 26), (2, 27), (3, 28), (4, 29), (5, 30), (6, 31), (7, 32), (8, 33), (9, 34), (10, 35), (11, 36), (12, 37), (13, 38), (14, 39), (15, 40), (16, 41), (17, 42), (18, 43), (19, 44), (20, 45), (21, 46), (22, 47), (23, 48), (24, 49), (25, 50), (26, 51), (27, 52), (28, 53), (29, 54), (30, 55), (31, 56), (32, 6)] _ u = A
      have hgv : A.tmps.getD 39 undef = .bool true := by rw [← hA]; exact (puts_get u 14 39 _ _ (by decide) (by decide) (by kernel_rfl)).trans hJ14
      have hgs : 39 < A.tmps.size := by rw [← hA]; exact puts_room u (by kernel_rfl)
      have hp : A.tmps.getD 45 undef = (.pointer (some ⟨w.heap.size, 0, none⟩)) := by rw [← hA]; exact (puts_get u 20 45 _ _ (by decide) (by decide) (by kernel_rfl)).trans hJ20
      have hsz : 46 < A.tmps.size := by rw [← hA]; exact puts_room u (by kernel_rfl)
      refine wpOp_guard rfl 14 39 true rfl rfl hgs hgv (fun K hK => ?_)
      clear hA
      exact opLoadRK (φ := Is (.agg (bytes P).toArray)) ((XA.out.step hg).mid 0 rfl) _ (fits_hash) (LP.out) 46 rfl hsz hK (.tmp 45) rfl hp rfl hg
    case As22 =>
      intro u wx hg hC
      have hJ14 : u 14 = (.bool true) := hC.at 14 (by kernel_rfl)
      clear hC
      generalize hA : puts [(0, 25), (1, 26), (2, 27), (3, 28), (4, 29), (5, 30), (6, 31), (7, 32), (8, 33), (9, 34), (10, 35), (11, 36), (12, 37), (13, 38), (14, 39), (15, 40), (16, 41), (17, 42), (18, 43), (19, 44), (20, 45), (21, 46), (22, 47), (23, 48), (24, 49), (25, 50), (26, 51), (27, 52), (28, 53), (29, 54), (30, 55), (31, 56), (32, 6)] _ u = A
      have hgv : A.tmps.getD 39 undef = .bool true := by rw [← hA]; exact (puts_get u 14 39 _ _ (by decide) (by decide) (by kernel_rfl)).trans hJ14
      have hgs : 39 < A.tmps.size := by rw [← hA]; exact puts_room u (by kernel_rfl)
      refine wpOp_guard rfl 14 39 true rfl rfl hgs hgv (fun K hK => ?_)
      subst hA
      simp only [puts, List.foldl]
      go_simp
      exact hK _ _ ⟨rfl, rfl, hg, Below.refl _ _⟩
    case As23 =>
      intro u wx hg hC
      have hJ14 : u 14 = (.bool true) := hC.at 14 (by kernel_rfl)
      have hJ22 : u 22 = (.pointer (some ⟨w.heap.size, 32, none⟩)) := hC.at 22 (by kernel_rfl)
      clear hC
      generalize hA : puts [(0, 25), (1, 26), (2, 27), (3, 28), (4, 29), (5, 30), (6, 31), (7, 32), (8, 33), (9, 34), (10, 35), (11, 36), (12, 37), (13, 38), (14, 39), (15, 40), (16, 41), (17, 42), (18, 43), (19, 44), (20, 45), (21, 46), (22, 47), (23, 48), (24, 49), (25, 50), (26, 51), (27, 52), (28, 53), (29, 54), (30, 55), (31, 56), (32, 6)] _ u = A
      have hgv : A.tmps.getD 39 undef = .bool true := by rw [← hA]; exact (puts_get u 14 39 _ _ (by decide) (by decide) (by kernel_rfl)).trans hJ14
      have hgs : 39 < A.tmps.size := by rw [← hA]; exact puts_room u (by kernel_rfl)
      have hp : A.tmps.getD 47 undef = (.pointer (some ⟨w.heap.size, 32, none⟩)) := by rw [← hA]; exact (puts_get u 22 47 _ _ (by decide) (by decide) (by kernel_rfl)).trans hJ22
      have hsz : 48 < A.tmps.size := by rw [← hA]; exact puts_room u (by kernel_rfl)
      refine wpOp_guard rfl 14 39 true rfl rfl hgs hgv (fun K hK => ?_)
      clear hA
      exact opLoadRK (φ := Is (.agg (bytes R).toArray)) ((XB.out.step hg).mid 32 LP.out) _ (fits_hash) (LR.out) 48 rfl hsz hK (.tmp 47) rfl hp rfl hg
    case As24 =>
      intro u wx hg hC
      have hJ14 : u 14 = (.bool true) := hC.at 14 (by kernel_rfl)
      have hJ21 : u 21 = (.agg (bytes P).toArray) := hC.at 21 (by kernel_rfl)
      have hJ23 : u 23 = (.agg (bytes R).toArray) := hC.at 23 (by kernel_rfl)
      clear hC
      have heq := HEP.out
      generalize hA : puts [(0, 25), (1, 26), (2, 27), (3, 28), (4, 29), (5, 30), (6, 31), (7, 32), (8, 33), (9, 34), (10, 35), (11, 36), (12, 37), (13, 38), (14, 39), (15, 40), (16, 41), (17, 42), (18, 43), (19, 44), (20, 45), (21, 46), (22, 47), (23, 48), (24, 49), (25, 50), (26, 51), (27, 52), (28, 53), (29, 54), (30, 55), (31, 56), (32, 6)] _ u = A
      have hgv : A.tmps.getD 39 undef = .bool true := by rw [← hA]; exact (puts_get u 14 39 _ _ (by decide) (by decide) (by kernel_rfl)).trans hJ14
      have hgs : 39 < A.tmps.size := by rw [← hA]; exact puts_room u (by kernel_rfl)
      refine wpOp_guard rfl 14 39 true rfl rfl hgs hgv (fun K hK => ?_)
      subst hA
      simp only [puts, List.foldl]
      go_simp
      exact hK _ _ ⟨rfl, rfl, hg, Below.refl _ _⟩
    case As25 =>
      intro u wx hg hC
      have hJ14 : u 14 = (.bool true) := hC.at 14 (by kernel_rfl)
      have hJ19 : u 19 = (.bool r) := hC.at 19 (by kernel_rfl)
      have hJ24 : u 24 = (.bool r) := hC.at 24 (by kernel_rfl)
      clear hC
      generalize hA : puts [(0, 25), (1, 26), (2, 27), (3, 28), (4, 29), (5, 30), (6, 31), (7, 32), (8, 33), (9, 34), (10, 35), (11, 36), (12, 37), (13, 38), (14, 39), (15, 40), (16, 41), (17, 42), (18, 43), (19, 44), (20, 45), (21, 46), (22, 47), (23, 48), (24, 49), (25, 50), (26, 51), (27, 52), (28, 53), (29, 54), (30, 55), (31, 56), (32, 6)] _ u = A
      have hgv : A.tmps.getD 39 undef = .bool true := by rw [← hA]; exact (puts_get u 14 39 _ _ (by decide) (by decide) (by kernel_rfl)).trans hJ14
      have hgs : 39 < A.tmps.size := by rw [← hA]; exact puts_room u (by kernel_rfl)
      refine wpOp_guard rfl 14 39 true rfl rfl hgs hgv (fun K hK => ?_)
      subst hA
      simp only [puts, List.foldl]
      go_simp
      exact hK _ _ ⟨rfl, rfl, hg, Below.refl _ _⟩
    case As26 =>
      intro u wx hg hC
      have hJ14 : u 14 = (.bool true) := hC.at 14 (by kernel_rfl)
      have hJ25 : u 25 = (.bool true) := hC.at 25 (by kernel_rfl)
      clear hC
      refine wpOp_step rfl (fun K hK => ?_)
      simp only [puts, List.foldl]
      go_simp
      exact hK _ _ ⟨rfl, rfl, hg, Below.refl _ _⟩
    case As27 =>
      intro u wx hg hC
      have hJ26 : u 26 = (.bool true) := hC.at 26 (by kernel_rfl)
      clear hC
      refine wpOp_step rfl (fun K hK => ?_)
      simp only [puts, List.foldl]
      go_simp
      exact hK _ _ ⟨rfl, rfl, hg, Below.refl _ _⟩
    case As28 =>
      intro u wx hg hC
      have hJ27 : u 27 = (.bool true) := hC.at 27 (by kernel_rfl)
      clear hC
      generalize hA : puts [(0, 25), (1, 26), (2, 27), (3, 28), (4, 29), (5, 30), (6, 31), (7, 32), (8, 33), (9, 34), (10, 35), (11, 36), (12, 37), (13, 38), (14, 39), (15, 40), (16, 41), (17, 42), (18, 43), (19, 44), (20, 45), (21, 46), (22, 47), (23, 48), (24, 49), (25, 50), (26, 51), (27, 52), (28, 53), (29, 54), (30, 55), (31, 56), (32, 6)] _ u = A
      have hgv : A.tmps.getD 52 undef = .bool true := by rw [← hA]; exact (puts_get u 27 52 _ _ (by decide) (by decide) (by kernel_rfl)).trans hJ27
      have hgs : 52 < A.tmps.size := by rw [← hA]; exact puts_room u (by kernel_rfl)
      have hp : A.tmps.getD 9 undef = (.pointer (some ⟨u5.heap.size, 0, none⟩)) := by rw [← hA]; exact (puts_get_out u _ _ 9 (by decide)).trans (by rfl)
      have hsz : 53 < A.tmps.size := by rw [← hA]; exact puts_room u (by kernel_rfl)
      refine wpOp_guard rfl 27 52 true rfl rfl hgs hgv (fun K hK => ?_)
      clear hA
      exact opLoadK (φ := Is (.agg (bytes M).toArray)) (K7.out.step hg) _ (fits_hash) (LM.out) 53 rfl hsz hK (.tmp 9) rfl hp rfl hg
    case As29 =>
      intro u wx hg hC
      have hJ27 : u 27 = (.bool true) := hC.at 27 (by kernel_rfl)
      clear hC
      generalize hA : puts [(0, 25), (1, 26), (2, 27), (3, 28), (4, 29), (5, 30), (6, 31), (7, 32), (8, 33), (9, 34), (10, 35), (11, 36), (12, 37), (13, 38), (14, 39), (15, 40), (16, 41), (17, 42), (18, 43), (19, 44), (20, 45), (21, 46), (22, 47), (23, 48), (24, 49), (25, 50), (26, 51), (27, 52), (28, 53), (29, 54), (30, 55), (31, 56), (32, 6)] _ u = A
      have hgv : A.tmps.getD 52 undef = .bool true := by rw [← hA]; exact (puts_get u 27 52 _ _ (by decide) (by decide) (by kernel_rfl)).trans hJ27
      have hgs : 52 < A.tmps.size := by rw [← hA]; exact puts_room u (by kernel_rfl)
      have hp : A.tmps.getD 9 undef = (.pointer (some ⟨u5.heap.size, 0, none⟩)) := by rw [← hA]; exact (puts_get_out u _ _ 9 (by decide)).trans (by rfl)
      have hsz : 54 < A.tmps.size := by rw [← hA]; exact puts_room u (by kernel_rfl)
      refine wpOp_guard rfl 27 52 true rfl rfl hgs hgv (fun K hK => ?_)
      clear hA
      exact opLoadK (φ := Is (.agg (bytes M).toArray)) (K7.out.step hg) _ (fits_hash) (LM.out) 54 rfl hsz hK (.tmp 9) rfl hp rfl hg
    case As30 =>
      intro u wx hg hC
      have hJ27 : u 27 = (.bool true) := hC.at 27 (by kernel_rfl)
      have hJ28 : u 28 = (.agg (bytes M).toArray) := hC.at 28 (by kernel_rfl)
      have hJ29 : u 29 = (.agg (bytes M).toArray) := hC.at 29 (by kernel_rfl)
      clear hC
      generalize hA : puts [(0, 25), (1, 26), (2, 27), (3, 28), (4, 29), (5, 30), (6, 31), (7, 32), (8, 33), (9, 34), (10, 35), (11, 36), (12, 37), (13, 38), (14, 39), (15, 40), (16, 41), (17, 42), (18, 43), (19, 44), (20, 45), (21, 46), (22, 47), (23, 48), (24, 49), (25, 50), (26, 51), (27, 52), (28, 53), (29, 54), (30, 55), (31, 56), (32, 6)] _ u = A
      have hgv : A.tmps.getD 52 undef = .bool true := by rw [← hA]; exact (puts_get u 27 52 _ _ (by decide) (by decide) (by kernel_rfl)).trans hJ27
      have hgs : 52 < A.tmps.size := by rw [← hA]; exact puts_room u (by kernel_rfl)
      refine wpOp_guard rfl 27 52 true rfl rfl hgs hgv (fun K hK => ?_)
      subst hA
      simp only [puts, List.foldl]
      go_simp
      refine (HE2.out wx).mono ?_
      rintro e w' ⟨rfl, hb'⟩
      exact hK _ _ ⟨rfl, rfl, hg.next hb', hb'⟩
    case As31 =>
      intro u wx hg hC
      have hJ27 : u 27 = (.bool true) := hC.at 27 (by kernel_rfl)
      have hJ30 : u 30 = (.bool true) := hC.at 30 (by kernel_rfl)
      clear hC
      refine wpOp_step rfl (fun K hK => ?_)
      simp only [puts, List.foldl]
      go_simp
      exact hK _ _ ⟨rfl, rfl, hg, Below.refl _ _⟩
    case As32 =>
      intro u wx hg hC
      have hJ31 : u 31 = (.bool true) := hC.at 31 (by kernel_rfl)
      clear hC
      refine wpOp_step rfl (fun K hK => ?_)
      simp only [puts, List.foldl]
      go_simp
      exact hK _ _ ⟨rfl, rfl, hg, Below.refl _ _⟩
  case finA =>
    intro u v9 hg hC
    have hC32 : u 32 = .bool true := hC (32, 6) (by decide)
    have BF : Hid (Below w.heap.size w v9) := Lib.hid (B7.out.next hg)
    clear hg hC
    simp only [puts, List.foldl]
    rw [hC32]
    go_simp
    go_wp2
    go_ret
    exact ⟨rfl, BF.out⟩

end Go.Proofs.YtmphjmbnfaimiaaDoor
