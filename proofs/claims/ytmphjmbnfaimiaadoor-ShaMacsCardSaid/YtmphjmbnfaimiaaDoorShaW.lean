/- Contract of sha's Mac. -/
import Derived.Test.YtmphjmbnfaimiaaDoorShaN
import Derived.Test.YtmphjmbnfaimiaaDoorInv
namespace Go.Proofs.YtmphjmbnfaimiaaDoor
open Go.RowKit ShaMath

theorem write_big (b : Nat) (l0 : List UInt8) (a : Option Addr) (cap : Nat) (l : List ByteArray) (w : World) (hg : Glob w) (hb2 : 2 ≤ b) (hd : Dg w b l0) (hl : Big (l.length ≤ 140737488355328)) (ht : Big (l0.length + (cat l).length < 1000000000000)) (hr : Off w b a (strs l)) :
    Calls Tryd.prog 11 #[.pointer (some ⟨b, 0, none⟩), .slice a l.length cap] w fun e w' => e = .returned (.tuple #[]) ∧ Dg w' b (l0 ++ cat l) ∧ Only b w w' := write_any b l0 a cap l w hg hb2 hd hl.out ht.out hr
theorem agn_length (k : List UInt8) (x : UInt8) (h : k.length ≤ 64) : (agn k x).length = 64 := by simp [agn]; omega

set_option maxHeartbeats 2000000 in
theorem mac_any (key : ByteArray) (a : Option Addr) (cap : Nat) (l : List ByteArray) (w : World) (hg : Glob w) (hk : key.size < 10000000000) (hl : l.length ≤ 140737488355328) (ht : (cat l).length < 10000000000) (hr : Lies w w.heap.size a (strs l)) :
    Calls Tryd.prog 16 #[.string key, .slice a l.length cap] w fun e w' => e = .returned (.agg (bytes (mac key.data.toList (cat l))).toArray) ∧ Below w.heap.size w w' := by
  obtain ⟨O, hO⟩ : ∃ O : List UInt8, O = List.replicate 32 0 := ⟨_, rfl⟩
  obtain ⟨D0, hD0⟩ : ∃ D, D = sha key.data.toList := ⟨_, rfl⟩
  have lD0 : D0.length = 32 := by rw [hD0, sha_length]
  obtain ⟨T, hT⟩ : ∃ T : ByteArray, T = if 64 < key.size then str D0 else key := ⟨_, rfl⟩
  have hTs : T.size ≤ 64 := by
    rw [hT]
    split
    · rw [str_size, lD0]; omega
    · omega
  obtain ⟨X, hX⟩ : ∃ X, X = str (agn T.data.toList 54) := ⟨_, rfl⟩
  obtain ⟨V, hV⟩ : ∃ V, V = str (agn T.data.toList 92) := ⟨_, rfl⟩
  have lX : X.size = 64 := by rw [hX, str_size, agn_length _ _ (by rw [size_list]; exact hTs)]
  have lV : V.size = 64 := by rw [hV, str_size, agn_length _ _ (by rw [size_list]; exact hTs)]
  obtain ⟨E, hE⟩ : ∃ E, E = sha ([] ++ X.data.toList ++ cat l) := ⟨_, rfl⟩
  have lE : E.length = 32 := by rw [hE, sha_length]
  obtain ⟨M, hM⟩ : ∃ M, M = sha (V.data.toList ++ E) := ⟨_, rfl⟩
  have hmac : mac key.data.toList (cat l) = M := by
    have hk2 : (if 64 < key.data.toList.length then sha key.data.toList else key.data.toList) = T.data.toList := by
      rw [size_list, hT, ← hD0]
      split
      · rw [str_list]
      · rfl
    rw [mac, hk2, hM, hE, hX, hV, str_list, str_list, List.nil_append]
  have HZ : Hid (∀ u, (zeroValue 31).run Tryd.prog u = .ok (.agg (bytes O).toArray) u) := Lib.hid (by rw [hO]; exact zero32)
  have LO : Hid ((bytes O).length = 32) := Lib.hid (by rw [bytes_length, hO]; simp)
  have LD := Lib.hid lD0
  have LD0 : Hid ((bytes D0).length = 32) := Lib.hid (by rw [bytes_length, lD0])
  have HD01 : Hid ((bytes D0).all (·.oneCell') = true) := Lib.hid (bytes_one _)
  have LE : Hid ((bytes E).length = 32) := Lib.hid (by rw [bytes_length, lE])
  have LEl := Lib.hid lE
  have HE1 : Hid ((bytes E).all (·.oneCell') = true) := Lib.hid (bytes_one _)
  have LM : Hid ((bytes M).length = 32) := Lib.hid (by rw [bytes_length, hM, sha_length])
  have HM1 : Hid ((bytes M).all (·.oneCell') = true) := Lib.hid (bytes_one _)
  have HA1 : Hid (∀ u, Calls Tryd.prog 26 #[.string T, .int .u8 54] u fun e u' => e = .returned (.string X) ∧ Below u.heap.size u u') := Lib.hid fun u => by rw [hX]; exact against_any T 54 u hTs
  have HA2 : Hid (∀ u, Calls Tryd.prog 26 #[.string T, .int .u8 92] u fun e u' => e = .returned (.string V) ∧ Below u.heap.size u u') := Lib.hid fun u => by rw [hV]; exact against_any T 92 u hTs
  have HSK : Hid (∀ u, Glob u → Calls Tryd.prog 14 #[.slice (some ⟨u.heap.size, 0, none⟩) 1 1] (u.alloc (.cells #[.string key] 9)) fun e u' => e = .returned (.agg (bytes D0).toArray) ∧ Below u.heap.size u u') := Lib.hid fun u g =>
    (sum_list (some ⟨u.heap.size, 0, none⟩) 1 1 [key] D0 (u.alloc (.cells #[.string key] 9)) rfl (by rw [cat_one, hD0]) (g.step (alloc_below _ _)) ⟨by omega⟩ ⟨by rw [cat_one, size_list]; omega⟩ (Lies.new [_] _ _)).mono fun e u' h => ⟨h.1, (alloc_below _ _).next h.2⟩
  have HSE : Hid (∀ u b, Glob u → Dg u b ([] ++ X.data.toList ++ cat l) → Calls Tryd.prog 13 #[.pointer (some ⟨b, 0, none⟩)] u fun e u' => e = .returned (.agg (bytes E).toArray) ∧ Below u.heap.size u u') := Lib.hid fun u b g d => by
    rw [hE]
    exact dsum_any b _ u g d (by simp only [List.nil_append, List.length_append, size_list, lX]; omega)
  have HSM : Hid (∀ (u : World) (p : Option Addr), Glob u → Lies u u.heap.size p (strs [V, str E]) → Calls Tryd.prog 14 #[.slice p 2 2] u fun e u' => e = .returned (.agg (bytes M).toArray) ∧ Below u.heap.size u u') := Lib.hid fun u p g h =>
    sum_list p 2 2 [V, str E] M u rfl (by rw [hM]; simp [cat, str_list]) g ⟨by omega⟩ ⟨by simp only [cat, List.flatMap_cons, List.flatMap_nil, List.append_nil, List.length_append, size_list, str_list, lV, lE]; omega⟩ h
  have HX : Big (([] : List UInt8).length + X.size < 1000000000000) := ⟨by rw [lX]; show 0 + 64 < _; omega⟩
  have HXL : Big (([] ++ X.data.toList).length + (cat l).length < 1000000000000) := ⟨by rw [List.nil_append, size_list, lX]; omega⟩
  have HL : Big (l.length ≤ 140737488355328) := ⟨hl⟩
  have HG := Lib.hid hg
  have HR := Lib.hid hr
  have hw2 := hg.size
  rw [hmac]
  by_cases h64 : 64 < key.size
  · have HTD : Hid (str D0 = T) := Lib.hid (by rw [hT, if_pos h64])
    have h65 : 64 < (key.size : Int) := by omega
    clear hg hk hl ht hr hO hD0 lD0 hT hTs hX hV lX lV hE lE hM hmac h64
    go_enter Tryd.func16, Tryd.ntmps16
    go_wp2_with (first
      | ((with_reducible refine wpAllocK (w := w) (bytes O) 31 HZ.out ?_ ?_); rfl; intro u1 r1 b1 s1; have R1 := Lib.hid r1; have B1 := Lib.hid b1; clear r1 b1 s1)
      | (go_at_call 14; (with_reducible refine (HSK.out u1 (HG.out.step B1.out)).mono ?_); rintro e u2 ⟨rfl, b2⟩; have B2 : Hid (Below w.heap.size w u2) := Lib.hid (B1.out.next b2); have R2 := Lib.hid (R1.out.step b2); clear b2)
      | ((with_reducible refine wpAllocK (w := u2) (bytes O) 31 HZ.out ?_ ?_); rfl; intro u3 r3 b3 s3; have K3 := Lib.hid r3; have B3 : Hid (Below w.heap.size w u3) := Lib.hid (B2.out.next b3); have R3 := Lib.hid (R2.out.step b3); clear r3 b3 s3)
      | ((with_reducible refine K3.out.wpStoreK 31 (bytes D0) fits_hash LO.out LD0.out HD01.out ?_ ?_); rfl; intro u4 r4 o4 s4; have B4 : Hid (Below w.heap.size w u4) := Lib.hid (B3.out.trans (o4.below B2.out.size B3.out.size)); have R4 := Lib.hid (R3.out.only o4 (by have := R2.out.lt; omega)); have hconv := (conv_bytes u2.heap.size 0 32 D0 32 u4 LD.out (fun j hj => by rw [Nat.zero_add, r4.cell, bytes_get _ _ hj])); rw [HTD.out] at hconv; clear r4 o4 s4)
      | (go_at_call 10; (with_reducible refine (sha_new_any u4).mono ?_); rintro e n1 ⟨rfl, d1, b1, s1⟩; have N1 := Lib.hid d1; have C1 : Hid (Below w.heap.size w n1) := Lib.hid (B4.out.next b1); have P1 := Lib.hid (R4.out.step b1); have Z1 : Hid (w.heap.size < u4.heap.size) := Lib.hid R4.out.lt; clear d1 b1 s1)
      | (go_at_call 26; (with_reducible refine (HA1.out n1).mono ?_); rintro e n2 ⟨rfl, b2⟩; have N2 := Lib.hid (N1.out.step b2); have C2 : Hid (Below w.heap.size w n2) := Lib.hid (C1.out.next b2); have P2 := Lib.hid (P1.out.step b2); clear b2)
      | (go_at_call 11; (with_reducible refine (write_one u4.heap.size [] X n2 (HG.out.step C2.out) (by have := Z1.out; omega) N2.out HX).mono ?_); rintro e n3 ⟨rfl, d3, o3⟩; have N3 := Lib.hid d3; have C3 : Hid (Below w.heap.size w n3) := Lib.hid (C2.out.trans (o3.below (by have := Z1.out; omega) C2.out.size)); have P3 := Lib.hid (P2.out.only o3 (by have := Z1.out; omega)); have OF3 : Hid (Off n3 u4.heap.size a (strs l)) := Lib.hid ((HR.out.below C3.out).off (by have := Z1.out; omega) C3.out.size); clear d3 o3)
      | (go_at_call 11; (with_reducible refine (write_big u4.heap.size _ a cap l n3 (HG.out.step C3.out) (by have := Z1.out; omega) N3.out HL HXL OF3.out).mono ?_); rintro e n4 ⟨rfl, d4, o4⟩; have N4 := Lib.hid d4; have C4 : Hid (Below w.heap.size w n4) := Lib.hid (C3.out.trans (o4.below (by have := Z1.out; omega) C3.out.size)); have P4 := Lib.hid (P3.out.only o4 (by have := Z1.out; omega)); clear d4 o4)
      | (go_at_call 13; (with_reducible refine (HSE.out n4 u4.heap.size (HG.out.step C4.out) N4.out).mono ?_); rintro e n5 ⟨rfl, b5⟩; have C5 : Hid (Below w.heap.size w n5) := Lib.hid (C4.out.next b5); have P5 := Lib.hid (P4.out.step b5); clear b5)
      | ((with_reducible refine wpAllocK (w := n5) (bytes O) 31 HZ.out ?_ ?_); rfl; intro n6 r6 b6 s6; have K6 := Lib.hid r6; have C6 : Hid (Below w.heap.size w n6) := Lib.hid (C5.out.next b6); have P6 := Lib.hid (P5.out.step b6); clear r6 b6 s6)
      | ((with_reducible refine K6.out.wpStoreK 31 (bytes E) fits_hash LO.out LE.out HE1.out ?_ ?_); rfl; intro n7 r7 o7 s7; have K7 := Lib.hid r7; have C7 : Hid (Below w.heap.size w n7) := Lib.hid (C6.out.trans (o7.below C5.out.size C6.out.size)); have P7 := Lib.hid (P6.out.only o7 (by have := P5.out.lt; omega)); clear r7 o7 s7))
    refine region_tail 4 [(0, 27), (1, 28), (2, 29), (3, 30)]
      (fun i => [Is (.string T), Is (.string V), Is (.slice (some ⟨n5.heap.size, 0, none⟩) 32 32), Is (.string (str E))].getD i (Is undef))
      (fun w' => Below n7.heap.size n7 w') (by kernel_rfl) (by decide) (by kernel_rfl) (by kernel_rfl) (by kernel_rfl) (by decide) (by decide) (by kernel_rfl) rfl ?mono ((Below.refl _ _).drew) ?step ?fin
    case mono =>
      intro i
      match i with
      | 0 | 1 | 2 | 3 => exact Is.monot _
      | _ + 4 => exact Is.monot _
    case step =>
      refine List.forall_mem_cons.2 ⟨?s0, List.forall_mem_cons.2 ⟨?s1, List.forall_mem_cons.2 ⟨?s2, List.forall_mem_cons.2 ⟨?s3, List.forall_mem_nil _⟩⟩⟩⟩
      case s1 =>
        intro u wx hg hC
        have hJ : u 0 = .string T := hC.at 0 (by kernel_rfl)
        clear hC
        refine wpOp_step rfl (fun K hK => ?_)
        simp only [puts, List.foldl]
        go_simp
        refine (HA2.out wx).mono ?_
        rintro e w' ⟨rfl, hb'⟩
        exact hK _ _ ⟨rfl, rfl, hg.next hb', hb'⟩
      case s3 =>
        intro u wx hg hC
        have hJ : u 2 = .slice (some ⟨n5.heap.size, 0, none⟩) 32 32 := hC.at 2 (by kernel_rfl)
        clear hC
        have hconv2 := conv_bytes n5.heap.size 0 32 E 32 wx LEl.out (fun j hj => by rw [Nat.zero_add, (K7.out.step hg).cell, bytes_get _ _ hj])
        refine wpOp_step rfl (fun K hK => ?_)
        simp only [puts, List.foldl]
        go_simp
        exact hK _ _ ⟨rfl, rfl, hg, Below.refl _ _⟩
      all_goals
        intro u wx hg hC
        have hc := hC _ rfl
        clear hC
        simp [Region.binds] at hc
        refine wpOp_step rfl (fun K hK => ?_)
        simp only [puts, List.foldl]
        go_simp
        refine hK _ _ ?_
        clear hK K
        refine ⟨rfl, ?_, hg, Below.refl _ _⟩
        rfl
    case fin =>
      intro u w9 hbw9 hφ
      have h1 : u 1 = .string V := hφ (1, 28) (by decide)
      have h3 : u 3 = .string (str E) := hφ (3, 30) (by decide)
      clear hφ
      simp only [puts, List.foldl]
      go_simp
      have C9 : Hid (Below w.heap.size w w9) := Lib.hid (C7.out.next hbw9)
      have P9 := Lib.hid (P7.out.step hbw9)
      clear hbw9 h1 h3
      have HLL : Hid (Lies (w9.alloc (.cells #[.string V, .string (str E)] 9)) (w9.alloc (.cells #[.string V, .string (str E)] 9)).heap.size (some ⟨w9.heap.size, 0, none⟩) (strs [V, str E])) := Lib.hid (Lies.new [_, _] _ _)
      go_wp2_with (first
        | (go_at_call 14; (with_reducible refine (HSM.out (w9.alloc (.cells #[.string V, .string (str E)] 9)) (some ⟨w9.heap.size, 0, none⟩) ((HG.out.step C9.out).step (alloc_below _ _)) HLL.out).mono ?_); rintro e m1 ⟨rfl, bb⟩; have CA : Hid (Below w.heap.size w m1) := Lib.hid ((C9.out.next (alloc_below _ _)).next bb); have PA := Lib.hid ((P9.out.step (alloc_below _ _)).step bb); clear bb)
        | ((with_reducible refine PA.out.wpStoreK 31 (bytes M) fits_hash LO.out LM.out HM1.out ?_ ?_); rfl; intro m2 r2 o2 s2; have R2' := Lib.hid r2; have O2' := Lib.hid o2; clear r2 o2 s2))
      exact bodyPost_ret (R2'.out.result rfl _ _ rfl Tryd.underlying31 rfl (by rw [LM.out]; exact fits_hash.size)) rfl ⟨rfl, CA.out.trans (O2'.out.below (Nat.le_refl _) CA.out.size)⟩
  · have hTk : T = key := by rw [hT, if_neg h64]
    have h65 : (key.size : Int) ≤ 64 := by omega
    clear hg hk hl ht hr hO hD0 lD0 hT hTs hX hV lX lV hE lE hM hmac h64
    subst hTk
    go_enter Tryd.func16, Tryd.ntmps16
    go_wp2_with (first
      | ((with_reducible refine wpAllocK (w := w) (bytes O) 31 HZ.out ?_ ?_); rfl; intro u1 r1 b1 s1; have R1 := Lib.hid r1; have B1 := Lib.hid b1; clear r1 b1 s1)
      | (go_at_call 10; (with_reducible refine (sha_new_any u1).mono ?_); rintro e n1 ⟨rfl, d1, b1, s1⟩; have N1 := Lib.hid d1; have C1 : Hid (Below w.heap.size w n1) := Lib.hid (B1.out.next b1); have P1 := Lib.hid (R1.out.step b1); have Z1 : Hid (w.heap.size < u1.heap.size) := Lib.hid R1.out.lt; clear d1 b1 s1)
      | (go_at_call 26; (with_reducible refine (HA1.out n1).mono ?_); rintro e n2 ⟨rfl, b2⟩; have N2 := Lib.hid (N1.out.step b2); have C2 : Hid (Below w.heap.size w n2) := Lib.hid (C1.out.next b2); have P2 := Lib.hid (P1.out.step b2); clear b2)
      | (go_at_call 11; (with_reducible refine (write_one u1.heap.size [] X n2 (HG.out.step C2.out) (by have := Z1.out; omega) N2.out HX).mono ?_); rintro e n3 ⟨rfl, d3, o3⟩; have N3 := Lib.hid d3; have C3 : Hid (Below w.heap.size w n3) := Lib.hid (C2.out.trans (o3.below (by have := Z1.out; omega) C2.out.size)); have P3 := Lib.hid (P2.out.only o3 (by have := Z1.out; omega)); have OF3 : Hid (Off n3 u1.heap.size a (strs l)) := Lib.hid ((HR.out.below C3.out).off (by have := Z1.out; omega) C3.out.size); clear d3 o3)
      | (go_at_call 11; (with_reducible refine (write_big u1.heap.size _ a cap l n3 (HG.out.step C3.out) (by have := Z1.out; omega) N3.out HL HXL OF3.out).mono ?_); rintro e n4 ⟨rfl, d4, o4⟩; have N4 := Lib.hid d4; have C4 : Hid (Below w.heap.size w n4) := Lib.hid (C3.out.trans (o4.below (by have := Z1.out; omega) C3.out.size)); have P4 := Lib.hid (P3.out.only o4 (by have := Z1.out; omega)); clear d4 o4)
      | (go_at_call 13; (with_reducible refine (HSE.out n4 u1.heap.size (HG.out.step C4.out) N4.out).mono ?_); rintro e n5 ⟨rfl, b5⟩; have C5 : Hid (Below w.heap.size w n5) := Lib.hid (C4.out.next b5); have P5 := Lib.hid (P4.out.step b5); clear b5)
      | ((with_reducible refine wpAllocK (w := n5) (bytes O) 31 HZ.out ?_ ?_); rfl; intro n6 r6 b6 s6; have K6 := Lib.hid r6; have C6 : Hid (Below w.heap.size w n6) := Lib.hid (C5.out.next b6); have P6 := Lib.hid (P5.out.step b6); clear r6 b6 s6)
      | ((with_reducible refine K6.out.wpStoreK 31 (bytes E) fits_hash LO.out LE.out HE1.out ?_ ?_); rfl; intro n7 r7 o7 s7; have K7 := Lib.hid r7; have C7 : Hid (Below w.heap.size w n7) := Lib.hid (C6.out.trans (o7.below C5.out.size C6.out.size)); have P7 := Lib.hid (P6.out.only o7 (by have := P5.out.lt; omega)); clear r7 o7 s7))
    refine region_tail 4 [(0, 27), (1, 28), (2, 29), (3, 30)]
      (fun i => [Is (.string T), Is (.string V), Is (.slice (some ⟨n5.heap.size, 0, none⟩) 32 32), Is (.string (str E))].getD i (Is undef))
      (fun w' => Below n7.heap.size n7 w') (by kernel_rfl) (by decide) (by kernel_rfl) (by kernel_rfl) (by kernel_rfl) (by decide) (by decide) (by kernel_rfl) rfl ?monoB ((Below.refl _ _).drew) ?stepB ?finB
    case monoB =>
      intro i
      match i with
      | 0 | 1 | 2 | 3 => exact Is.monot _
      | _ + 4 => exact Is.monot _
    case stepB =>
      refine List.forall_mem_cons.2 ⟨?z0, List.forall_mem_cons.2 ⟨?z1, List.forall_mem_cons.2 ⟨?z2, List.forall_mem_cons.2 ⟨?z3, List.forall_mem_nil _⟩⟩⟩⟩
      case z1 =>
        intro u wx hg hC
        have hJ : u 0 = .string T := hC.at 0 (by kernel_rfl)
        clear hC
        refine wpOp_step rfl (fun K hK => ?_)
        simp only [puts, List.foldl]
        go_simp
        refine (HA2.out wx).mono ?_
        rintro e w' ⟨rfl, hb'⟩
        exact hK _ _ ⟨rfl, rfl, hg.next hb', hb'⟩
      case z3 =>
        intro u wx hg hC
        have hJ : u 2 = .slice (some ⟨n5.heap.size, 0, none⟩) 32 32 := hC.at 2 (by kernel_rfl)
        clear hC
        have hconv2 := conv_bytes n5.heap.size 0 32 E 32 wx LEl.out (fun j hj => by rw [Nat.zero_add, (K7.out.step hg).cell, bytes_get _ _ hj])
        refine wpOp_step rfl (fun K hK => ?_)
        simp only [puts, List.foldl]
        go_simp
        exact hK _ _ ⟨rfl, rfl, hg, Below.refl _ _⟩
      all_goals
        intro u wx hg hC
        have hc := hC _ rfl
        clear hC
        simp [Region.binds] at hc
        refine wpOp_step rfl (fun K hK => ?_)
        simp only [puts, List.foldl]
        go_simp
        refine hK _ _ ?_
        clear hK K
        refine ⟨rfl, ?_, hg, Below.refl _ _⟩
        rfl
    case finB =>
      intro u w9 hbw9 hφ
      have h1 : u 1 = .string V := hφ (1, 28) (by decide)
      have h3 : u 3 = .string (str E) := hφ (3, 30) (by decide)
      clear hφ
      simp only [puts, List.foldl]
      go_simp
      have C9 : Hid (Below w.heap.size w w9) := Lib.hid (C7.out.next hbw9)
      have P9 := Lib.hid (P7.out.step hbw9)
      clear hbw9 h1 h3
      have HLL : Hid (Lies (w9.alloc (.cells #[.string V, .string (str E)] 9)) (w9.alloc (.cells #[.string V, .string (str E)] 9)).heap.size (some ⟨w9.heap.size, 0, none⟩) (strs [V, str E])) := Lib.hid (Lies.new [_, _] _ _)
      go_wp2_with (first
        | (go_at_call 14; (with_reducible refine (HSM.out (w9.alloc (.cells #[.string V, .string (str E)] 9)) (some ⟨w9.heap.size, 0, none⟩) ((HG.out.step C9.out).step (alloc_below _ _)) HLL.out).mono ?_); rintro e m1 ⟨rfl, bb⟩; have CA : Hid (Below w.heap.size w m1) := Lib.hid ((C9.out.next (alloc_below _ _)).next bb); have PA := Lib.hid ((P9.out.step (alloc_below _ _)).step bb); clear bb)
        | ((with_reducible refine PA.out.wpStoreK 31 (bytes M) fits_hash LO.out LM.out HM1.out ?_ ?_); rfl; intro m2 r2 o2 s2; have R2' := Lib.hid r2; have O2' := Lib.hid o2; clear r2 o2 s2))
      exact bodyPost_ret (R2'.out.result rfl _ _ rfl Tryd.underlying31 rfl (by rw [LM.out]; exact fits_hash.size)) rfl ⟨rfl, CA.out.trans (O2'.out.below (Nat.le_refl _) CA.out.size)⟩

end Go.Proofs.YtmphjmbnfaimiaaDoor
