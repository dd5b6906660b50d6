/- Contracts of sha's Sum, of a digest and of texts. -/
import Derived.Test.YtmphjmbnfaimiaaDoorShaH
namespace Go.Proofs.YtmphjmbnfaimiaaDoor
open Go.RowKit ShaMath

set_option maxHeartbeats 1000000 in
theorem dsum_any (b : Nat) (l : List UInt8) (w : World) (hg : Glob w) (hd : Dg w b l) (hn : l.length < 100000000000) :
    Calls Tryd.prog 13 #[.pointer (some ⟨b, 0, none⟩)] w fun e w' => e = .returned (.agg (bytes (sha l)).toArray) ∧ Below w.heap.size w w' := by
  obtain ⟨h, r, hr, hH⟩ := hd
  obtain ⟨n, hnn⟩ : ∃ n, l.length = n := ⟨_, rfl⟩
  obtain ⟨D, hD⟩ : ∃ D, D = dig0 := ⟨_, rfl⟩
  obtain ⟨O, hO⟩ : ∃ O : List UInt8, O = List.replicate 32 0 := ⟨_, rfl⟩
  obtain ⟨S, hS⟩ : ∃ S, S = bytes (sha l) := ⟨_, rfl⟩
  obtain ⟨T, hT⟩ : ∃ T, T = str (tailL n) := ⟨_, rfl⟩
  have hTl : T.data.toList = tailL l.length := by rw [hT, str_list, hnn]
  have HZ : Hid (∀ u, (zeroValue 55).run Tryd.prog u = .ok (.agg D.toArray) u) := Lib.hid (by rw [hD]; exact zero_dig)
  have HZ2 : Hid (∀ u, (zeroValue 31).run Tryd.prog u = .ok (.agg (bytes O).toArray) u) := Lib.hid (by rw [hO]; exact zero32)
  have LD : Hid (D.length = 73) := Lib.hid (by rw [hD]; exact dig0_length)
  have LO : Hid ((bytes O).length = 32) := Lib.hid (by rw [bytes_length, hO]; simp)
  have LS : Hid (S.length = 32) := Lib.hid (by rw [hS, bytes_length, sha_length])
  have HS1 : Hid (S.all (·.oneCell') = true) := Lib.hid (by rw [hS]; exact bytes_one _)
  have LG : Hid ((dig h r n).length = 73) := Lib.hid (dig_length _ _ _ hH.eight hH.block)
  have HG1 : Hid ((dig h r n).all (·.oneCell') = true) := Lib.hid (dig_one _ _ _)
  have HLAST : Hid ((dig h r n)[72]? = some (.int .i64 (n : Int))) := Lib.hid (dig_last _ _ _ hH.eight hH.block)
  have HNT : Big (l.length + T.size < 1000000000000) := ⟨by rw [hT, str_size, tailL_length]; omega⟩
  have HTA : Hid (∀ u, Calls Tryd.prog 24 #[.int .i64 (n : Int)] u fun e u' => e = .returned (.string T) ∧ Below u.heap.size u u') := Lib.hid fun u => by rw [hT]; exact sha_tail_any n u (by omega)
  have HSHA : Hid (∀ h5 r5, Held (l ++ T.data.toList) h5 r5 → h5.length = 8 ∧ bytes (hashB h5) = S) := Lib.hid fun h5 r5 x => by
    rw [hTl] at x
    exact ⟨x.eight, by rw [(x.begun (by simp [tailL])).sha, hS]⟩
  have HDG : Hid (∀ u c, Row u c 55 (dig h r n) → Dg u c l) := Lib.hid fun u c x => ⟨h, r, by rw [hnn]; exact x, hH⟩
  have HG := Lib.hid hg
  have hs2 := hg.size
  rw [hnn] at hr
  have HR := Lib.hid hr
  clear hr
  rw [← hS]
  clear hg hH hnn hD hO hn hS hT hTl
  go_enter Tryd.func13, Tryd.ntmps13
  go_wp2_with (first
    | ((with_reducible refine wpAllocK (w := w) (bytes O) 31 HZ2.out ?_ ?_); rfl; intro u1 r1 b1 s1; have Q1 := Lib.hid r1; have B1 := Lib.hid b1; have S1 := Lib.hid s1; clear r1 b1 s1)
    | ((with_reducible refine wpAllocK (w := u1) D 55 HZ.out ?_ ?_); rfl; intro u2 r2 b2 s2; have R2 := Lib.hid r2; have B2 : Hid (Below w.heap.size w u2) := Lib.hid (B1.out.next b2); have RB := Lib.hid ((HR.out.step B1.out).step b2); have Q2 := Lib.hid (Q1.out.step b2); have Z2 : Hid (u1.heap.size ≤ u2.heap.size) := Lib.hid b2.size; clear r2 b2 s2)
    | ((with_reducible refine RB.out.wpLoadK 55 fits_dig LG.out ?_ ?_); rfl)
    | ((with_reducible refine R2.out.wpStoreK 55 (dig h r n) fits_dig LD.out LG.out HG1.out ?_ ?_); rfl; intro u3 r3 o3 s3; have D3 := Lib.hid (HDG.out u3 u1.heap.size r3); have cn : u3.cell? ⟨u1.heap.size, 72, none⟩ = some (.int .i64 (n : Int)) := (by rw [r3.cell]; exact HLAST.out); have B3 : Hid (Below w.heap.size w u3) := Lib.hid (B2.out.trans (o3.below B1.out.size B2.out.size)); have Q3 := Lib.hid (Q2.out.only o3 (by have := S1.out; omega)); clear r3 o3 s3)
    | (go_at_call 24; refine (HTA.out _).mono ?_; rintro e u4 ⟨rfl, b4⟩; have B4 : Hid (Below w.heap.size w u4) := Lib.hid (B3.out.next b4); have D4 := Lib.hid (D3.out.step b4); have Q4 := Lib.hid (Q3.out.step b4); clear b4)
    | (go_at_call 23; refine (sha_take_any u1.heap.size l _ _ (HG.out.step B4.out) (by have := B1.out.size; omega) D4.out HNT.out).mono ?_; rintro e u5 ⟨rfl, d5, o5⟩; obtain ⟨h5, r5, hr5, hH5⟩ := d5; have L5 := Lib.hid (HSHA.out h5 r5 hH5).1; have E5 := Lib.hid (HSHA.out h5 r5 hH5).2; have R5 := Lib.hid hr5; unfold dig at R5; rw [List.append_assoc, ← List.nil_append (u32s h5 ++ _), ← List.append_assoc] at R5; have LU : Hid ((u32s h5).length = 8) := Lib.hid (by rw [u32s_length]; exact L5.out); have B5 : Hid (Below w.heap.size w u5) := Lib.hid (B4.out.trans (o5.below B1.out.size B4.out.size)); have Q5 := Lib.hid (Q4.out.only o5 (by have := S1.out; omega)); clear hr5 hH5 o5)
    | ((with_reducible refine R5.out.wpLoadMidK 0 rfl 52 fits_words LU.out ?_ ?_); rfl)
    | (go_at_call 25; refine (hash_any h5 _ L5.out).mono ?_; rw [E5.out]; rintro e u6 ⟨rfl, b6⟩; have B6 : Hid (Below w.heap.size w u6) := Lib.hid (B5.out.next b6); have Q6 := Lib.hid (Q5.out.step b6); clear b6)
    | ((with_reducible refine Q6.out.wpStoreK 31 S fits_hash LO.out LS.out HS1.out ?_ ?_); rfl; intro u7 r7 o7 s7; have R7 := Lib.hid r7; have O7 := Lib.hid o7; clear r7 o7 s7))
  exact bodyPost_ret (R7.out.result rfl _ _ rfl Tryd.underlying31 rfl (by rw [LS.out]; exact fits_hash.size)) rfl ⟨rfl, B6.out.trans (O7.out.below (Nat.le_refl _) B6.out.size)⟩

set_option maxHeartbeats 1000000 in
theorem dsum_none (w : World) (hg : Glob w) :
    Calls Tryd.prog 13 #[.pointer none] w fun e w' => e = .returned (.agg (bytes (sha [])).toArray) ∧ Below w.heap.size w w' := by
  obtain ⟨h, hh⟩ : ∃ h, h = List.replicate 8 0#32 := ⟨_, rfl⟩
  obtain ⟨r, hrr⟩ : ∃ r : List UInt8, r = List.replicate 64 0 := ⟨_, rfl⟩
  obtain ⟨l, hl⟩ : ∃ l : List UInt8, l = [] := ⟨_, rfl⟩
  have hH : Held l h r := by rw [hl, hh, hrr]; exact dig0_held
  have hn : l.length < 100000000000 := by rw [hl]; show 0 < _; omega
  have HD0 : Hid (dig0 = dig h r l.length) := Lib.hid (by rw [hh, hrr, hl]; rfl)
  rw [← hl]
  clear hl hh hrr
  obtain ⟨n, hnn⟩ : ∃ n, l.length = n := ⟨_, rfl⟩
  obtain ⟨D, hD⟩ : ∃ D, D = dig0 := ⟨_, rfl⟩
  obtain ⟨O, hO⟩ : ∃ O : List UInt8, O = List.replicate 32 0 := ⟨_, rfl⟩
  obtain ⟨S, hS⟩ : ∃ S, S = bytes (sha l) := ⟨_, rfl⟩
  obtain ⟨T, hT⟩ : ∃ T, T = str (tailL n) := ⟨_, rfl⟩
  have hTl : T.data.toList = tailL l.length := by rw [hT, str_list, hnn]
  have HZ : Hid (∀ u, (zeroValue 55).run Tryd.prog u = .ok (.agg D.toArray) u) := Lib.hid (by rw [hD]; exact zero_dig)
  have HZ2 : Hid (∀ u, (zeroValue 31).run Tryd.prog u = .ok (.agg (bytes O).toArray) u) := Lib.hid (by rw [hO]; exact zero32)
  have LD : Hid (D.length = 73) := Lib.hid (by rw [hD]; exact dig0_length)
  have LO : Hid ((bytes O).length = 32) := Lib.hid (by rw [bytes_length, hO]; simp)
  have LS : Hid (S.length = 32) := Lib.hid (by rw [hS, bytes_length, sha_length])
  have HS1 : Hid (S.all (·.oneCell') = true) := Lib.hid (by rw [hS]; exact bytes_one _)
  have LG : Hid ((dig h r n).length = 73) := Lib.hid (dig_length _ _ _ hH.eight hH.block)
  have HG1 : Hid ((dig h r n).all (·.oneCell') = true) := Lib.hid (dig_one _ _ _)
  have HLAST : Hid ((dig h r n)[72]? = some (.int .i64 (n : Int))) := Lib.hid (dig_last _ _ _ hH.eight hH.block)
  have HNT : Big (l.length + T.size < 1000000000000) := ⟨by rw [hT, str_size, tailL_length]; omega⟩
  have HTA : Hid (∀ u, Calls Tryd.prog 24 #[.int .i64 (n : Int)] u fun e u' => e = .returned (.string T) ∧ Below u.heap.size u u') := Lib.hid fun u => by rw [hT]; exact sha_tail_any n u (by omega)
  have HSHA : Hid (∀ h5 r5, Held (l ++ T.data.toList) h5 r5 → h5.length = 8 ∧ bytes (hashB h5) = S) := Lib.hid fun h5 r5 x => by
    rw [hTl] at x
    exact ⟨x.eight, by rw [(x.begun (by simp [tailL])).sha, hS]⟩
  have HDG : Hid (∀ u c, Row u c 55 (dig h r n) → Dg u c l) := Lib.hid fun u c x => ⟨h, r, by rw [hnn]; exact x, hH⟩
  have HG := Lib.hid hg
  have hs2 := hg.size
  have HDD : Hid (D = dig h r n) := Lib.hid (by rw [hD, HD0.out, hnn])
  rw [← hS]
  clear hg hH hnn hD hO hn hS hT hTl
  go_enter Tryd.func13, Tryd.ntmps13
  go_wp2_with (first
    | ((with_reducible refine wpAllocK (w := w) (bytes O) 31 HZ2.out ?_ ?_); rfl; intro u1 r1 b1 s1; have Q1 := Lib.hid r1; have B1 := Lib.hid b1; have S1 := Lib.hid s1; clear r1 b1 s1)
    | ((with_reducible refine wpAllocK (w := u1) D 55 HZ.out ?_ ?_); rfl; intro u3 r2 b2 s2; have D3 := Lib.hid (HDG.out u3 u1.heap.size (by rw [← HDD.out]; exact r2)); have cn : u3.cell? ⟨u1.heap.size, 72, none⟩ = some (.int .i64 (n : Int)) := (by rw [r2.cell, HDD.out]; exact HLAST.out); have B3 : Hid (Below w.heap.size w u3) := Lib.hid (B1.out.next b2); have Q3 := Lib.hid (Q1.out.step b2); clear r2 b2 s2)
    | (go_at_call 24; refine (HTA.out _).mono ?_; rintro e u4 ⟨rfl, b4⟩; have B4 : Hid (Below w.heap.size w u4) := Lib.hid (B3.out.next b4); have D4 := Lib.hid (D3.out.step b4); have Q4 := Lib.hid (Q3.out.step b4); clear b4)
    | (go_at_call 23; refine (sha_take_any u1.heap.size l _ _ (HG.out.step B4.out) (by have := B1.out.size; omega) D4.out HNT.out).mono ?_; rintro e u5 ⟨rfl, d5, o5⟩; obtain ⟨h5, r5, hr5, hH5⟩ := d5; have L5 := Lib.hid (HSHA.out h5 r5 hH5).1; have E5 := Lib.hid (HSHA.out h5 r5 hH5).2; have R5 := Lib.hid hr5; unfold dig at R5; rw [List.append_assoc, ← List.nil_append (u32s h5 ++ _), ← List.append_assoc] at R5; have LU : Hid ((u32s h5).length = 8) := Lib.hid (by rw [u32s_length]; exact L5.out); have B5 : Hid (Below w.heap.size w u5) := Lib.hid (B4.out.trans (o5.below B1.out.size B4.out.size)); have Q5 := Lib.hid (Q4.out.only o5 (by have := S1.out; omega)); clear hr5 hH5 o5)
    | ((with_reducible refine R5.out.wpLoadMidK 0 rfl 52 fits_words LU.out ?_ ?_); rfl)
    | (go_at_call 25; refine (hash_any h5 _ L5.out).mono ?_; rw [E5.out]; rintro e u6 ⟨rfl, b6⟩; have B6 : Hid (Below w.heap.size w u6) := Lib.hid (B5.out.next b6); have Q6 := Lib.hid (Q5.out.step b6); clear b6)
    | ((with_reducible refine Q6.out.wpStoreK 31 S fits_hash LO.out LS.out HS1.out ?_ ?_); rfl; intro u7 r7 o7 s7; have R7 := Lib.hid r7; have O7 := Lib.hid o7; clear r7 o7 s7))
  exact bodyPost_ret (R7.out.result rfl _ _ rfl Tryd.underlying31 rfl (by rw [LS.out]; exact fits_hash.size)) rfl ⟨rfl, B6.out.trans (O7.out.below (Nat.le_refl _) B6.out.size)⟩

/-- Of texts that lie below the call. -/
theorem sha_sum_any (a : Option Addr) (n cap : Nat) (l : List ByteArray) (w : World) (hn : l.length = n) (hg : Glob w) (hl : n ≤ 140737488355328) (ht : (cat l).length < 100000000000) (hr : Lies w w.heap.size a (strs l)) :
    Calls Tryd.prog 14 #[.slice a n cap] w fun e w' => e = .returned (.agg (bytes (sha (cat l))).toArray) ∧ Below w.heap.size w w' := by
  subst hn
  obtain ⟨S, hS⟩ : ∃ S, S = bytes (sha (cat l)) := ⟨_, rfl⟩
  obtain ⟨O, hO⟩ : ∃ O : List UInt8, O = List.replicate 32 0 := ⟨_, rfl⟩
  have HZ2 : Hid (∀ u, (zeroValue 31).run Tryd.prog u = .ok (.agg (bytes O).toArray) u) := Lib.hid (by rw [hO]; exact zero32)
  have LO : Hid ((bytes O).length = 32) := Lib.hid (by rw [bytes_length, hO]; simp)
  have LS : Hid (S.length = 32) := Lib.hid (by rw [hS, bytes_length, sha_length])
  have HS1 : Hid (S.all (·.oneCell') = true) := Lib.hid (by rw [hS]; exact bytes_one _)
  have HSU : Hid (∀ u b, Glob u → Dg u b ([] ++ cat l) → Calls Tryd.prog 13 #[.pointer (some ⟨b, 0, none⟩)] u fun e u' => e = .returned (.agg S.toArray) ∧ Below u.heap.size u u') := Lib.hid fun u b g d => by rw [hS]; exact dsum_any b _ u g d ht
  have HT : Big (([] : List UInt8).length + (cat l).length < 1000000000000) := ⟨by show 0 + _ < _; omega⟩
  have HL : Big (l.length ≤ 140737488355328) := ⟨hl⟩
  have HG := Lib.hid hg
  have HR := Lib.hid hr
  have hs2 := hg.size
  rw [← hS]
  clear hg hl ht hr hS hO
  go_enter Tryd.func14, Tryd.ntmps14
  go_wp2_with (first
    | ((with_reducible refine wpAllocK (w := w) (bytes O) 31 HZ2.out ?_ ?_); rfl; intro u1 r1 b1 s1; have Q1 := Lib.hid r1; have B1 := Lib.hid b1; clear r1 b1 s1)
    | (go_at_call 10; refine (sha_new_any _).mono ?_; rintro e u2 ⟨rfl, d2, b2, s2⟩; have D2 := Lib.hid d2; have B2 : Hid (Below w.heap.size w u2) := Lib.hid (B1.out.next b2); have Q2 := Lib.hid (Q1.out.step b2); have OF : Hid (Off u2 u1.heap.size a (strs l)) := Lib.hid ((HR.out.below B2.out).off B1.out.size B2.out.size); clear d2 b2 s2)
    | (go_at_call 11; refine (write_any _ _ _ _ _ _ (HG.out.step B2.out) (by have := B1.out.size; omega) D2.out HL.out HT.out OF.out).mono ?_; rintro e u3 ⟨rfl, d3, o3⟩; have D3 := Lib.hid d3; have B3 : Hid (Below w.heap.size w u3) := Lib.hid (B2.out.trans (o3.below B1.out.size B2.out.size)); have Q3 := Lib.hid (Q2.out.only o3 (by have := Q1.out.lt; omega)); clear d3 o3)
    | (go_at_call 13; refine (HSU.out _ _ (HG.out.step B3.out) D3.out).mono ?_; rintro e u4 ⟨rfl, b4⟩; have B4 : Hid (Below w.heap.size w u4) := Lib.hid (B3.out.next b4); have Q4 := Lib.hid (Q3.out.step b4); clear b4)
    | ((with_reducible refine Q4.out.wpStoreK 31 S fits_hash LO.out LS.out HS1.out ?_ ?_); rfl; intro u7 r7 o7 s7; have R7 := Lib.hid r7; have O7 := Lib.hid o7; clear r7 o7 s7))
  exact bodyPost_ret (R7.out.result rfl _ _ rfl Tryd.underlying31 rfl (by rw [LS.out]; exact fits_hash.size)) rfl ⟨rfl, B4.out.trans (O7.out.below (Nat.le_refl _) B4.out.size)⟩

end Go.Proofs.YtmphjmbnfaimiaaDoor
