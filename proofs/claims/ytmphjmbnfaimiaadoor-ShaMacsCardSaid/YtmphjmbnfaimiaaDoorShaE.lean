/- Contracts of sha's hash, against, tail. -/
import Derived.Test.YtmphjmbnfaimiaaDoorShaD
import Derived.Test.YtmphjmbnfaimiaaDoorSlice
import Derived.Test.YtmphjmbnfaimiaaDoorNumMath
namespace Go.Proofs.YtmphjmbnfaimiaaDoor
open Go.RowKit ShaMath

theorem zero32 : ∀ u, (zeroValue 31).run Tryd.prog u = .ok (.agg (bytes (List.replicate 32 0)).toArray) u := fun u => by kernel_rfl
theorem zeroB64 : ∀ u, (zeroValue 53).run Tryd.prog u = .ok (.agg (bytes (List.replicate 64 0)).toArray) u := fun u => by kernel_rfl
theorem fits_hash : Fits Tryd.prog 31 32 := ⟨⟨_, Tryd.underlying31, rfl⟩, by kernel_rfl⟩
theorem fits_words : Fits Tryd.prog 52 8 := ⟨⟨_, Tryd.underlying52, rfl⟩, by kernel_rfl⟩
theorem sha_one_byte : One Tryd.prog 5 := One.of (by kernel_rfl)

theorem hash_byte (x : W) (s : Nat) : (tI x / 2 ^ s) % 256 = ((UInt8.ofNat ((x >>> s).toNat % 256)).toNat : Int) := by
  have h := NumMath.toNat_mod (x >>> s).toNat
  rw [h, BitVec.toNat_ushiftRight, Nat.shiftRight_eq_div_pow]
  unfold tI
  simp

set_option maxHeartbeats 1000000 in
theorem hash_any (h : List W) (w : World) (hh : h.length = 8) :
    Calls Tryd.prog 25 #[.agg (u32s h).toArray] w fun e w' => e = .returned (.agg (bytes (hashB h)).toArray) ∧ Below w.heap.size w w' := by
  obtain ⟨D, hD⟩ : ∃ D, D = hashB h := ⟨_, rfl⟩
  obtain ⟨O, hO⟩ : ∃ O : List UInt8, O = List.replicate 32 0 := ⟨_, rfl⟩
  obtain ⟨H, hH⟩ : ∃ H, H = u32s h := ⟨_, rfl⟩
  have lD : D.length = 32 := by rw [hD, hashB_length]
  have lO : O.length = 32 := by rw [hO]; simp
  have hget : ∀ (i : Nat) (x : W), i < 32 → h[i / 4]? = some x → D[i]? = some (UInt8.ofNat ((x >>> (24 - 8 * (i % 4))).toNat % 256)) := by
    intro i x hi hx
    subst hD
    rw [hashB, List.getElem?_map, List.getElem?_eq_getElem (by simpa using hi), List.getElem_range, Option.map_some, List.getD_eq_getElem?_getD, hx]
    rfl
  have HZ : Hid (∀ u, (zeroValue 31).run Tryd.prog u = .ok (.agg (bytes O).toArray) u) := Lib.hid (by rw [hO]; exact zero32)
  have F31 := fits_hash
  have LbO : Hid ((bytes O).length = 32) := Lib.hid (by rw [bytes_length, lO])
  have LbD : Hid ((bytes D).length = 32) := Lib.hid (by rw [bytes_length, lD])
  have H1 : Hid ((bytes D).all (·.oneCell') = true) := Lib.hid (bytes_one _)
  rw [← hH, ← hD]
  have HGET := Lib.hid hget
  have HD := Lib.hid hD
  have HH := Lib.hid hH
  have LH := Lib.hid hh
  have LD := Lib.hid lD
  have LO := Lib.hid lO
  clear hD hO hH lD lO hget hh
  go_enter Tryd.func25, Tryd.ntmps25
  go_wp2_with (first
    | ((with_reducible refine wpBoxK H 52 ?_ ?_); rfl; intro u0 r0 b0 s0; have R0 := Lib.hid r0; have B0 := Lib.hid b0; have S0 := Lib.hid s0; clear r0 b0 s0)
    | ((with_reducible refine wpAllocK (w := u0) (bytes O) 31 HZ.out ?_ ?_); rfl; intro u1 r1 b1 s1; have R1 := Lib.hid r1; have B1 := Lib.hid b1; have S1 := Lib.hid s1; clear r1 b1 s1)
    | ((with_reducible refine wpAllocK (w := u1) (bytes O) 31 HZ.out ?_ ?_); rfl; intro u2 r2 b2 s2; have R2 := Lib.hid r2; have B2 := Lib.hid b2; have S2 := Lib.hid s2; clear r2 b2 s2))
  have z0 := S0.out
  have z1 := S1.out
  have z2 := S2.out
  obtain ⟨M, hM⟩ : ∃ M, M = u0.heap.size := ⟨_, rfl⟩
  obtain ⟨N, hN⟩ : ∃ N, N = u1.heap.size := ⟨_, rfl⟩
  have hr0 := (R0.out.step B1.out).step B2.out
  have hr1 := R1.out.step B2.out
  have hr2 := R2.out
  have hbb := (B0.out.next B1.out).next B2.out
  rw [HH.out] at hr0
  rw [← hM] at hr1 ⊢
  rw [← hN] at hr2 ⊢
  have hz1 : w.heap.size < M := by omega
  have hz2 : M < N := by omega
  have A0 := Lib.hid hr0
  have A1 := Lib.hid hr1
  have A2 := Lib.hid hr2
  have AB := Lib.hid hbb
  clear R0 B0 S0 R1 B1 S1 R2 B2 S2 hr0 hr1 hr2 hbb hM hN z0 z1 z2 HH HZ
  go_wp2
  go_loopw [5] (fun i wr => ∃ k : Nat, k ≤ 32 ∧ i = .int .i64 k ∧ Row wr w.heap.size 52 (u32s h) ∧ Row wr M 31 (bytes O) ∧ Row wr N 31 (bytes (over D O k)) ∧ Below w.heap.size w wr) (fun i _ => 32 - (intOf i).toNat)
  case atStart => exact ⟨0, by omega, rfl, A0.out, A1.out, by rw [over_zero]; exact A2.out, AB.out⟩
  case round =>
    clear A0 A1 A2 AB
    obtain ⟨k, hk, rfl, hr0, hr1, hr2, hbw⟩ := hrel
    by_cases hlt : k < 32
    · obtain ⟨q, hq⟩ : ∃ q, k / 4 = q := ⟨_, rfl⟩
      obtain ⟨m, hm⟩ : ∃ m, k % 4 = m := ⟨_, rfl⟩
      obtain ⟨s, hs⟩ : ∃ s, 24 - 8 * m = s := ⟨_, rfl⟩
      have hqh : q < h.length := by rw [LH.out]; omega
      obtain ⟨x, hx⟩ : ∃ x, h[q] = x := ⟨_, rfl⟩
      have hd := HGET.out k x hlt (by rw [hq, List.getElem?_eq_getElem hqh, hx])
      rw [hm, hs] at hd
      have hkD : k < D.length := by rw [LD.out]; exact hlt
      rw [List.getElem?_eq_getElem hkD] at hd
      have hd2 := Option.some.inj hd
      have hhb := hash_byte x s
      rw [← hd2] at hhb
      obtain ⟨c, hc⟩ : ∃ c, D[k] = c := ⟨_, rfl⟩
      rw [hc] at hhb
      have hcell : wr.cell? ⟨w.heap.size, q, none⟩ = some (.int .u32 (tI x)) := by rw [hr0.cell, u32s_get _ _ hqh, hx]
      obtain ⟨u, hu⟩ : ∃ u, wr.cell? ⟨N, k, none⟩ = some u := ⟨_, by rw [hr2.cell, bytes_get _ _ (by rw [over_length _ _ _ (by rw [LD.out, LO.out]), LO.out]; exact hlt)]⟩
      have hf := hr2.frozen k
      have hset := hr2.set k (.int .u8 (c.toNat : Int))
      rw [bytes_set, ← hc, over_step D O k (by rw [LD.out, LO.out]) hkD, hc] at hset
      have HSET := Lib.hid hset
      have H0 := Lib.hid (hr0.far ⟨N, k, none⟩ (.int .u8 (c.toNat : Int)) (by show w.heap.size ≠ N; omega))
      have H1' := Lib.hid (hr1.far ⟨N, k, none⟩ (.int .u8 (c.toNat : Int)) (by show M ≠ N; omega))
      have HB := Lib.hid (hbw.setCell (p := ⟨N, k, none⟩) (by show w.heap.size ≤ N; omega) (.int .u8 (c.toNat : Int)))
      have e1 : (k : Int) / 4 = (q : Int) := by omega
      have e2 : (k : Int) % 4 = (m : Int) := by omega
      have e3 : 24 - 8 * (m : Int) = (s : Int) := by omega
      have hm4 : (m : Int) < 4 := by omega
      have hs4 : (s : Int) < 32 := by omega
      have hq4 : (q : Int) < 8 := by omega
      have hq5 : q < 8 := by omega
      have hk1 : (k : Int) < 32 := by omega
      clear hr0 hr1 hr2 hbw hd hd2 hc hset hx hqh hkD hq hm hs
      go_wp2
      go_roundw
      case rel => exact ⟨k + 1, by omega, by go_num, H0.out, H1'.out, HSET.out, HB.out⟩
      case measure => simp [intOf]; omega
    · have ek : k = 32 := by omega
      rw [ek, over_full D O 32 (by rw [LD.out]; omega) (by rw [LO.out]; omega)] at hr2
      have R1 := Lib.hid hr1
      have R2 := Lib.hid hr2
      have HB := Lib.hid hbw
      clear hr0 hr1 hr2 hbw ek
      go_wp2_with (first
        | ((with_reducible refine R2.out.wpLoadK 31 F31 LbD.out ?_ ?_); rfl)
        | ((with_reducible refine R1.out.wpStoreK 31 (bytes D) F31 LbO.out LbD.out H1.out ?_ ?_); rfl; intro u3 r3 o3 s3; have R3 := Lib.hid r3; have O3 := Lib.hid o3; clear r3 o3 s3))
      refine bodyPost_ret (R3.out.result rfl _ _ rfl Tryd.underlying31 rfl (by rw [LbD.out]; exact F31.size)) rfl ⟨rfl, HB.out.trans (O3.out.below (by omega) HB.out.size)⟩

end Go.Proofs.YtmphjmbnfaimiaaDoor
