/- Contract of sha's mix. -/
import Derived.Test.YtmphjmbnfaimiaaDoorShaC
namespace Go.Proofs.YtmphjmbnfaimiaaDoor
open Go.RowKit ShaMath

theorem zero64 : ∀ u, (zeroValue 64).run Tryd.prog u = .ok (.agg (u32s (List.replicate 64 0#32)).toArray) u := fun u => by kernel_rfl
theorem zero8 : ∀ u, (zeroValue 52).run Tryd.prog u = .ok (.agg (u32s (List.replicate 8 0#32)).toArray) u := fun u => by kernel_rfl
theorem u32s_one (l : List W) : (u32s l).all (·.oneCell') = true := by simp [u32s, Value.oneCell']
theorem bytes_one (l : List UInt8) : (bytes l).all (·.oneCell') = true := by simp [bytes, Value.oneCell']

set_option maxHeartbeats 2000000 in
theorem mix_any (b : Nat) (h : List W) (r : List Value) (k : List UInt8) (w : World) (hg : Glob w) (hb2 : 2 ≤ b) (hr : Row w b 55 (u32s h ++ r)) (hh : h.length = 8) (hk : k.length = 64) :
    Calls Tryd.prog 30 #[.pointer (some ⟨b, 0, none⟩), .agg (bytes k).toArray] w fun e w' => e = .returned (.tuple #[]) ∧ Row w' b 55 (u32s (mixed h k) ++ r) ∧ Only b w w' := by
  obtain ⟨K, hK⟩ : ∃ K, K = bytes k := ⟨_, rfl⟩
  obtain ⟨sp, hsp⟩ : ∃ sp, sp = spr k := ⟨_, rfl⟩
  have hmx : mixed h k = addK h (trns sp h 64) 8 := by rw [hsp, mixed]
  have lsp : sp.length = 64 := by rw [hsp, spr_length]
  obtain ⟨S, hS⟩ : ∃ S, S = u32s sp := ⟨_, rfl⟩
  obtain ⟨Z, hZ⟩ : ∃ Z, Z = u32s (List.replicate 64 0#32) := ⟨_, rfl⟩
  obtain ⟨Z8, hZ8⟩ : ∃ Z, Z = u32s (List.replicate 8 0#32) := ⟨_, rfl⟩
  obtain ⟨H, hH⟩ : ∃ H, H = u32s h := ⟨_, rfl⟩
  have HZ64 : Hid (∀ u, (zeroValue 64).run Tryd.prog u = .ok (.agg Z.toArray) u) := Lib.hid (by rw [hZ]; exact zero64)
  have HZ8 : Hid (∀ u, (zeroValue 52).run Tryd.prog u = .ok (.agg Z8.toArray) u) := Lib.hid (by rw [hZ8]; exact zero8)
  have HSP : Hid (∀ u, Calls Tryd.prog 32 #[.agg K.toArray] u fun e u' => e = .returned (.agg S.toArray) ∧ Below u.heap.size u u') := Lib.hid fun u => by rw [hK, hS, hsp]; exact spread_any k u hk
  have lS : S.length = 64 := by rw [hS, u32s_length, lsp]
  have lZ : Z.length = 64 := by rw [hZ, u32s_length]; simp
  have lZ8 : Z8.length = 8 := by rw [hZ8, u32s_length]; simp
  have lH : H.length = 8 := by rw [hH, u32s_length, hh]
  have lK : K.length = 64 := by rw [hK, bytes_length, hk]
  have FK : Fits Tryd.prog 53 64 := ⟨⟨_, Tryd.underlying53, rfl⟩, by kernel_rfl⟩
  have FS : Fits Tryd.prog 64 64 := ⟨⟨_, Tryd.underlying64, rfl⟩, by kernel_rfl⟩
  have FH : Fits Tryd.prog 52 8 := ⟨⟨_, Tryd.underlying52, rfl⟩, by kernel_rfl⟩
  have LS := Lib.hid lS
  have LZ := Lib.hid lZ
  have LZ8 := Lib.hid lZ8
  have LH := Lib.hid lH
  have LK := Lib.hid lK
  have HS1 : Hid (S.all (·.oneCell') = true) := Lib.hid (by rw [hS]; exact u32s_one _)
  have HH1 : Hid (H.all (·.oneCell') = true) := Lib.hid (by rw [hH]; exact u32s_one _)
  have HG := Lib.hid hg
  have HR : Hid (Row w b 55 ([] ++ H ++ r)) := Lib.hid (by rw [hH]; exact hr)
  have HbB := Lib.hid hr.lt
  rw [← hK]
  have HK := Lib.hid hK
  have HS := Lib.hid hS
  have HH := Lib.hid hH
  have Hh := Lib.hid hh
  have Hk := Lib.hid hk
  have HMX := Lib.hid hmx
  have Lsp := Lib.hid lsp
  clear hg hr hK hS hZ hZ8 hH lS lZ lZ8 lH lK hh hk hsp hmx lsp
  go_enter Tryd.func30, Tryd.ntmps30
  go_wp2_with (first
    | ((with_reducible refine wpBoxK K 53 ?_ ?_); rfl; intro u0 r0 b0 s0; have R0 := Lib.hid r0; have B0 := Lib.hid b0; have S0 := Lib.hid s0; clear r0 b0 s0)
    | ((with_reducible refine R0.out.wpLoadK 53 FK LK.out ?_ ?_); rfl)
    | (go_at_call 32; refine (HSP.out _).mono ?_; rintro e u1 ⟨rfl, b1⟩; have B1 := Lib.hid b1; clear b1)
    | ((with_reducible refine wpAllocK Z 64 HZ64.out ?_ ?_); rfl; intro u2 r2 b2 s2; have R2 := Lib.hid r2; have B2 := Lib.hid b2; have S2 := Lib.hid s2; clear r2 b2 s2)
    | ((with_reducible refine R2.out.wpStoreK 64 S FS LZ.out LS.out HS1.out ?_ ?_); rfl; intro u3 r3 o3 s3; have R3 := Lib.hid r3; have RB3 : Hid (Row u3 b 55 ([] ++ H ++ r)) := Lib.hid ((((HR.out.step B0.out).step B1.out).step B2.out).only o3 (by have := HbB.out; have := B0.out.size; have := B1.out.size; omega)); have O3 := Lib.hid o3; have S3 := Lib.hid s3; clear r3 o3 s3)
    | ((with_reducible refine RB3.out.wpLoadMidK 0 rfl 52 FH LH.out ?_ ?_); rfl)
    | ((with_reducible refine wpAllocK Z8 52 HZ8.out ?_ ?_); rfl; intro u4 r4 b4 s4; have R4 := Lib.hid r4; have B4 := Lib.hid b4; have S4 := Lib.hid s4; clear r4 b4 s4)
    | ((with_reducible refine R4.out.wpStoreK 52 H FH LZ8.out LH.out HH1.out ?_ ?_); rfl; intro u5 r5 o5 s5; have R5 := Lib.hid r5; have O5 := Lib.hid o5; have S5 := Lib.hid s5; clear r5 o5 s5))
  have z01 : w.heap.size < u1.heap.size := by have := S0.out; have := B1.out.size; omega
  have z13 : u1.heap.size < u3.heap.size := by have := S2.out; have := S3.out; omega
  have z35 : u3.heap.size < u5.heap.size := by have := S4.out; have := S5.out; omega
  have hbw := HbB.out
  have o3 := O3.out
  have o5 := O5.out
  have hB5 : Below w.heap.size w u5 := ((((B0.out.next B1.out).next B2.out).trans (o3.below (by omega) (by have := B2.out.size; omega))).next B4.out).trans (o5.below (by omega) (by have := B4.out.size; omega))
  have hr5 : Row u5 b 55 (H ++ r) := ((show Row u3 b 55 (H ++ r) from RB3.out).step B4.out).only o5 (by omega)
  have hs5 : Row u5 u1.heap.size 64 S := (R3.out.step B4.out).only o5 (by omega)
  have hv5 := R5.out
  have hg5 : Glob u5 := HG.out.step hB5
  have hZ5 : u3.heap.size < u5.heap.size := z35
  rw [HH.out] at hr5 hv5
  rw [HS.out] at hs5
  have A1 := Lib.hid hB5
  have A2 := Lib.hid hr5
  have A3 := Lib.hid hs5
  have A4 := Lib.hid hv5
  have A5 := Lib.hid hg5
  clear R0 B0 S0 B1 R2 B2 S2 R3 RB3 O3 S3 R4 B4 S4 R5 O5 S5 hB5 hr5 hs5 hv5 hg5 hZ5 o3 o5 HSP HZ64 HZ8 HS1 HH1 LS LZ LZ8 LH LK HR HK HS HH FK FS
  obtain ⟨M, hM⟩ : ∃ M, M = u1.heap.size := ⟨_, rfl⟩
  obtain ⟨N, hN⟩ : ∃ N, N = u3.heap.size := ⟨_, rfl⟩
  rw [← hM] at A3 z01 z13 ⊢
  rw [← hN] at A4 z13 z35 ⊢
  clear hM hN
  go_loopw [13] (fun i wr => ∃ t : Nat, t ≤ 64 ∧ i = .int .i64 t ∧ Row wr b 55 (u32s h ++ r) ∧ Row wr M 64 (u32s sp) ∧ Row wr N 52 (u32s (trns sp h t)) ∧ Glob wr ∧ Below w.heap.size w wr) (fun i _ => 64 - (intOf i).toNat)
  case atStart => exact ⟨0, by omega, rfl, A2.out, A3.out, A4.out, A5.out, A1.out⟩
  case round =>
    clear A1 A2 A3 A4 A5
    obtain ⟨t, ht, rfl, hrb, hrm, hrn, hgl, hbel⟩ := hrel
    have hlS := Lsp.out
    have hlT := trns_length sp h t
    rw [Hh.out] at hlT
    by_cases hlt : t < 64
    · have hst : trns sp h (t + 1) = trn (trns sp h t) (roots.getD t 0 + sp.getD t 0) := by rw [trns]
      generalize hs : trns sp h t = s at hrn hst hlT
      match s, hlT with
      | [c0, c1, c2, c3, c4, c5, c6, c7], _ =>
      obtain ⟨y, hy⟩ : ∃ y, sp[t]'(by omega) = y := ⟨_, rfl⟩
      obtain ⟨z, hz⟩ : ∃ z, roots[t]'(by rw [roots_length]; exact hlt) = z := ⟨_, rfl⟩
      rw [List.getD_eq_getElem?_getD, List.getD_eq_getElem?_getD, List.getElem?_eq_getElem (by rw [roots_length]; exact hlt), List.getElem?_eq_getElem (by omega), hy, hz] at hst
      have cy : wr.cell? ⟨M, t, none⟩ = some (.int .u32 (tI y)) := by rw [hrm.cell, u32s_get _ _ (by omega), hy]
      have cz : wr.cell? ⟨1, t, none⟩ = some (.int .u32 (tI z)) := by rw [hgl.roots t (by rw [roots_length]; exact hlt), hz]
      have v0 : wr.cell? ⟨N, 0, none⟩ = some (.int .u32 (tI c0)) := by rw [hrn.cell]; rfl
      have v1 : wr.cell? ⟨N, 1, none⟩ = some (.int .u32 (tI c1)) := by rw [hrn.cell]; rfl
      have v2 : wr.cell? ⟨N, 2, none⟩ = some (.int .u32 (tI c2)) := by rw [hrn.cell]; rfl
      have v3 : wr.cell? ⟨N, 3, none⟩ = some (.int .u32 (tI c3)) := by rw [hrn.cell]; rfl
      have v4 : wr.cell? ⟨N, 4, none⟩ = some (.int .u32 (tI c4)) := by rw [hrn.cell]; rfl
      have v5 : wr.cell? ⟨N, 5, none⟩ = some (.int .u32 (tI c5)) := by rw [hrn.cell]; rfl
      have v6 : wr.cell? ⟨N, 6, none⟩ = some (.int .u32 (tI c6)) := by rw [hrn.cell]; rfl
      have v7 : wr.cell? ⟨N, 7, none⟩ = some (.int .u32 (tI c7)) := by rw [hrn.cell]; rfl
      obtain ⟨T, hT⟩ : ∃ T, T = u32s (trn [c0, c1, c2, c3, c4, c5, c6, c7] (z + y)) := ⟨_, rfl⟩
      have LT : Hid (T.length = 8) := Lib.hid (by rw [hT, u32s_length, trn_length]; rfl)
      have LN : Hid ((u32s [c0, c1, c2, c3, c4, c5, c6, c7]).length = 8) := Lib.hid rfl
      have HT1 : Hid (T.all (·.oneCell') = true) := Lib.hid (by rw [hT]; exact u32s_one _)
      have HTN : Hid (u32s (trns sp h (t + 1)) = T) := Lib.hid (by rw [hst, hT]; rfl)
      have HRB := Lib.hid hrb
      have HRM := Lib.hid hrm
      have HRN := Lib.hid hrn
      have HGL := Lib.hid hgl
      have HBE := Lib.hid hbel
      have HTU : Hid (∀ u, Calls Tryd.prog 33 #[.agg #[.int .u32 (tI c0), .int .u32 (tI c1), .int .u32 (tI c2), .int .u32 (tI c3), .int .u32 (tI c4), .int .u32 (tI c5), .int .u32 (tI c6), .int .u32 (tI c7)], .int .u32 (tI (z + y))] u fun e u' => e = .returned (.agg T.toArray) ∧ Below u.heap.size u u') := Lib.hid fun u => by rw [hT]; exact turn_any _ _ _ _ _ _ _ _ _ u
      have rp := w_add
      have rm := w_mod
      have ht1 : (t : Int) < 64 := by omega
      have ht0 : 0 ≤ (t : Int) := by omega
      clear hst hs hy hz hT hrb hrm hrn hgl hbel hlS
      go_wp2
      go_still_tail 8, (by kernel_rfl)
      change wpList _ _ _ _ _ wr.drew
      have D1 := Lib.hid HRB.out.drew
      have D2 := Lib.hid HRM.out.drew
      have D3 := Lib.hid HRN.out.drew
      have D4 := Lib.hid (HGL.out.step (Below.refl _ _).drew)
      have D5 := Lib.hid HBE.out.drew
      clear HRB HRM HRN HGL HBE
      generalize wr.drew = wq at *
      go_wp2_with (first
        | (go_at_call 33; refine (HTU.out _).mono ?_; rintro e u6 ⟨rfl, b6⟩; have B6 := Lib.hid b6; have R6 := Lib.hid (D3.out.step b6); clear b6)
        | ((with_reducible refine R6.out.wpStoreK 52 T FH LN.out LT.out HT1.out ?_ ?_); rfl; intro u7 r7 o7 s7; have R7 := Lib.hid r7; have O7 := Lib.hid o7; clear r7 o7 s7))
      go_roundw
      case rel =>
        have hz6 := B6.out.size
        have hz5 := D5.out.size
        refine ⟨t + 1, by omega, by go_num, (D1.out.step B6.out).only O7.out (by omega), (D2.out.step B6.out).only O7.out (by omega), by rw [HTN.out]; exact R7.out, (D4.out.step B6.out).only O7.out (by have := HG.out.size; omega), (D5.out.next B6.out).trans (O7.out.below (by omega) (by omega))⟩
      case measure => simp [intOf]; omega
    · have et : t = 64 := by omega
      rw [et] at hrn
      obtain ⟨V, hV⟩ : ∃ V, V = trns sp h 64 := ⟨_, rfl⟩
      have hlV : V.length = 8 := by rw [hV, trns_length, Hh.out]
      rw [← hV] at hrn
      have HMX2 : Hid (mixed h k = addK h V 8) := Lib.hid (by rw [hV]; exact HMX.out)
      have HRB := Lib.hid hrb
      have HRN := Lib.hid hrn
      have HO : Hid (Only b w wr) := Lib.hid (Only.of_below hbel)
      have LV := Lib.hid hlV
      have hlt2 : 64 ≤ (t : Int) := by omega
      have hzN : N < wr.heap.size := hrn.lt
      clear hrb hrm hrn hgl hbel et hV hlV hlS hlT HMX
      go_wp2
      go_loopw [26] (fun i wr => ∃ j : Nat, j ≤ 8 ∧ i = .int .i64 j ∧ Row wr b 55 (u32s (addK h V j) ++ r) ∧ Row wr N 52 (u32s V) ∧ Only b w wr) (fun i _ => 8 - (intOf i).toNat)
      case atStart => exact ⟨0, by omega, rfl, by rw [addK_zero]; exact HRB.out, HRN.out, HO.out⟩
      case round =>
        clear HRB HRN HO
        obtain ⟨j, hj, rfl, hrb, hrn, ho⟩ := hrel
        by_cases hlt3 : j < 8
        · have hjh : j < h.length := by rw [Hh.out]; exact hlt3
          have hjV : j < V.length := by rw [LV.out]; exact hlt3
          have hhV : h.length = V.length := by rw [Hh.out, LV.out]
          have hlA := addK_length h V j hhV
          have hst := addK_step h V j hhV hjh
          have hget := addK_get h V j hhV hjh
          obtain ⟨x, hx⟩ : ∃ x, h[j] = x := ⟨_, rfl⟩
          obtain ⟨y, hy⟩ : ∃ y, V[j] = y := ⟨_, rfl⟩
          have cx : wr.cell? ⟨b, j, none⟩ = some (.int .u32 (tI x)) := by
            rw [hrb.cell, List.getElem?_append_left (by rw [u32s_length, hlA]; exact hjh), u32s_get _ _ (by rw [hlA]; exact hjh), hget, hx]
          have cy : wr.cell? ⟨N, j, none⟩ = some (.int .u32 (tI y)) := by rw [hrn.cell, u32s_get _ _ hjV, hy]
          have hf := hrb.frozen j
          have hset := hrb.set j (.int .u32 (tI (x + y)))
          rw [List.set_append_left _ _ (by rw [u32s_length, hlA]; exact hjh), u32s_set, ← hx, ← hy, ← hst, hx, hy] at hset
          have HSET := Lib.hid hset
          have HRN := Lib.hid (hrn.far ⟨b, j, none⟩ (.int .u32 (tI (x + y))) (by show N ≠ b; omega))
          have HO := Lib.hid (ho.setCell ⟨b, j, none⟩ (.int .u32 (tI (x + y))) (Or.inl rfl))
          have rp := w_add
          have rm := w_mod
          have hj1 : (j : Int) < 8 := by omega
          have hj0 : 0 ≤ (j : Int) := by omega
          clear hrb hrn ho hlA hst hget hx hy hset hjh hjV hhV
          go_wp2
          go_still_tail 11, (by kernel_rfl)
          change wpList _ _ _ _ _ wr.drew
          go_wp2
          go_roundw
          case rel => exact ⟨j + 1, by omega, by go_num, HSET.out.drew, HRN.out.drew, HO.out.drew⟩
          case measure => simp [intOf]; omega
        · have ej : j = 8 := by omega
          rw [ej, ← HMX2.out] at hrb
          have HRB := Lib.hid hrb
          have HO := Lib.hid ho
          clear hrb hrn ho ej
          go_wp2
          go_end0
          exact ⟨rfl, HRB.out, HO.out⟩

end Go.Proofs.YtmphjmbnfaimiaaDoor
