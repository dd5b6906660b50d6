/- The contract of poly's Add. -/
import Derived.Test.YtpkjannlndnfdaaPolyE
namespace Go.Proofs.Ytpkjannlndnfdaa
open Go.RowKit GfMath PolyMath
set_option linter.unusedVariables false

theorem u8s_zero (N : Nat) : u8s (List.replicate N 0) = List.replicate N (.int .u8 0) := by rw [u8s, List.map_replicate]; rfl
theorem hi_zero (N : Nat) : hi N (sumf []) = List.replicate N 0 := (tab_zero N).symm

set_option maxRecDepth 100000 in
set_option maxHeartbeats 1000000 in
theorem padd_any (b : Nat) (a : Option Addr) (cap : Nat) (ts : List Hd) (ls : List (List Nat)) (w : World) (hp : Polys w ts ls) (hn : ls.length ≤ 100) (hl : ∀ l ∈ ls, l.length ≤ 5000) (hr : Lies w w.heap.size a (slvs ts)) :
    Calls Try.prog 19 #[.pointer (some ⟨b, 0, none⟩), .slice a ls.length cap] w fun e w' => (∃ v, e = .returned v ∧ Reads w' v (addl ls)) ∧ Below w.heap.size w w' := by
  have HR := Lib.hid hr
  have HP := Lib.hid hp
  have HL := Lib.hid hl
  have hN := mx_le ls 5000 hl
  obtain ⟨N, hNe⟩ : ∃ N, mx ls = N := ⟨_, rfl⟩
  rw [hNe] at hN
  have HNE := Lib.hid hNe
  have HI8 : Hid ((Try.prog.info? 5).map (fun i => (i.zero, i.size, i.bytes)) = some (some (.int .u8 0), 1, 8) ∨ (Try.prog.info? 5).map (fun i => (i.zero, i.size, i.bytes)) = some (some (.int .u8 0), 1, 1)) := Lib.hid (Or.inr info_byte)
  have HLL : Hid (N ≤ N) := Lib.hid (Nat.le_refl _)
  have HLM0 : Hid (N ≤ 1099511627776) := Lib.hid (by omega)
  have HZC : Hid ((Value.int .u8 0).cells = #[.int .u8 0]) := Lib.hid rfl
  have HS1 := Lib.hid info_byte1
  have hNi : (N : Int) ≤ 5000 := by omega
  obtain ⟨g, hg⟩ : ∃ g, g = w.heap.size := ⟨_, rfl⟩
  have HG := Lib.hid hg
  clear hr hp hl hNe hg
  go_enter Try.func19, Try.ntmps19
  go_wp2
  go_loop [5, 18] (fun n i => ∃ k : Nat, k ≤ ls.length ∧ i = .int .i64 k ∧ n = .int .i64 (mx (ls.take k) : Int)) (fun _ i => ls.length - (intOf i).toNat)
  case atStart => exact ⟨0, Nat.zero_le _, rfl, rfl⟩
  case round =>
    obtain ⟨k, hk, rfl, rfl⟩ := hrel
    by_cases hlt : k < ls.length
    · have hk1 : (k : Int) < ls.length := by omega
      obtain ⟨q, c, ht, hqc, hc1, hq8, hql⟩ := HP.out.get k hlt
      have hkt : k < ts.length := by rw [HP.out.len]; exact hlt
      obtain ⟨b2, off, rfl, hbb, hcl⟩ := HR.out (by rw [slvs_length]; omega)
      have hcell : w.cell? ⟨b2, off + k, none⟩ = some (.slice q ls[k].length c) := by
        have h1 := hcl k _ (slvs_get ts k hkt)
        rw [ht] at h1
        exact h1
      have hst : mx (ls.take (k + 1)) = max (mx (ls.take k)) ls[k].length := by rw [take_snoc ls k hlt, mx_snoc]
      have hm1 := mx_le (ls.take k) 5000 fun l h => HL.out l (List.mem_of_mem_take h)
      have hm2 := HL.out ls[k] (List.getElem_mem hlt)
      obtain ⟨M, hM⟩ : ∃ M, mx (ls.take k) = M := ⟨_, rfl⟩
      obtain ⟨d, hd⟩ : ∃ d, ls[k].length = d := ⟨_, rfl⟩
      rw [hM, hd] at hst
      rw [hM] at hm1 ⊢
      rw [hd] at hm2 hcell
      by_cases hMd : M < d
      · have HS : Hid (mx (ls.take (k + 1)) = d) := Lib.hid (by rw [hst]; omega)
        have h1 : (M : Int) < d := by omega
        clear hst hM hd hcl hbb ht hqc hc1 hq8 hql
        go_wp2
        go_round
        case rel => exact ⟨k + 1, by omega, by go_num, by rw [HS.out]⟩
        case measure => simp [intOf]; omega
      · have HS : Hid (mx (ls.take (k + 1)) = M) := Lib.hid (by rw [hst]; omega)
        have h1 : (d : Int) ≤ M := by omega
        clear hst hM hd hcl hbb ht hqc hc1 hq8 hql
        go_wp2
        go_round
        case rel => exact ⟨k + 1, by omega, by go_num, by rw [HS.out]⟩
        case measure => simp [intOf]; omega
    · have ek : k = ls.length := by omega
      rw [ek, List.take_of_length_le (Nat.le_refl _), HNE.out]
      clear ek hlt
      go_wp2_with (first
        | ((with_reducible refine wpMakeK 22 5 (.int .u8 0) N N Try.underlying22 HI8.out HZC.out HLL.out HLM0.out ?_ ?_); rfl; intro w1 r1 b1 s1; have R1 := Lib.hid r1; have B1 := Lib.hid b1; clear r1 b1 s1))
      have RG : Hid (Row w1 g 5 (u8s (hi N (sumf (ls.take 0))))) := Lib.hid (by
        have h := R1.out
        rw [← HG.out] at h
        rw [List.take_zero, hi_zero, u8s_zero]
        exact h)
      rw [← HG.out]
      clear R1
      go_loopw [31] (fun i wr => ∃ k : Nat, k ≤ ls.length ∧ i = .int .i64 k ∧ Row wr g 5 (u8s (hi N (sumf (ls.take k)))) ∧ Below w.heap.size w wr) (fun i _ => ls.length - (intOf i).toNat)
      case atStart => exact ⟨0, Nat.zero_le _, rfl, RG.out, B1.out⟩
      case round =>
        clear RG B1
        obtain ⟨k, hk, rfl, hrow, hbw⟩ := hrel
        by_cases hlt : k < ls.length
        · have hk1 : (k : Int) < ls.length := by omega
          obtain ⟨q, c, ht, hqc, hc1, hq8, hql⟩ := HP.out.get k hlt
          have hkt : k < ts.length := by rw [HP.out.len]; exact hlt
          obtain ⟨b2, off, rfl, hbb, hcl⟩ := HR.out (by rw [slvs_length]; omega)
          have hcell : wr.cell? ⟨b2, off + k, none⟩ = some (.slice q ls[k].length c) := by
            have h1 := (hbw.cell (p := ⟨b2, off + k, none⟩) hbb).trans (hcl k _ (slvs_get ts k hkt))
            rw [ht] at h1
            exact h1
          have hm2 := HL.out ls[k] (List.getElem_mem hlt)
          have hmx := le_mx ls ls[k] (List.getElem_mem hlt)
          rw [HNE.out] at hmx
          have hsl := sumf_lt (ls.take k) fun l h => HP.out.by l (List.mem_of_mem_take h)
          have hfull := adj_full N (ls.take k) ls[k] hmx
          rw [← take_snoc ls k hlt] at hfull
          obtain ⟨p, hpe⟩ : ∃ p, ls[k] = p := ⟨_, rfl⟩
          rw [hpe] at hcell hqc hq8 hql hm2 hmx hfull
          obtain ⟨S, hS⟩ : ∃ S, sumf (ls.take k) = S := ⟨_, rfl⟩
          rw [hS] at hrow hsl hfull
          rw [← adj_zero N S p] at hrow
          have HFULL := Lib.hid hfull
          have HSL := Lib.hid hsl
          have HQ8 := Lib.hid hq8
          have HQL := Lib.hid hql
          have HQW : Hid (w.heap.size ≤ w.heap.size) := Lib.hid (Nat.le_refl _)
          have R0 := Lib.hid hrow
          have B0 := Lib.hid hbw
          by_cases hp0 : p.length = 0
          · have hDi : (N : Int) - (p.length : Int) = (N : Int) := by omega
            have hDN : N - N = p.length := by omega
            have hm3 : (p.length : Int) ≤ 5000 := by omega
            have hp1 : (p.length : Int) = 0 := by omega
            clear hcl hrow hbw hbb ht hc1 hq8 hql hsl hfull hpe hS
            go_wp2
            go_loopw [43] (fun i wr => i = .int .i64 0 ∧ Row wr g 5 (u8s (tab N (adj N S p p.length))) ∧ Below w.heap.size w wr) (fun i _ => p.length - (intOf i).toNat)
            case atStart => exact ⟨rfl, by rw [hp0]; exact R0.out, B0.out⟩
            case round =>
              clear R0 B0
              obtain ⟨rfl, hrow, hbw⟩ := hrel
              have HROW : Hid (Row wr g 5 (u8s (hi N (sumf (ls.take (k + 1)))))) := Lib.hid (by rw [← HFULL.out]; exact hrow)
              have HBW := Lib.hid hbw
              clear hrow hbw
              go_wp2
              go_roundw
              case rel => exact ⟨k + 1, by omega, by go_num, HROW.out, HBW.out⟩
              case measure => simp [intOf]; omega
          · obtain ⟨D, hD⟩ : ∃ D, N - p.length = D := ⟨_, rfl⟩
            have HD := Lib.hid hD
            have hND : ¬ N = D := by omega
            have hDi : (N : Int) - (p.length : Int) = (D : Int) := by omega
            have hDN : N - D = p.length := by omega
            have hDl : (D : Int) ≤ N := by omega
            have hD0 : 0 ≤ (D : Int) := by omega
            have hm3 : (p.length : Int) ≤ 5000 := by omega
            clear hcl hrow hbw hbb ht hc1 hq8 hql hsl hfull hpe hS hD
            go_wp2
            go_loopw [43] (fun i wr => ∃ j : Nat, j ≤ p.length ∧ i = .int .i64 j ∧ Row wr g 5 (u8s (tab N (adj N S p j))) ∧ Below w.heap.size w wr) (fun i _ => p.length - (intOf i).toNat)
            case atStart => exact ⟨0, Nat.zero_le _, rfl, R0.out, B0.out⟩
            case round =>
              clear R0 B0
              obtain ⟨j, hj, rfl, hrow, hbw⟩ := hrel
              by_cases hlj : j < p.length
              · have hj1 : (j : Int) < p.length := by omega
                obtain ⟨b3, off3, rfl, hbb3, hcl3⟩ := HQL.out (by rw [u8s_length]; omega)
                have hcell3 : wr.cell? ⟨b3, off3 + j, none⟩ = some (.int .u8 (sq p j : Int)) := by rw [sq_get p j hlj]; exact (hbw.cell (p := ⟨b3, off3 + j, none⟩) hbb3).trans (hcl3 j _ (u8s_get p j hlj))
                have hDj : D + j < N := by omega
                have hcp : wr.cell? ⟨g, D + j, none⟩ = some (.int .u8 (adj N S p j (D + j) : Int)) := by
                  rw [hrow.cell, u8s, List.getElem?_map, tab_get _ _ _ hDj]; rfl
                have hst := adj_step N S p j
                rw [HD.out] at hst
                have hx8 := adj_lt (N := N) HSL.out HQ8.out j (D + j)
                have hy8 := HQ8.out.sq j
                obtain ⟨x, hx⟩ : ∃ x, adj N S p j (D + j) = x := ⟨_, rfl⟩
                obtain ⟨y, hy⟩ : ∃ y, sq p j = y := ⟨_, rfl⟩
                rw [hx, hy] at hst
                rw [hx] at hcp hx8
                rw [hy] at hcell3 hy8
                have HA0 := fun (u : World) => add2 b x y 5 hx8 hy8 u
                obtain ⟨r, hr⟩ : ∃ r, x ^^^ y = r := ⟨_, rfl⟩
                rw [hr] at hst HA0
                have HA := Lib.hid HA0
                have HROW := Lib.hid hrow
                have HBW := Lib.hid hbw
                have HGB : Hid (w.heap.size ≤ g) := Lib.hid (by rw [HG.out]; exact Nat.le_refl _)
                have HLM : Hid (D + j < (u8s (tab N (adj N S p j))).length) := Lib.hid (by rw [u8s_length, tab_length]; exact hDj)
                have HVC : Hid ((Value.int .u8 (r : Int)).cells = #[.int .u8 (r : Int)]) := Lib.hid rfl
                have HVO : Hid ((Value.int .u8 (r : Int)).oneCell' = true) := Lib.hid rfl
                have HST : Hid ((u8s (tab N (adj N S p j))).set (D + j) (.int .u8 (r : Int)) = u8s (tab N (adj N S p (j + 1)))) := Lib.hid (by rw [u8s_set, hst])
                clear HA0 hrow hbw hst hx hy hr hcl3 hbb3 hx8 hy8
                go_wp2_with (first
                  | (go_at_call 18; (with_reducible refine (HA.out wr).mono ?_); rintro e w1 ⟨rfl, b1⟩; have B1 := Lib.hid b1; have R1 := Lib.hid (HROW.out.step b1); clear b1)
                  | ((with_reducible refine R1.out.wpStore1K (D + j) 5 (.int .u8 (r : Int)) HS1.out HLM.out HVC.out HVO.out ?_ ?_); rfl; intro w2 r2 o2 s2; have R2 := Lib.hid r2; have O2 := Lib.hid o2; clear r2 o2 s2))
                go_roundw
                case rel => exact ⟨j + 1, by omega, by go_num, by have h := R2.out; rw [HST.out] at h; exact h, (HBW.out.next B1.out).trans (O2.out.below HGB.out (HBW.out.next B1.out).size)⟩
                case measure => simp [intOf]; omega
              · have ej : j = p.length := by omega
                have HROW : Hid (Row wr g 5 (u8s (hi N (sumf (ls.take (k + 1)))))) := Lib.hid (by rw [← HFULL.out, ← ej]; exact hrow)
                have HBW := Lib.hid hbw
                clear hrow hbw ej
                go_wp2
                go_roundw
                case rel => exact ⟨k + 1, by omega, by go_num, HROW.out, HBW.out⟩
                case measure => simp [intOf]; omega
        · have ek : k = ls.length := by omega
          rw [ek, List.take_of_length_le (Nat.le_refl _)] at hrow
          obtain ⟨T, hT⟩ : ∃ T, hi N (sumf ls) = T := ⟨_, rfl⟩
          have hTl : T.length = N := by rw [← hT, hi_length]
          rw [hT] at hrow
          have HBE : Hid (Calls Try.prog 23 #[.slice (some ⟨g, 0, none⟩) N N] wr fun e w' => (∃ v, e = .returned v ∧ Reads w' v (addl ls)) ∧ wr = w') := Lib.hid (by
            have h := behind_any (some ⟨g, 0, none⟩) N T wr (by omega) (by omega) (row_lies hrow)
            rw [hTl] at h
            exact h.mono fun e w' ⟨⟨v, h1, h2⟩, h3⟩ => ⟨⟨v, h1, by rw [addl, HNE.out, hT, ← h3]; exact h2⟩, h3⟩)
          have HBW := Lib.hid hbw
          clear hrow hbw ek hT hTl
          go_wp2_with (go_at_call 23; (with_reducible refine HBE.out.mono ?_); rintro e w2 ⟨⟨v, rfl, hv⟩, rfl⟩; have HV := Lib.hid hv; clear hv)
          go_ret
          exact ⟨⟨_, rfl, HV.out⟩, HBW.out⟩

end Go.Proofs.Ytpkjannlndnfdaa
