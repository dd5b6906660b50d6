/- The texts B3, one behind the other: what the claim wants of them. -/
import Derived.Test.YtnbjaijhdjneoaaGreatP2
namespace Go.Proofs.YtnbjaijhdjneoaaGreat
open Go.RowKit GfMath PolyMath
set_option linter.unusedVariables false

theorem Polz.by {w : World} {ts : List Hd} {ls : List (List Nat)} (h : Polz w ts ls) : ∀ l ∈ ls, By l := by
  intro l hl
  obtain ⟨i, hi, rfl⟩ := List.mem_iff_getElem.1 hl
  exact (h.at_ i (by rw [h.len]; exact hi) hi).2.2.1

set_option maxHeartbeats 1000000 in
theorem pmulz_any (b : Nat) (a : Option Addr) (cap : Nat) (ts : List Hd) (ls : List (List Nat)) (w : World) (hf : Fld w b) (hp : Polz w ts ls) (hn : ls.length ≤ 100) (hl : ∀ l ∈ ls, l.length ≤ 5000) (hr : Lies w w.heap.size a (slvs ts)) :
    Calls Tryz.prog 104 #[.pointer (some ⟨b, 0, none⟩), .slice a ls.length cap] w fun e w' => (∃ v, e = .returned v ∧ Reads w' v (pms ls)) ∧ Below w.heap.size w w' := by
  have HF := Lib.hid hf
  have HR := Lib.hid hr
  have HP := Lib.hid hp
  have HL := Lib.hid hl
  have HN : Hid (ls.length ≤ 100) := Lib.hid hn
  have H0 : Hid (Reads (w.alloc (.cells #[.int .u8 1] 5)) (.slice (some ⟨w.heap.size, 0, none⟩) 1 1) (pms [])) := Lib.hid ⟨_, 1, rfl, by decide, Lies.new [.int .u8 1] w _⟩
  clear hf hr hp hl
  go_enter Tryz.func104, Tryz.ntmps104
  go_wp2
  go_loopw [5, 13] (fun p i wr => ∃ k : Nat, k ≤ ls.length ∧ i = .int .i64 k ∧ Reads wr p (pms (ls.take k)) ∧ Below w.heap.size w wr) (fun _ i _ => ls.length - (intOf i).toNat)
  case atStart => exact ⟨0, Nat.zero_le _, rfl, H0.out, alloc_below _ _⟩
  case round =>
    clear H0
    obtain ⟨k, hk, rfl, ⟨ap, cp, rfl, hcp, hp⟩, hbw⟩ := hrel
    by_cases hlt : k < ls.length
    · have hk1 : (k : Int) < ls.length := by omega
      obtain ⟨q, c, ht, hqc, hq8, hql⟩ := HP.out.get k hlt
      have hkt : k < ts.length := by rw [HP.out.len]; exact hlt
      obtain ⟨b2, off, rfl, hbb, hcl⟩ := HR.out (by rw [slvs_length]; omega)
      have hcell : wr.cell? ⟨b2, off + k, none⟩ = some (.slice q ls[k].length c) := by
        have h1 := (hbw.cell (p := ⟨b2, off + k, none⟩) hbb).trans (hcl k _ (slvs_get ts k hkt))
        rw [ht] at h1
        exact h1
      have hst : pms (ls.take (k + 1)) = pm (pms (ls.take k)) (beh ls[k]) := by rw [take_snoc ls k hlt, pms_snoc]
      have hby : ∀ l ∈ ls.take k, By l := fun l h => HP.out.by l (List.mem_of_mem_take h)
      obtain ⟨hP8, _⟩ := pms_all (ls.take k) hby
      have hPl := pms_le (ls.take k) 5000 fun l h => HL.out l (List.mem_of_mem_take h)
      rw [List.length_take] at hPl
      have hPl2 : (pms (ls.take k)).length ≤ 1000000 := by have := HN.out; omega
      have hql5 := HL.out ls[k] (List.getElem_mem hlt)
      obtain ⟨l, hle⟩ : ∃ l, ls[k] = l := ⟨_, rfl⟩
      rw [hle] at hcell hst hqc hq8 hql hql5
      obtain ⟨P, hP⟩ : ∃ P, pms (ls.take k) = P := ⟨_, rfl⟩
      rw [hP] at hst hp hcp hP8 hPl2
      rw [hP]
      have hmb := beh_le l
      have hm8 := hq8.beh
      have HBE := Lib.hid (behind_any q c l wr (by omega) hqc (hql.step hbw))
      obtain ⟨m, hm⟩ : ∃ m, beh l = m := ⟨_, rfl⟩
      rw [hm] at HBE hst hmb hm8
      have HT : Hid (∀ (u : World) (q2 : Option Addr) (c2 : Nat), Fld u b → Lies u u.heap.size ap (u8s P) → Lies u u.heap.size q2 (u8s m) → Calls Tryz.prog 64 #[.pointer (some ⟨b, 0, none⟩), .slice ap P.length cp, .slice q2 m.length c2] u fun e w' => (∃ v, e = .returned v ∧ Reads w' v (pm P m)) ∧ Below u.heap.size u w') :=
        Lib.hid fun u q2 c2 h3 h4 h5 => ptimes_any b ap q2 cp c2 P m u h3 hP8 hm8 hPl2 (by omega) h4 h5
      have HPP := Lib.hid hp
      have HS := Lib.hid hst
      have HW := Lib.hid hbw
      have HFR : Hid (Fld wr b) := Lib.hid (HF.out.step hbw)
      clear hp hst hbw hcl hbb hP hcp hP8 hPl hPl2 hql hqc hq8 hle hm8 hmb hm ht hql5 
      go_wp2_with (first
        | (go_at_call 88; (with_reducible refine HBE.out.mono ?_); rintro e w1 ⟨⟨v, rfl, q2, c2, rfl, _, hv⟩, rfl⟩; have HV := Lib.hid hv; clear hv)
        | (go_at_call 64; (with_reducible refine (HT.out wr q2 c2 HFR.out HPP.out HV.out).mono ?_); rintro e w2 ⟨⟨v, rfl, hv⟩, b2⟩; have V2 := Lib.hid hv; have B2 := Lib.hid b2; clear hv b2))
      go_roundw
      case rel => exact ⟨k + 1, by omega, by go_num, by rw [HS.out]; exact V2.out, HW.out.next B2.out⟩
      case measure => simp [intOf]; omega
    · have ek : k = ls.length := by omega
      have HV : Hid (Reads wr (.slice ap (pms (ls.take k)).length cp) (pms ls)) := Lib.hid (by
        rw [ek, List.take_of_length_le (Nat.le_refl _)] at hp hcp ⊢
        exact ⟨ap, cp, rfl, hcp, hp⟩)
      have HW := Lib.hid hbw
      clear hp hbw
      go_wp2
      go_ret
      exact ⟨⟨_, rfl, HV.out⟩, HW.out⟩

set_option maxRecDepth 100000 in
set_option maxHeartbeats 1000000 in
theorem paddz_any (b : Nat) (a : Option Addr) (cap : Nat) (ts : List Hd) (ls : List (List Nat)) (w : World) (hp : Polz w ts ls) (hn : ls.length ≤ 100) (hl : ∀ l ∈ ls, l.length ≤ 5000) (hr : Lies w w.heap.size a (slvs ts)) :
    Calls Tryz.prog 103 #[.pointer (some ⟨b, 0, none⟩), .slice a ls.length cap] w fun e w' => (∃ v, e = .returned v ∧ Reads w' v (addl ls)) ∧ Below w.heap.size w w' := by
  have HR := Lib.hid hr
  have HP := Lib.hid hp
  have HL := Lib.hid hl
  have hN := mx_le ls 5000 hl
  obtain ⟨N, hNe⟩ : ∃ N, mx ls = N := ⟨_, rfl⟩
  rw [hNe] at hN
  have HNE := Lib.hid hNe
  have HI8 : Hid ((Tryz.prog.info? 5).map (fun i => (i.zero, i.size, i.bytes)) = some (some (.int .u8 0), 1, 8) ∨ (Tryz.prog.info? 5).map (fun i => (i.zero, i.size, i.bytes)) = some (some (.int .u8 0), 1, 1)) := Lib.hid (Or.inr info_byte)
  have HLL : Hid (N ≤ N) := Lib.hid (Nat.le_refl _)
  have HLM0 : Hid (N ≤ 1099511627776) := Lib.hid (by omega)
  have HZC : Hid ((Value.int .u8 0).cells = #[.int .u8 0]) := Lib.hid rfl
  have HS1 := Lib.hid info_byte1
  have hNi : (N : Int) ≤ 5000 := by omega
  obtain ⟨g, hg⟩ : ∃ g, g = w.heap.size := ⟨_, rfl⟩
  have HG := Lib.hid hg
  clear hr hp hl hNe hg
  go_enter Tryz.func103, Tryz.ntmps103
  go_wp2
  go_loop [5, 18] (fun n i => ∃ k : Nat, k ≤ ls.length ∧ i = .int .i64 k ∧ n = .int .i64 (mx (ls.take k) : Int)) (fun _ i => ls.length - (intOf i).toNat)
  case atStart => exact ⟨0, Nat.zero_le _, rfl, rfl⟩
  case round =>
    obtain ⟨k, hk, rfl, rfl⟩ := hrel
    by_cases hlt : k < ls.length
    · have hk1 : (k : Int) < ls.length := by omega
      obtain ⟨q, c, ht, hqc, hq8, hql⟩ := HP.out.get k hlt
      have hkt : k < ts.length := by rw [HP.out.len]; exact hlt
      obtain ⟨b2, off, rfl, hbb, hcl⟩ := HR.out (by rw [slvs_length]; omega)
      have hcell : w.cell? ⟨b2, off + k, none⟩ = some (.slice q ls[k].length c) := by
        have h1 := hcl k _ (slvs_get ts k hkt)
        rw [ht] at h1
        exact h1
      have hst : mx (ls.take (k + 1)) = max (mx (ls.take k)) ls[k].length := by rw [take_snoc ls k hlt, mx_snoc]
      have hm1 := mx_le (ls.take k) 5000 fun l h => HL.out l (List.mem_of_mem_take h)
      have hm2 := HL.out ls[k] (List.getElem_mem hlt)
      obtain ⟨M, hM⟩ : ∃ M, mx (ls.take k) = M := ⟨_, rfl⟩
      obtain ⟨d, hd⟩ : ∃ d, ls[k].length = d := ⟨_, rfl⟩
      rw [hM, hd] at hst
      rw [hM] at hm1 ⊢
      rw [hd] at hm2 hcell
      by_cases hMd : M < d
      · have HS : Hid (mx (ls.take (k + 1)) = d) := Lib.hid (by rw [hst]; omega)
        have h1 : (M : Int) < d := by omega
        have hq : max (M : Int) (d : Int) = (d : Int) := by omega
        clear hst hM hd hcl hbb ht hqc  hq8 hql
        go_wp2
        go_round
        case rel => exact ⟨k + 1, by omega, by go_num, by rw [HS.out]⟩
        case measure => simp [intOf]; omega
      · have HS : Hid (mx (ls.take (k + 1)) = M) := Lib.hid (by rw [hst]; omega)
        have h1 : (d : Int) ≤ M := by omega
        have hq : max (M : Int) (d : Int) = (M : Int) := by omega
        clear hst hM hd hcl hbb ht hqc  hq8 hql
        go_wp2
        go_round
        case rel => exact ⟨k + 1, by omega, by go_num, by rw [HS.out]⟩
        case measure => simp [intOf]; omega
    · have ek : k = ls.length := by omega
      rw [ek, List.take_of_length_le (Nat.le_refl _), HNE.out]
      clear ek hlt
      go_wp2_with (first
        | ((with_reducible refine wpMakeK 67 5 (.int .u8 0) N N Tryz.underlying67 HI8.out HZC.out HLL.out HLM0.out ?_ ?_); rfl; intro w1 r1 b1 s1; have R1 := Lib.hid r1; have B1 := Lib.hid b1; clear r1 b1 s1))
      have RG : Hid (Row w1 g 5 (u8s (hi N (sumf (ls.take 0))))) := Lib.hid (by
        have h := R1.out
        rw [← HG.out] at h
        rw [List.take_zero, hi_zero, u8s_zero]
        exact h)
      rw [← HG.out]
      clear R1
      go_loopw [31] (fun i wr => ∃ k : Nat, k ≤ ls.length ∧ i = .int .i64 k ∧ Row wr g 5 (u8s (hi N (sumf (ls.take k)))) ∧ Below w.heap.size w wr) (fun i _ => ls.length - (intOf i).toNat)
      case atStart => exact ⟨0, Nat.zero_le _, rfl, RG.out, B1.out⟩
      case round =>
        clear RG B1
        obtain ⟨k, hk, rfl, hrow, hbw⟩ := hrel
        by_cases hlt : k < ls.length
        · have hk1 : (k : Int) < ls.length := by omega
          obtain ⟨q, c, ht, hqc, hq8, hql⟩ := HP.out.get k hlt
          have hkt : k < ts.length := by rw [HP.out.len]; exact hlt
          obtain ⟨b2, off, rfl, hbb, hcl⟩ := HR.out (by rw [slvs_length]; omega)
          have hcell : wr.cell? ⟨b2, off + k, none⟩ = some (.slice q ls[k].length c) := by
            have h1 := (hbw.cell (p := ⟨b2, off + k, none⟩) hbb).trans (hcl k _ (slvs_get ts k hkt))
            rw [ht] at h1
            exact h1
          have hm2 := HL.out ls[k] (List.getElem_mem hlt)
          have hmx := le_mx ls ls[k] (List.getElem_mem hlt)
          rw [HNE.out] at hmx
          have hsl := sumf_lt (ls.take k) fun l h => HP.out.by l (List.mem_of_mem_take h)
          have hfull := adj_full N (ls.take k) ls[k] hmx
          rw [← take_snoc ls k hlt] at hfull
          obtain ⟨p, hpe⟩ : ∃ p, ls[k] = p := ⟨_, rfl⟩
          rw [hpe] at hcell hqc hq8 hql hm2 hmx hfull
          obtain ⟨S, hS⟩ : ∃ S, sumf (ls.take k) = S := ⟨_, rfl⟩
          rw [hS] at hrow hsl hfull
          rw [← adj_zero N S p] at hrow
          have HFULL := Lib.hid hfull
          have HSL := Lib.hid hsl
          have HQ8 := Lib.hid hq8
          have HQL := Lib.hid hql
          have HQW : Hid (w.heap.size ≤ w.heap.size) := Lib.hid (Nat.le_refl _)
          have R0 := Lib.hid hrow
          have B0 := Lib.hid hbw
          by_cases hp0 : p.length = 0
          · have hDi : (N : Int) - (p.length : Int) = (N : Int) := by omega
            have hDN : N - N = p.length := by omega
            have hm3 : (p.length : Int) ≤ 5000 := by omega
            have hp1 : (p.length : Int) = 0 := by omega
            clear hcl hrow hbw hbb ht  hq8 hql hsl hfull hpe hS
            go_wp2
            go_loopw [43] (fun i wr => i = .int .i64 0 ∧ Row wr g 5 (u8s (tab N (adj N S p p.length))) ∧ Below w.heap.size w wr) (fun i _ => p.length - (intOf i).toNat)
            case atStart => exact ⟨rfl, by rw [hp0]; exact R0.out, B0.out⟩
            case round =>
              clear R0 B0
              obtain ⟨rfl, hrow, hbw⟩ := hrel
              have HROW : Hid (Row wr g 5 (u8s (hi N (sumf (ls.take (k + 1)))))) := Lib.hid (by rw [← HFULL.out]; exact hrow)
              have HBW := Lib.hid hbw
              clear hrow hbw
              go_wp2
              go_roundw
              case rel => exact ⟨k + 1, by omega, by go_num, HROW.out, HBW.out⟩
              case measure => simp [intOf]; omega
          · obtain ⟨D, hD⟩ : ∃ D, N - p.length = D := ⟨_, rfl⟩
            have HD := Lib.hid hD
            have hND : ¬ N = D := by omega
            have hDi : (N : Int) - (p.length : Int) = (D : Int) := by omega
            have hDN : N - D = p.length := by omega
            have hDl : (D : Int) ≤ N := by omega
            have hD0 : 0 ≤ (D : Int) := by omega
            have hm3 : (p.length : Int) ≤ 5000 := by omega
            clear hcl hrow hbw hbb ht  hq8 hql hsl hfull hpe hS hD
            go_wp2
            go_loopw [43] (fun i wr => ∃ j : Nat, j ≤ p.length ∧ i = .int .i64 j ∧ Row wr g 5 (u8s (tab N (adj N S p j))) ∧ Below w.heap.size w wr) (fun i _ => p.length - (intOf i).toNat)
            case atStart => exact ⟨0, Nat.zero_le _, rfl, R0.out, B0.out⟩
            case round =>
              clear R0 B0
              obtain ⟨j, hj, rfl, hrow, hbw⟩ := hrel
              by_cases hlj : j < p.length
              · have hj1 : (j : Int) < p.length := by omega
                obtain ⟨b3, off3, rfl, hbb3, hcl3⟩ := HQL.out (by rw [u8s_length]; omega)
                have hcell3 : wr.cell? ⟨b3, off3 + j, none⟩ = some (.int .u8 (sq p j : Int)) := by rw [sq_get p j hlj]; exact (hbw.cell (p := ⟨b3, off3 + j, none⟩) hbb3).trans (hcl3 j _ (u8s_get p j hlj))
                have hDj : D + j < N := by omega
                have hcp : wr.cell? ⟨g, D + j, none⟩ = some (.int .u8 (adj N S p j (D + j) : Int)) := by
                  rw [hrow.cell, u8s, List.getElem?_map, tab_get _ _ _ hDj]; rfl
                have hst := adj_step N S p j
                rw [HD.out] at hst
                have hx8 := adj_lt (N := N) HSL.out HQ8.out j (D + j)
                have hy8 := HQ8.out.sq j
                obtain ⟨x, hx⟩ : ∃ x, adj N S p j (D + j) = x := ⟨_, rfl⟩
                obtain ⟨y, hy⟩ : ∃ y, sq p j = y := ⟨_, rfl⟩
                rw [hx, hy] at hst
                rw [hx] at hcp hx8
                rw [hy] at hcell3 hy8
                have HA0 := fun (u : World) => add2 b x y 5 hx8 hy8 u
                obtain ⟨r, hr⟩ : ∃ r, x ^^^ y = r := ⟨_, rfl⟩
                rw [hr] at hst HA0
                have HA := Lib.hid HA0
                have HROW := Lib.hid hrow
                have HBW := Lib.hid hbw
                have HGB : Hid (w.heap.size ≤ g) := Lib.hid (by rw [HG.out]; exact Nat.le_refl _)
                have HLM : Hid (D + j < (u8s (tab N (adj N S p j))).length) := Lib.hid (by rw [u8s_length, tab_length]; exact hDj)
                have HVC : Hid ((Value.int .u8 (r : Int)).cells = #[.int .u8 (r : Int)]) := Lib.hid rfl
                have HVO : Hid ((Value.int .u8 (r : Int)).oneCell' = true) := Lib.hid rfl
                have HST : Hid ((u8s (tab N (adj N S p j))).set (D + j) (.int .u8 (r : Int)) = u8s (tab N (adj N S p (j + 1)))) := Lib.hid (by rw [u8s_set, hst])
                clear HA0 hrow hbw hst hx hy hr hcl3 hbb3 hx8 hy8
                go_wp2_with (first
                  | (go_at_call 85; (with_reducible refine (HA.out wr).mono ?_); rintro e w1 ⟨rfl, b1⟩; have B1 := Lib.hid b1; have R1 := Lib.hid (HROW.out.step b1); clear b1)
                  | ((with_reducible refine R1.out.wpStore1K (D + j) 5 (.int .u8 (r : Int)) HS1.out HLM.out HVC.out HVO.out ?_ ?_); rfl; intro w2 r2 o2 s2; have R2 := Lib.hid r2; have O2 := Lib.hid o2; clear r2 o2 s2))
                go_roundw
                case rel => exact ⟨j + 1, by omega, by go_num, by have h := R2.out; rw [HST.out] at h; exact h, (HBW.out.next B1.out).trans (O2.out.below HGB.out (HBW.out.next B1.out).size)⟩
                case measure => simp [intOf]; omega
              · have ej : j = p.length := by omega
                have HROW : Hid (Row wr g 5 (u8s (hi N (sumf (ls.take (k + 1)))))) := Lib.hid (by rw [← HFULL.out, ← ej]; exact hrow)
                have HBW := Lib.hid hbw
                clear hrow hbw ej
                go_wp2
                go_roundw
                case rel => exact ⟨k + 1, by omega, by go_num, HROW.out, HBW.out⟩
                case measure => simp [intOf]; omega
        · have ek : k = ls.length := by omega
          rw [ek, List.take_of_length_le (Nat.le_refl _)] at hrow
          obtain ⟨T, hT⟩ : ∃ T, hi N (sumf ls) = T := ⟨_, rfl⟩
          have hTl : T.length = N := by rw [← hT, hi_length]
          rw [hT] at hrow
          have HBE : Hid (Calls Tryz.prog 88 #[.slice (some ⟨g, 0, none⟩) N N] wr fun e w' => (∃ v, e = .returned v ∧ Reads w' v (addl ls)) ∧ wr = w') := Lib.hid (by
            have h := behind_any (some ⟨g, 0, none⟩) N T wr (by omega) (by omega) (row_lies hrow)
            rw [hTl] at h
            exact h.mono fun e w' ⟨⟨v, h1, h2⟩, h3⟩ => ⟨⟨v, h1, by rw [addl, HNE.out, hT, ← h3]; exact h2⟩, h3⟩)
          have HBW := Lib.hid hbw
          clear hrow hbw ek hT hTl
          go_wp2_with (go_at_call 88; (with_reducible refine HBE.out.mono ?_); rintro e w2 ⟨⟨v, rfl, hv⟩, rfl⟩; have HV := Lib.hid hv; clear hv)
          go_ret
          exact ⟨⟨_, rfl, HV.out⟩, HBW.out⟩

theorem two_polz {u : World} {a c : Option Addr} {ca cc : Nat} {A C : List Nat} (hA : By A) (hC : By C) (h1 : A.length ≤ ca) (h2 : C.length ≤ cc)
    (hr : Lies u u.heap.size a (u8s A)) (hs : Lies u u.heap.size c (u8s C)) : Polz u [(a, A.length, ca), (c, C.length, cc)] [A, C] := by
  refine ⟨rfl, fun i hi hi2 => ?_⟩
  match i, hi with
  | 0, _ => exact ⟨rfl, h1, hA, hr⟩
  | 1, _ => exact ⟨rfl, h2, hC, hs⟩
end Go.Proofs.YtnbjaijhdjneoaaGreat

namespace Go.Proofs.YtnbjaijhdjneoaaGreat
open Go.RowKit GfMath PolyMath
set_option linter.unusedVariables false

end Go.Proofs.YtnbjaijhdjneoaaGreat

namespace SolMath
open GfMath PolyMath RsMath
set_option linter.unusedVariables false

def mrk (n i : Nat) : Nat := ex (n - 1 - i)
theorem mrk_lt (n i : Nat) : mrk n i < 256 := ex_lt _
/-- A polynomial without the powers from p on. -/
def lowl (p : Nat) (l : List Nat) : List Nat := l.drop (l.length - p)
theorem lowl_by {l : List Nat} (h : By l) (p : Nat) : By (lowl p l) := fun x hx => h x (List.mem_of_mem_drop hx)
theorem lowl_le (p : Nat) (l : List Nat) : (lowl p l).length ≤ l.length := by rw [lowl, List.length_drop]; omega
theorem lowl_le' (p : Nat) (l : List Nat) : (lowl p l).length ≤ p := by rw [lowl, List.length_drop]; omega
/-- The factor of a power that may be below 0. -/
def fcI (l : List Nat) (z : Int) : Nat := if z < 0 then 0 else cf l z.toNat
theorem fcI_lt {l : List Nat} (h : By l) (z : Int) : fcI l z < 256 := by unfold fcI; split; omega; exact h.cf _

/-- The erased places noted. -/
def setG (G : List Bool) (er : List Int) : List Bool := er.foldl (fun G i => G.set i.toNat true) G
theorem setG_length (G : List Bool) (er : List Int) : (setG G er).length = G.length := by
  unfold setG
  induction er generalizing G with
  | nil => rfl
  | cons a l ih => rw [List.foldl_cons, ih, List.length_set]
def cnt (G : List Bool) : Nat := G.count true
theorem cnt_le (G : List Bool) : cnt G ≤ G.length := List.count_le_length
def gAt (G : List Bool) (i : Nat) : Bool := G.getD i false
def inB (n : Nat) (er : List Int) : Bool := er.all fun i => decide (0 ≤ i) && decide (i < (n : Int))
def noneG (n : Nat) : List Bool := List.replicate n false

theorem cnt_set {G : List Bool} {i : Nat} (hi : i < G.length) (h : gAt G i = false) : cnt (G.set i true) = cnt G + 1 := by
  unfold cnt gAt at *
  induction G generalizing i with
  | nil => simp at hi
  | cons a l ih =>
    cases i with
    | zero =>
      simp only [List.getD_cons_zero] at h
      subst h
      simp
    | succ i =>
      simp only [List.getD_cons_succ] at h
      rw [List.set_cons_succ, List.count_cons, List.count_cons, ih (by simpa using hi) h]
      omega
theorem set_self {G : List Bool} {i : Nat} (h : gAt G i = true) : G.set i true = G := by
  unfold gAt at h
  induction G generalizing i with
  | nil => rfl
  | cons a l ih =>
    cases i with
    | zero =>
      simp only [List.getD_cons_zero] at h
      subst h
      rfl
    | succ i =>
      simp only [List.getD_cons_succ] at h
      rw [List.set_cons_succ, ih h]

/-- What seeks the erased places, the first i looked at. -/
def erF (n : Nat) (G : List Bool) : Nat → List Nat
  | 0 => [1]
  | i + 1 => if gAt G i then pms [erF n G i, [mrk n i, 1]] else erF n G i
theorem erF_all (n : Nat) (G : List Bool) : ∀ i, By (erF n G i) ∧ (erF n G i).length ≤ i + 1
  | 0 => ⟨by_one (by omega), by simp [erF]⟩
  | i + 1 => by
    obtain ⟨h1, h2⟩ := erF_all n G i
    unfold erF
    split
    · have h3 : By [mrk n i, 1] := by_two (mrk_lt _ _) (by omega)
      refine ⟨(pms_all _ (by intro l hl; simp at hl; rcases hl with rfl | rfl <;> assumption)).1, ?_⟩
      rw [show ([erF n G i, [mrk n i, 1]] : List (List Nat)) = [erF n G i] ++ [[mrk n i, 1]] from rfl, pms_snoc]
      rw [show pms [erF n G i] = pm [1] (beh (erF n G i)) from rfl]
      have hb := beh_le (erF n G i)
      have hc := beh_le [mrk n i, 1]
      have hl : ∀ a b : List Nat, (pm a b).length ≤ a.length + b.length - 1 := fun a b => by
        unfold pm; split
        · simp
        · rw [tab_length]; omega
      have h4 := hl [1] (beh (erF n G i))
      have h5 := hl (pm [1] (beh (erF n G i))) (beh [mrk n i, 1])
      simp only [List.length_cons, List.length_nil] at h4 hc
      omega
    · exact ⟨h1, by omega⟩

/-- By how much rule misses the thing i. -/
def missF (T rule : List Nat) (lost : Nat) (i : Nat) : Nat := xs (fun j => gm (cf rule j) (fcI T ((lost : Int) + (i : Int) - (j : Int)))) rule.length
def missK (T rule : List Nat) (lost : Nat) (i k : Nat) : Nat := xs (fun j => gm (cf rule j) (fcI T ((lost : Int) + (i : Int) - (j : Int)))) k
theorem missK_lt {T rule : List Nat} (hT : By T) (hR : By rule) (lost i k : Nat) : missK T rule lost i k < 256 := xs_lt _ fun j _ => gm_lt (hR.cf _) (fcI_lt hT _)

structure BM where
  rule : List Nat
  last : List Nat
  miss : Nat
  since : Nat
  size : Nat
def nextF (s : BM) (d : Nat) : List Nat := addl [s.rule, pms [[gm d (iv s.miss)], shl s.last s.since]]
def bmStep (T : List Nat) (lost i : Nat) (s : BM) : BM :=
  if missF T s.rule lost i = 0 then { s with since := s.since + 1 }
  else if 2 * s.size ≤ i then ⟨nextF s (missF T s.rule lost i), s.rule, missF T s.rule lost i, 1, i + 1 - s.size⟩
  else ⟨nextF s (missF T s.rule lost i), s.last, s.miss, s.since + 1, s.size⟩
def bm (T : List Nat) (lost : Nat) : Nat → BM
  | 0 => ⟨[1], [1], 1, 1, 0⟩
  | i + 1 => bmStep T lost i (bm T lost i)

theorem pm_len (a b : List Nat) : (pm a b).length ≤ a.length + b.length - 1 := by
  unfold pm; split
  · simp
  · rw [tab_length]; omega
theorem pms_two (a b : List Nat) : pms [a, b] = pm (pm [1] (beh a)) (beh b) := rfl
theorem pms_two_by {a b : List Nat} (ha : By a) (hb : By b) : By (pms [a, b]) := (pms_all _ (by intro l hl; simp at hl; rcases hl with rfl | rfl <;> assumption)).1
theorem pms_two_le (a b : List Nat) : (pms [a, b]).length ≤ a.length + b.length - 1 := by
  rw [pms_two]
  have h1 := pm_len [1] (beh a)
  have h2 := pm_len (pm [1] (beh a)) (beh b)
  have h3 := beh_le a
  have h4 := beh_le b
  have h5 : (beh b).length = 0 → (pm (pm [1] (beh a)) (beh b)).length = 0 := fun h => by unfold pm; rw [if_pos (Or.inr h)]; rfl
  simp only [List.length_cons, List.length_nil] at h1
  have h6 : (pm [1] (beh a)).length = 0 → (pm (pm [1] (beh a)) (beh b)).length = 0 := fun h => by rw [List.eq_nil_of_length_eq_zero h, pm_nil_left]; rfl
  omega
theorem addl_two_by {a b : List Nat} (ha : By a) (hb : By b) : By (addl [a, b]) := addl_by _ (by intro l hl; simp at hl; rcases hl with rfl | rfl <;> assumption)
theorem addl_two_le (a b : List Nat) : (addl [a, b]).length ≤ max a.length b.length := by
  have := addl_le [a, b]
  simpa [mx] using this

structure BMok (s : BM) (i : Nat) : Prop where
  r8 : By s.rule
  l8 : By s.last
  m8 : s.miss < 256
  m0 : s.miss ≠ 0
  rl : s.rule.length ≤ i + 1
  ll : s.last.length + s.since ≤ i + 2
  s1 : 1 ≤ s.since
  sz : s.size ≤ i
theorem next_ok {s : BM} {i d : Nat} (h : BMok s i) (hd : d < 256) : By (nextF s d) ∧ (nextF s d).length ≤ i + 2 := by
  have h1 : By [gm d (iv s.miss)] := by_one (gm_lt hd (iv_lt _))
  have h2 := shl_by h.l8 s.since
  refine ⟨addl_two_by h.r8 (pms_two_by h1 h2), ?_⟩
  have h3 := addl_two_le s.rule (pms [[gm d (iv s.miss)], shl s.last s.since])
  have h4 := pms_two_le [gm d (iv s.miss)] (shl s.last s.since)
  have h5 := shl_le s.last s.since
  simp only [List.length_cons, List.length_nil] at h4
  have := h.rl
  have := h.ll
  unfold nextF
  omega
theorem bmStep_ok {T : List Nat} (hT : By T) (lost : Nat) {s : BM} {i : Nat} (h : BMok s i) : BMok (bmStep T lost i s) (i + 1) := by
  have hd : missF T s.rule lost i < 256 := missK_lt hT h.r8 lost i _
  obtain ⟨n1, n2⟩ := next_ok h hd
  obtain ⟨r8, l8, m8, m0, rl, ll, s1, sz⟩ := h
  unfold bmStep
  split
  · exact ⟨r8, l8, m8, m0, by show s.rule.length ≤ _; omega, by show s.last.length + (s.since + 1) ≤ _; omega, by show 1 ≤ s.since + 1; omega, by show s.size ≤ _; omega⟩
  · rename_i h0
    split
    · exact ⟨n1, r8, hd, h0, n2, by show s.rule.length + 1 ≤ _; omega, Nat.le_refl _, by show i + 1 - s.size ≤ _; omega⟩
    · exact ⟨n1, l8, m8, m0, n2, by show s.last.length + (s.since + 1) ≤ _; omega, by show 1 ≤ s.since + 1; omega, by show s.size ≤ _; omega⟩
theorem bm_ok {T : List Nat} (hT : By T) (lost : Nat) : ∀ i, BMok (bm T lost i) i
  | 0 => ⟨by_one (by omega), by_one (by omega), by show 1 < 256; omega, by show 1 ≠ 0; omega, by show 1 ≤ 0 + 1; omega, by show 1 + 1 ≤ 0 + 2; omega, by show 1 ≤ 1; omega, by show 0 ≤ 0; omega⟩
  | i + 1 => bmStep_ok hT lost (bm_ok hT lost i)
def masseyF (p : Nat) (T : List Nat) (lost : Nat) : List Nat := (bm T lost (p - lost)).rule

/-- What the place i is turned by. -/
def dAt (n : Nat) (A S L : List Nat) (i : Nat) : Nat :=
  if ev A (iv (mrk n i)) ≠ 0 then 0 else gm (mrk n i) (gm (ev L (iv (mrk n i))) (iv (ev S (iv (mrk n i)))))
theorem dAt_lt (n : Nat) {A S L : List Nat} (hL : By L) (i : Nat) : dAt n A S L i < 256 := by
  unfold dAt
  split
  · omega
  · exact gm_lt (mrk_lt _ _) (gm_lt (ev_lt hL (iv_lt _)) (iv_lt _))
def allF (R E : List Nat) : List Nat := pms [R, E]
def slopeF (R E : List Nat) : List Nat := beh (dl (allF R E))
def sumsF (p : Nat) (V R E : List Nat) : List Nat := lowl p (pms [V, allF R E])
def dF (n p : Nat) (V R E : List Nat) : Nat → Nat := dAt n (allF R E) (slopeF R E) (sumsF p V R E)
def wordF (W : List Nat) (d : Nat → Nat) (k : Nat) : List Nat := tab W.length fun i => sq W i ^^^ if i < k then d i else 0
def atF (d : Nat → Nat) (k : Nat) : List Nat := (List.range k).filter fun i => decide (d i ≠ 0)
def othF (G : List Bool) (l : List Nat) : Nat := (l.filter fun i => !gAt G i).length

/-- What is mended: nothing of places that aren't there; the word and the places, or none. -/
inductive Md where
  | arg | bad | ok (m at_ : List Nat)
def markE (n : Nat) (er : List Int) : List Bool := setG (noneG n) er
def valsR (W : List Nat) (p : Nat) : List Nat := (vals W p).reverse
def toldF (p : Nat) (V E : List Nat) : List Nat := lowl p (pms [V, E])
def layW (n p : Nat) (W V R E : List Nat) : List Nat := wordF W (dF n p V R E) n
def layP (n p : Nat) (V R E : List Nat) : List Nat := atF (dF n p V R E) n
def mendF (seek : Nat → List Nat → Nat → List Nat) (n p : Nat) (W : List Nat) (er : List Int) : Md :=
  if inB n er = false then .arg
  else
    let G := markE n er
    let V := valsR W p
    let E := erF n G n
    let R := seek p (toldF p V E) (cnt G)
    let m := layW n p W V R E
    let l := layP n p V R E
    if allz (vals m p) = true ∧ cnt G ≤ p ∧ othF G l ≤ (p - cnt G) / 2 then .ok m l else .bad

end SolMath

namespace Go.Proofs.YtnbjaijhdjneoaaGreat
open Go.RowKit GfMath PolyMath RsMath SolMath
set_option linter.unusedVariables false
set_option maxRecDepth 100000

/-- A list, laid by the call, of lists that read as ls. -/
def Pls (ls : List (List Nat)) : Value → World → Prop := fun v w => ∃ blk ts, v = .slice (some ⟨blk, 0, none⟩) ls.length ls.length ∧ Polz w ts ls ∧ Lies w w.heap.size (some ⟨blk, 0, none⟩) (slvs ts)
theorem Pls.monot (ls : List (List Nat)) : Monot (Pls ls) := fun _ _ _ ⟨b, t, h1, h2, h3⟩ hb => ⟨b, t, h1, h2.step hb, h3.step hb⟩
theorem pls_two {w : World} {v1 v2 : Value} {A C : List Nat} {t : TypeId} (hA : By A) (hC : By C) (h1 : Rd A v1 w) (h2 : Rd C v2 w) : Pls [A, C] (.slice (some ⟨w.heap.size, 0, none⟩) 2 2) (w.alloc (.cells #[v1, v2] t)) := by
  obtain ⟨a1, c1, rfl, q1, l1⟩ := h1
  obtain ⟨a2, c2, rfl, q2, l2⟩ := h2
  exact ⟨_, _, rfl, (two_polz hA hC q1 q2 l1 l2).step (alloc_below _ _), Lies.new [.slice a1 A.length c1, .slice a2 C.length c2] w _⟩
theorem pmulV (b : Nat) (v : Value) (ls : List (List Nat)) (w : World) (hf : Fld w b) (h : Pls ls v w) (hn : ls.length ≤ 100) (hl : ∀ l ∈ ls, l.length ≤ 5000) :
    Calls Tryz.prog 104 #[.pointer (some ⟨b, 0, none⟩), v] w fun e w' => (∃ v, e = .returned v ∧ Reads w' v (pms ls)) ∧ Below w.heap.size w w' := by
  obtain ⟨blk, ts, rfl, h2, h3⟩ := h
  exact pmulz_any b _ _ ts ls w hf h2 hn hl h3
theorem paddV (b : Nat) (v : Value) (ls : List (List Nat)) (w : World) (h : Pls ls v w) (hn : ls.length ≤ 100) (hl : ∀ l ∈ ls, l.length ≤ 5000) :
    Calls Tryz.prog 103 #[.pointer (some ⟨b, 0, none⟩), v] w fun e w' => (∃ v, e = .returned v ∧ Reads w' v (addl ls)) ∧ Below w.heap.size w w' := by
  obtain ⟨blk, ts, rfl, h2, h3⟩ := h
  exact paddz_any b _ _ ts ls w h2 hn hl h3
theorem evalV (b : Nat) (v : Value) (l : List Nat) (x : Nat) (w : World) (hf : Fld w b) (h : Rd l v w) (hb : By l) (hx : x < 256) (hl : l.length ≤ 5000) :
    Calls Tryz.prog 118 #[.pointer (some ⟨b, 0, none⟩), v, .int .u8 (x : Int)] w fun e w' => e = .returned (.int .u8 (ev l x : Int)) ∧ Below w.heap.size w w' := by
  obtain ⟨a, c, rfl, _, h⟩ := h
  exact eval_any b a c l x w hf hb hx (by omega) h
theorem deriveV (b : Nat) (v : Value) (l : List Nat) (w : World) (h : Rd l v w) (hb : By l) (hl : l.length ≤ 5000) :
    Calls Tryz.prog 122 #[.pointer (some ⟨b, 0, none⟩), v] w fun e w' => (∃ v, e = .returned v ∧ Reads w' v (beh (dl l))) ∧ Below w.heap.size w w' := by
  obtain ⟨a, c, rfl, _, h⟩ := h
  exact derive_any b a c l w hb (by omega) h
theorem shiftV (v : Value) (l : List Nat) (n : Int) (w : World) (h : Rd l v w) (hl : l.length ≤ 5000) :
    Calls Tryz.prog 72 #[v, .int .i64 n] w fun e w' => (∃ v, e = .returned v ∧ Reads w' v (shl l (shn n))) ∧ Below w.heap.size w w' := by
  obtain ⟨a, c, rfl, h0, h⟩ := h
  exact shift_any a c l n w (by omega) h0 h
theorem mulV (b : Nat) (v : Value) (l : List Nat) (w : World) (hf : Fld w b) (h : Rd l v w) (hb : By l) (hl : l.length ≤ 5000) :
    Calls Tryz.prog 86 #[.pointer (some ⟨b, 0, none⟩), v] w fun e w' => e = .returned (.int .u8 (prod l : Int)) ∧ Below w.heap.size w w' := by
  obtain ⟨a, c, rfl, _, h⟩ := h
  exact mul_any b a c l w hf hb (by omega) h
theorem addV (b : Nat) (v : Value) (l : List Nat) (w : World) (h : Rd l v w) (hb : By l) (hl : l.length ≤ 5000) :
    Calls Tryz.prog 85 #[.pointer (some ⟨b, 0, none⟩), v] w fun e w' => e = .returned (.int .u8 (sum l : Int)) ∧ Below w.heap.size w w' := by
  obtain ⟨a, c, rfl, _, h⟩ := h
  exact (add_any b a c l w hb (by omega) h).mono fun e w' ⟨h1, h2⟩ => ⟨h1, h2 ▸ Below.refl _ _⟩
theorem divV (b x y : Nat) (w : World) (hf : Fld w b) (hx : x < 256) (hy : y < 256) :
    Calls Tryz.prog 90 #[.pointer (some ⟨b, 0, none⟩), .int .u8 (x : Int), .int .u8 (y : Int)] w fun e w' => e = .returned (.tuple #[.int .u8 (gm x (iv y) : Int), .bool (decide (y ≠ 0))]) ∧ Below w.heap.size w w' := by
  by_cases h0 : y = 0
  · subst h0
    refine (div_zero b x w).mono fun e w' ⟨h1, h2⟩ => ⟨?_, h2 ▸ Below.refl _ _⟩
    rw [h1, show iv 0 = 0 from rfl, gm_zero_right]
    rfl
  · refine (div_any b x y w hf hx hy h0).mono fun e w' ⟨h1, h2⟩ => ⟨?_, h2⟩
    rw [h1, decide_eq_true h0]
theorem invV (b x : Nat) (w : World) (hf : Fld w b) (hx : x < 256) :
    Calls Tryz.prog 112 #[.pointer (some ⟨b, 0, none⟩), .int .u8 (x : Int)] w fun e w' => e = .returned (.tuple #[.int .u8 (iv x : Int), .bool (decide (x ≠ 0))]) ∧ Below w.heap.size w w' := by
  by_cases h0 : x = 0
  · subst h0
    exact (inv_zero b w).mono fun e w' ⟨h1, h2⟩ => ⟨h1, h2 ▸ Below.refl _ _⟩
  · refine (inv_any b x w hf hx h0).mono fun e w' ⟨h1, h2⟩ => ⟨?_, h2⟩
    rw [h1, decide_eq_true h0]

/-- The cells of a solver. -/
def solL (b n p g lost : Nat) (V E T : Value) : List Value := [.pointer (some ⟨b, 0, none⟩), .int .i64 (n : Int), .int .i64 (p : Int), .slice (some ⟨g, 0, none⟩) n n, .int .i64 (lost : Int), V, E, T]
def bools (l : List Bool) : List Value := l.map Value.bool
theorem bools_get (l : List Bool) (i : Nat) (h : i < l.length) : (bools l)[i]? = some (.bool (gAt l i)) := by simp [bools, gAt, h, List.getD_eq_getElem?_getD]
theorem bools_set (l : List Bool) (i : Nat) (b : Bool) : (bools l).set i (.bool b) = bools (l.set i b) := by simp [bools, List.map_set]
structure Sol (w : World) (s b n p g : Nat) (G : List Bool) (lost : Nat) (V E T : Value) : Prop where
  row : Row w s 167 (solL b n p g lost V E T)
  gone : Row w g 4 (bools G)
  fld : Fld w b
  ne : g ≠ s
  len : G.length = n
  slV : ∃ a n c, V = .slice a n c
  slE : ∃ a n c, E = .slice a n c
  slT : ∃ a n c, T = .slice a n c
theorem Sol.step {w w' : World} {s b n p g : Nat} {G : List Bool} {lost : Nat} {V E T : Value} (h : Sol w s b n p g G lost V E T) (hb : Below w.heap.size w w') : Sol w' s b n p g G lost V E T :=
  ⟨h.row.step hb, h.gone.step hb, h.fld.step hb, h.ne, h.len, h.slV, h.slE, h.slT⟩
section
variable {w : World} {s b n p g : Nat} {G : List Bool} {lost : Nat} {V E T : Value}
theorem Sol.lt (h : Sol w s b n p g G lost V E T) : s < w.heap.size := h.row.lt
theorem Fld.far {w : World} {b : Nat} (h : Fld w b) (p : Addr) (v : Value) (hp : b ≠ p.block) : Fld (w.setCell p v) b := by
  obtain ⟨P, h1, h2⟩ := h
  exact ⟨P, h1, h2.far p v hp⟩
theorem Sol.c0 (h : Sol w s b n p g G lost V E T) : w.cell? ⟨s, 0, none⟩ = some (.pointer (some ⟨b, 0, none⟩)) := by rw [h.row.cell]; rfl
theorem Sol.c1 (h : Sol w s b n p g G lost V E T) : w.cell? ⟨s, 1, none⟩ = some (.int .i64 (n : Int)) := by rw [h.row.cell]; rfl
theorem Sol.c2 (h : Sol w s b n p g G lost V E T) : w.cell? ⟨s, 2, none⟩ = some (.int .i64 (p : Int)) := by rw [h.row.cell]; rfl
theorem Sol.c3 (h : Sol w s b n p g G lost V E T) : w.cell? ⟨s, 3, none⟩ = some (.slice (some ⟨g, 0, none⟩) n n) := by rw [h.row.cell]; rfl
theorem Sol.c4 (h : Sol w s b n p g G lost V E T) : w.cell? ⟨s, 4, none⟩ = some (.int .i64 (lost : Int)) := by rw [h.row.cell]; rfl
theorem Sol.c5 (h : Sol w s b n p g G lost V E T) : w.cell? ⟨s, 5, none⟩ = some V := by rw [h.row.cell]; rfl
theorem Sol.c6 (h : Sol w s b n p g G lost V E T) : w.cell? ⟨s, 6, none⟩ = some E := by rw [h.row.cell]; rfl
theorem Sol.c7 (h : Sol w s b n p g G lost V E T) : w.cell? ⟨s, 7, none⟩ = some T := by rw [h.row.cell]; rfl
theorem Sol.nou8 (h : Sol w s b n p g G lost V E T) : ∀ x ∈ solL b n p g lost V E T, ∀ z, x ≠ .int .u8 z := by
  intro x hx z
  obtain ⟨_, _, _, rfl⟩ := h.slV
  obtain ⟨_, _, _, rfl⟩ := h.slE
  obtain ⟨_, _, _, rfl⟩ := h.slT
  simp only [solL, List.mem_cons, List.not_mem_nil, or_false] at hx
  rcases hx with rfl | rfl | rfl | rfl | rfl | rfl | rfl | rfl <;> simp
theorem Sol.gc (h : Sol w s b n p g G lost V E T) (i : Nat) (hi : i < n) : w.cell? ⟨g, i, none⟩ = some (.bool (gAt G i)) := by
  rw [h.gone.cell, bools_get _ _ (by rw [h.len]; exact hi)]
end

/-- Bytes don't lie where other things do. -/
theorem lies_apart {w : World} {g B : Nat} {t : TypeId} {xs : List Value} {a : Option Addr} {l : List Nat} (hrow : Row w g t xs) (hno : ∀ x ∈ xs, ∀ z, x ≠ .int .u8 z) (h : Lies w B a (u8s l)) (p : Addr) (hp : p.block = g) (v : Value) : Lies (w.setCell p v) B a (u8s l) := by
  intro h0
  obtain ⟨b, off, rfl, hb, hc⟩ := h h0
  refine ⟨b, off, rfl, hb, fun j u hu => ?_⟩
  have hne : b ≠ g := by
    rintro rfl
    have hx := hc j u hu
    rw [hrow.cell] at hx
    rw [u8s, List.getElem?_map] at hu
    obtain ⟨z, _, rfl⟩ := Option.map_eq_some_iff.1 hu
    exact hno _ (List.mem_of_getElem? hx) _ rfl
  have e1 : (w.setCell p v).heap[b]? = w.heap[b]? := heap_setCell_other w p b v (by rw [hp]; exact hne)
  rw [← hc j u hu]
  simp only [World.cell?, e1]
theorem Reads.apart {w : World} {g : Nat} {t : TypeId} {xs : List Value} {v : Value} {l : List Nat} (hrow : Row w g t xs) (hno : ∀ x ∈ xs, ∀ z, x ≠ .int .u8 z) (h : Reads w v l) (p : Addr) (hp : p.block = g) (u : Value) : Reads (w.setCell p u) v l := by
  obtain ⟨a, c, e, h1, h2⟩ := h
  refine ⟨a, c, e, h1, ?_⟩
  rw [World.size_setCell]
  exact lies_apart hrow hno h2 p hp u
section
variable {w : World} {s b n p g : Nat} {G : List Bool} {lost : Nat} {V E T : Value}
theorem Sol.putE (h : Sol w s b n p g G lost V E T) (hb : b ≠ s) {v : Value} (hv : ∃ a n c, v = .slice a n c) : Sol (w.setCell ⟨s, 6, none⟩ v) s b n p g G lost V v T :=
  ⟨h.row.set 6 _, h.gone.far _ _ h.ne, h.fld.far _ _ hb, h.ne, h.len, h.slV, hv, h.slT⟩
theorem Sol.putT (h : Sol w s b n p g G lost V E T) (hb : b ≠ s) {v : Value} (hv : ∃ a n c, v = .slice a n c) : Sol (w.setCell ⟨s, 7, none⟩ v) s b n p g G lost V E v :=
  ⟨h.row.set 7 _, h.gone.far _ _ h.ne, h.fld.far _ _ hb, h.ne, h.len, h.slV, h.slE, hv⟩
end

theorem mark_any (s b n p g : Nat) (G : List Bool) (lost : Nat) (V E T : Value) (i : Nat) (w : World) (h : Sol w s b n p g G lost V E T) (hn : n ≤ 255) (hi : i < n) :
    Calls Tryz.prog 120 #[.pointer (some ⟨s, 0, none⟩), .int .i64 (i : Int)] w fun e w' => e = .returned (.int .u8 (mrk n i : Int)) ∧ Below w.heap.size w w' := by
  have h0 := h.c0
  have h1 := h.c1
  have hnb : (n : Int) ≤ 255 := by omega
  have hn0 : 1 ≤ (n : Int) := by omega
  have hib : (i : Int) ≤ 255 := by omega
  have hi2 : 0 ≤ (n : Int) - 1 - (i : Int) := by omega
  have HX : Hid (∀ d, Calls Tryz.prog 66 #[.pointer (some ⟨b, 0, none⟩), .int .i64 ((n : Int) - 1 - (i : Int))] (w.drewN d) fun e w' => e = .returned (.int .u8 (mrk n i : Int)) ∧ Below (w.drewN d).heap.size (w.drewN d) w') := Lib.hid fun d => by
    have e1 : (n : Int) - 1 - (i : Int) = ((n - 1 - i : Nat) : Int) := by omega
    rw [e1]
    have := exp_any b ((n - 1 - i : Nat) : Int) (w.drewN d) (h.fld.step ((Below.refl _ _).drewN d))
    rwa [exI_nat] at this
  have HB : Hid (Below w.heap.size w w.drew) := Lib.hid ((Below.refl _ _).drew)
  have HX2 : Hid (∀ wq, Below w.heap.size w wq → Calls Tryz.prog 66 #[.pointer (some ⟨b, 0, none⟩), .int .i64 ((n : Int) - 1 - (i : Int))] wq fun e w' => e = .returned (.int .u8 (mrk n i : Int)) ∧ Below wq.heap.size wq w') := Lib.hid fun wq hb => by
    have e1 : (n : Int) - 1 - (i : Int) = ((n - 1 - i : Nat) : Int) := by omega
    rw [e1]
    have := exp_any b ((n - 1 - i : Nat) : Int) wq (h.fld.step hb)
    rwa [exI_nat] at this
  obtain ⟨y, hy⟩ : ∃ y, mrk n i = y := ⟨_, rfl⟩
  rw [hy] at HX HX2 ⊢
  clear h hy HX
  go_enter Tryz.func120, Tryz.ntmps120
  go_wp2
  go_still_tail 11, (by kernel_rfl)
  change wpList _ _ _ _ _ w.drew
  generalize w.drew = wq at *
  go_wp2_with (go_at_call 66; (with_reducible refine (HX2.out wq HB.out).mono ?_); rintro e u1 ⟨rfl, b1⟩; have B1 := Lib.hid (HB.out.next b1); clear b1)
  go_ret
  exact ⟨rfl, B1.out⟩

theorem low_any (s b n p g : Nat) (G : List Bool) (lost : Nat) (V E T : Value) (v : Value) (l : List Nat) (w : World) (h : Sol w s b n p g G lost V E T) (hp1 : 1 ≤ p) (hp : p ≤ 255) (hl : l.length ≤ 5000) (hv : Rd l v w) :
    Calls Tryz.prog 121 #[.pointer (some ⟨s, 0, none⟩), v] w fun e w' => (∃ v, e = .returned v ∧ Reads w' v (lowl p l)) ∧ Below w.heap.size w w' := by
  have h2 := h.c2
  obtain ⟨a, c, rfl, hc, hr⟩ := hv
  have hpb : (p : Int) ≤ 255 := by omega
  have hp0 : 1 ≤ (p : Int) := by omega
  have hlb : (l.length : Int) ≤ 5000 := by omega
  by_cases hlt : l.length ≤ p
  · have HR : Hid (Reads w (.slice a l.length c) (lowl p l)) := Lib.hid (by
      rw [lowl, show l.length - p = 0 by omega, List.drop_zero]
      exact ⟨a, c, rfl, hc, hr⟩)
    have hd : (l.length : Int) - (p : Int) ≤ 0 := by omega
    have hm : max 0 ((l.length : Int) - (p : Int)) = 0 := by omega
    have hnl : ¬ (0 : Int) < (l.length : Int) - (p : Int) := by omega
    obtain ⟨L, hL⟩ : ∃ L, l.length = L := ⟨_, rfl⟩
    rw [hL] at HR hlb hd hm hnl hc ⊢
    clear h hr hL hlt hl
    go_enter Tryz.func121, Tryz.ntmps121
    go_wp2
    go_ret
    first
      | exact ⟨⟨_, rfl, HR.out⟩, Below.refl _ _⟩
      | (refine ⟨⟨_, rfl, ?_⟩, Below.refl _ _⟩; simpa using HR.out)
  · obtain ⟨k, hk⟩ : ∃ k, l.length - p = k := ⟨_, rfl⟩
    obtain ⟨bb, off, rfl, hbb, hcl⟩ := hr (by rw [u8s_length]; omega)
    have HR : Hid (Reads w (.slice (some ⟨bb, off + k, none⟩) (l.length - k) (c - k)) (lowl p l)) := Lib.hid (by
      have hlen : (lowl p l).length = l.length - k := by rw [lowl, List.length_drop, hk]
      refine ⟨some ⟨bb, off + k, none⟩, c - k, by rw [hlen], by rw [hlen]; omega, ?_⟩
      have h8 := Lies.drop (show Lies w w.heap.size (some ⟨bb, off, none⟩) (u8s l) from fun _ => ⟨bb, off, rfl, hbb, hcl⟩) k
      rw [lowl, hk, u8s, List.map_drop]
      exact h8)
    have hki : (l.length : Int) - (p : Int) = (k : Int) := by omega
    have hk0 : 0 < (k : Int) := by omega
    have hkl : (k : Int) ≤ (l.length : Int) := by omega
    have hkn : k ≤ l.length := by omega
    have hkc : ¬ c - k = 0 := by omega
    have hkc2 : k < c := by omega
    have hm : max 0 (k : Int) = (k : Int) := by omega
    obtain ⟨L, hL⟩ : ∃ L, l.length = L := ⟨_, rfl⟩
    rw [hL] at HR hlb hki hkl hkn hc ⊢
    clear h hr hL hlt hl hcl hk
    go_enter Tryz.func121, Tryz.ntmps121
    go_wp2
    go_ret
    exact ⟨⟨_, rfl, HR.out⟩, Below.refl _ _⟩

theorem factor_any (v : Value) (l : List Nat) (z : Int) (w : World) (hl : l.length ≤ 5000) (hz : -100000 ≤ z) (hz2 : z ≤ 100000) (hv : Rd l v w) :
    Calls Tryz.prog 125 #[v, .int .i64 z] w fun e w' => e = .returned (.int .u8 (fcI l z : Int)) ∧ w = w' := by
  obtain ⟨a, c, rfl, hc, hr⟩ := hv
  have hlb : (l.length : Int) ≤ 5000 := by omega
  by_cases h0 : z < 0
  · have HF : Hid (fcI l z = 0) := Lib.hid (if_pos h0)
    clear hr
    go_enter Tryz.func125, Tryz.ntmps125
    go_wp2
    go_ret
    exact ⟨ret_int (by rw [HF.out]; rfl), rfl⟩
  · by_cases h1 : (l.length : Int) ≤ z
    · have HF : Hid (fcI l z = 0) := Lib.hid (by unfold fcI; rw [if_neg h0]; exact cf_out _ _ (by omega))
      clear hr
      go_enter Tryz.func125, Tryz.ntmps125
      go_wp2
      go_ret
      exact ⟨ret_int (by rw [HF.out]; rfl), rfl⟩
    · obtain ⟨k, rfl⟩ : ∃ k : Nat, z = k := ⟨z.toNat, by omega⟩
      have hk : k < l.length := by omega
      have hki : (k : Int) < (l.length : Int) := by omega
      obtain ⟨bb, off, rfl, hbb, hcl⟩ := hr (by rw [u8s_length]; omega)
      have hcell : w.cell? ⟨bb, off + (l.length - 1 - k), none⟩ = some (.int .u8 (fcI l (k : Int) : Int)) := by
        rw [show fcI l (k : Int) = sq l (l.length - 1 - k) by unfold fcI; rw [if_neg (by omega), Int.toNat_natCast, cf_in _ _ hk]]
        exact u8s_sq' hcl _ (by omega)
      have hi0 : 0 ≤ (l.length : Int) - 1 - (k : Int) := by omega
      have hi1 : (l.length : Int) - 1 - (k : Int) < (l.length : Int) := by omega
      have hi2 : ((l.length : Int) - 1 - (k : Int)).toNat = l.length - 1 - k := by omega
      have hi3 : l.length - 1 - k < l.length := by omega
      clear hcl hr
      go_enter Tryz.func125, Tryz.ntmps125
      go_wp2
      go_ret
      exact ⟨rfl, rfl⟩

end Go.Proofs.YtnbjaijhdjneoaaGreat

namespace Go.Proofs.YtnbjaijhdjneoaaGreat
open Go.RowKit GfMath PolyMath RsMath SolMath
set_option linter.unusedVariables false
set_option maxRecDepth 100000

/-- The first k, and the last k, changed for one another. -/
def revk (l : List Nat) (k : Nat) : List Nat := tab l.length fun n => if n < k ∨ l.length - k ≤ n then sq l (l.length - 1 - n) else sq l n
theorem revk_length (l : List Nat) (k : Nat) : (revk l k).length = l.length := tab_length _ _
theorem revk_zero (l : List Nat) : revk l 0 = l := by
  unfold revk
  conv => rhs; rw [← tab_self l]
  exact tab_congr _ fun n hn => if_neg (by omega)
theorem revk_full (l : List Nat) (k : Nat) (h : l.length ≤ 2 * k + 1) : revk l k = l.reverse := by
  refine list_eq (by rw [revk_length, List.length_reverse]) fun n hn => ?_
  rw [revk_length] at hn
  have h1 : sq l.reverse n = sq l (l.length - 1 - n) := by
    rw [sq_get _ _ (by rw [List.length_reverse]; exact hn), sq_get _ _ (by omega), List.getElem_reverse]
  rw [revk, sq_tab, if_pos hn, h1]
  split
  · rfl
  · rw [show l.length - 1 - n = n by omega]
theorem revk_step (l : List Nat) (k : Nat) (h : 2 * k + 1 < l.length) :
    ((revk l k).set k (sq (revk l k) (l.length - 1 - k))).set (l.length - 1 - k) (sq (revk l k) k) = revk l (k + 1) := by
  have h1 : sq (revk l k) (l.length - 1 - k) = sq l (l.length - 1 - k) := by rw [revk, sq_tab, if_pos (by omega), if_neg (by omega)]
  have h2 : sq (revk l k) k = sq l k := by rw [revk, sq_tab, if_pos (by omega), if_neg (by omega)]
  rw [h1, h2, revk, tab_set, tab_set, revk]
  refine tab_congr _ fun n hn => ?_
  by_cases e1 : n = l.length - 1 - k
  · rw [if_pos e1, if_pos (by omega), e1, show l.length - 1 - (l.length - 1 - k) = k by omega]
  · rw [if_neg e1]
    by_cases e2 : n = k
    · rw [if_pos e2, if_pos (by omega), e2]
    · rw [if_neg e2]
      by_cases e3 : n < k ∨ l.length - k ≤ n
      · rw [if_pos e3, if_pos (by omega)]
      · rw [if_neg e3, if_neg (by omega)]

set_option maxHeartbeats 1000000 in
theorem reverse_any (g cap : Nat) (l : List Nat) (ys : List Value) (w : World) (hb : By l) (h0 : 0 < l.length) (hl : l.length ≤ 1000) (hr : Row w g 5 (u8s l ++ ys)) :
    Calls Tryz.prog 119 #[.slice (some ⟨g, 0, none⟩) l.length cap] w fun e w' => e = .returned (.tuple #[]) ∧ Row w' g 5 (u8s l.reverse ++ ys) ∧ Only g w w' := by
  have HR0 : Hid (Row w g 5 (u8s (revk l 0) ++ ys)) := Lib.hid (by rw [revk_zero]; exact hr)
  have hli : (l.length : Int) ≤ 1000 := by omega
  have hl0 : 1 ≤ (l.length : Int) := by omega
  obtain ⟨L, hL⟩ : ∃ L, l.length = L := ⟨_, rfl⟩
  have HF : Hid (∀ k, L ≤ 2 * k + 1 → revk l k = l.reverse) := Lib.hid (by rw [← hL]; exact revk_full l)
  have HS : Hid (∀ k, 2 * k + 1 < L → ((revk l k).set k (sq (revk l k) (L - 1 - k))).set (L - 1 - k) (sq (revk l k) k) = revk l (k + 1)) := Lib.hid (by rw [← hL]; exact revk_step l)
  have HLN : Hid (∀ k, (revk l k).length = L) := Lib.hid (by rw [← hL]; exact revk_length l)
  have HB : Hid (∀ k, By (revk l k)) := Lib.hid fun k => tab_by _ fun n _ => by split <;> exact hb.sq _
  rw [hL] at hli hl0 h0 hl ⊢
  obtain ⟨X, hX⟩ : ∃ X, l.reverse = X := ⟨_, rfl⟩
  rw [hX] at HF ⊢
  obtain ⟨RK, hRK⟩ : ∃ RK, revk l = RK := ⟨_, rfl⟩
  rw [hRK] at HF HS HLN HB HR0
  have hL1 : ((1 : Nat) : Int) = 1 := rfl
  clear hr hL hX hRK hb
  go_enter Tryz.func119, Tryz.ntmps119
  go_wp2
  go_loopw [2, 3] (fun i j wr => ∃ k : Nat, k < L ∧ 2 * k ≤ L ∧ i = .int .i64 k ∧ j = .int .i64 ((L : Int) - 1 - (k : Int)) ∧ Row wr g 5 (u8s (RK k) ++ ys) ∧ Only g w wr) (fun i _ _ => L - (intOf i).toNat)
  case atStart => exact ⟨0, by omega, by omega, rfl, by congr 1; omega, HR0.out, Only.refl _ _⟩
  case round =>
    clear HR0
    obtain ⟨k, hk, hk2, rfl, rfl, hrow, ho⟩ := hrel
    have HO := Lib.hid ho
    have HR := Lib.hid hrow
    by_cases hlt : 2 * k + 1 < L
    · obtain ⟨m, hm⟩ : ∃ m, L - 1 - k = m := ⟨_, rfl⟩
      have hj : (L : Int) - 1 - (k : Int) = (m : Int) := by omega
      have hkm : (k : Int) < (m : Int) := by omega
      have hkL : (k : Int) < (L : Int) := by omega
      have hmL : (m : Int) < (L : Int) := by omega
      have hmn : m < L := by omega
      have hm0 : 0 ≤ (m : Int) := by omega
      have hk0 : 0 ≤ (k : Int) := by omega
      have hkm2 : k < m := by omega
      have hln := HLN.out k
      have c1 : wr.cell? ⟨g, k, none⟩ = some (.int .u8 (sq (RK k) k : Int)) := by rw [hrow.cell, List.getElem?_append_left (by rw [u8s_length]; omega), u8s_get _ _ (by omega), sq_get _ _ (by omega)]
      have c2 : wr.cell? ⟨g, m, none⟩ = some (.int .u8 (sq (RK k) m : Int)) := by rw [hrow.cell, List.getElem?_append_left (by rw [u8s_length]; omega), u8s_get _ _ (by omega), sq_get _ _ (by omega)]
      have hf1 := hrow.frozen k
      have hf2 := hrow.frozen m
      have hst := HS.out k hlt
      rw [hm] at hst
      have hx8 := (HB.out k).sq k
      have hy8 := (HB.out k).sq m
      have HNX := HLN.out (k + 1)
      obtain ⟨x, hx⟩ : ∃ x, sq (RK k) k = x := ⟨_, rfl⟩
      obtain ⟨y, hy⟩ : ∃ y, sq (RK k) m = y := ⟨_, rfl⟩
      rw [hx, hy] at hst
      rw [hx] at c1 hx8
      rw [hy] at c2 hy8
      obtain ⟨Rk, hRk⟩ : ∃ Rk, RK k = Rk := ⟨_, rfl⟩
      rw [hRk] at HR hst hln
      obtain ⟨Rn, hRn⟩ : ∃ Rn, RK (k + 1) = Rn := ⟨_, rfl⟩
      have HRN : Hid (RK (k + 1) = Rn) := Lib.hid hRn
      rw [hRn] at hst
      have HST := Lib.hid hst
      have HLk := Lib.hid hln
      rw [hj]
      have HJ := Lib.hid hj
      clear hrow ho hst hln hRk hRn hx hy hm hj HNX HS HF HB HLN
      go_wp2
      go_region
      have R2 : Hid (Row (((wr.setCell ⟨g, k, none⟩ (.int .u8 (y : Int))).setCell ⟨g, m, none⟩ (.int .u8 (x : Int))).drew) g 5 (u8s Rn ++ ys)) := Lib.hid (by
        have h := (HR.out.set k (.int .u8 (y : Int))).set m (.int .u8 (x : Int))
        rw [List.set_append_left _ _ (by rw [u8s_length, HLk.out]; omega), u8s_set, List.set_append_left _ _ (by rw [u8s_length, List.length_set, HLk.out]; omega), u8s_set, HST.out] at h
        exact h.drew)
      have O2 : Hid (Only g w (((wr.setCell ⟨g, k, none⟩ (.int .u8 (y : Int))).setCell ⟨g, m, none⟩ (.int .u8 (x : Int))).drew)) := Lib.hid ((HO.out.setCell ⟨g, k, none⟩ _ (Or.inl rfl)).setCell ⟨g, m, none⟩ _ (Or.inl rfl)).drew
      generalize ((wr.setCell ⟨g, k, none⟩ (.int .u8 (y : Int))).setCell ⟨g, m, none⟩ (.int .u8 (x : Int))).drew = W2 at *
      clear c1 c2 hf1 hf2 HR HO
      go_wp2
      go_roundw
      case rel => exact ⟨k + 1, by omega, by omega, by go_num, by have := HJ.out; congr 1; omega, by rw [HRN.out]; exact R2.out, O2.out⟩
      case measure => simp [intOf]; omega
    · have hnlt : ¬ (k : Int) < (L : Int) - 1 - (k : Int) := by omega
      have HX : Hid (RK k = X) := Lib.hid (HF.out k (by omega))
      clear HF HS HB HLN hrow ho
      go_wp2
      go_end0
      exact ⟨rfl, by rw [← HX.out]; exact HR.out, HO.out⟩

/-- The places that aren't erased, of the first i. -/
theorem oth_snoc (G : List Bool) (l : List Nat) (k : Nat) (h : k < l.length) : othF G (l.take (k + 1)) = othF G (l.take k) + if gAt G (sq l k) then 0 else 1 := by
  rw [take_snoc l k h, ← sq_get l k h]
  unfold othF
  rw [List.filter_append, List.length_append, List.filter_cons, List.filter_nil]
  cases gAt G (sq l k) <;> simp
theorem oth_le (G : List Bool) (l : List Nat) : othF G l ≤ l.length := List.length_filter_le _ _

set_option maxHeartbeats 1000000 in
theorem others_any (s b n p g : Nat) (G : List Bool) (lost : Nat) (V E T : Value) (a : Option Addr) (cap : Nat) (l : List Nat) (w : World) (h : Sol w s b n p g G lost V E T) (hn : n ≤ 255) (hl : l.length ≤ 1000) (hin : ∀ x ∈ l, x < n) (hr : Lies w w.heap.size a (nats l)) :
    Calls Tryz.prog 101 #[.pointer (some ⟨s, 0, none⟩), .slice a l.length cap] w fun e w' => e = .returned (.int .i64 (othF G l : Int)) ∧ w = w' := by
  have h3 := h.c3
  have HG := Lib.hid (h.gc)
  have HIN := Lib.hid hin
  have HR := Lib.hid hr
  have hli : (l.length : Int) ≤ 1000 := by omega
  clear h hin hr
  go_enter Tryz.func101, Tryz.ntmps101
  go_wp2
  go_loop [5, 10] (fun t i => ∃ k : Nat, k ≤ l.length ∧ i = .int .i64 k ∧ t = .int .i64 (othF G (l.take k) : Int)) (fun _ i => l.length - (intOf i).toNat)
  case atStart => exact ⟨0, Nat.zero_le _, rfl, rfl⟩
  case round =>
    obtain ⟨k, hk, rfl, rfl⟩ := hrel
    by_cases hlt : k < l.length
    · have hx := HIN.out (sq l k) (by rw [sq_get l k hlt]; exact List.getElem_mem hlt)
      obtain ⟨bb, off, rfl, hbb, hcl⟩ := HR.out (by rw [nats_length]; omega)
      have hc := hcl k _ (nats_get l k hlt)
      rw [← sq_get l k hlt] at hc
      have hgc := HG.out (sq l k) hx
      have hle := oth_le G (l.take k)
      rw [List.length_take] at hle
      have HS := Lib.hid (oth_snoc G l k hlt)
      obtain ⟨x, hxe⟩ : ∃ x, sq l k = x := ⟨_, rfl⟩
      rw [hxe] at hx hc hgc HS
      obtain ⟨t, ht⟩ : ∃ t, othF G (l.take k) = t := ⟨_, rfl⟩
      rw [ht] at hle HS ⊢
      have htb : (t : Int) ≤ 1000 := by omega
      have ht0 : 0 ≤ (t : Int) := by omega
      have hki : (k : Int) < (l.length : Int) := by omega
      have hxn : (x : Int) < (n : Int) := by omega
      have hx0 : 0 ≤ (x : Int) := by omega
      clear hcl hxe ht hle
      cases hg : gAt G x with
      | true =>
        rw [hg] at hgc HS
        clear hg
        go_wp2
        go_round
        case rel => exact ⟨k + 1, by omega, by go_num, by rw [HS.out]; rfl⟩
        case measure => simp [intOf]; omega
      | false =>
        rw [hg] at hgc HS
        clear hg
        go_wp2
        go_round
        case rel => exact ⟨k + 1, by omega, by go_num, by rw [HS.out]; go_num⟩
        case measure => simp [intOf]; omega
    · have e : l.take k = l := List.take_of_length_le (by omega)
      rw [e]
      clear e
      go_wp2
      go_ret
      exact ⟨rfl, rfl⟩

theorem rs_over_any (c b k p : Nat) (v : Value) (w : World) (h : Cor w c b k p v) : Calls Tryz.prog 44 #[.pointer (some ⟨c, 0, none⟩)] w fun e w' => e = .returned (.pointer (some ⟨b, 0, none⟩)) ∧ w = w' := by
  have HN := Lib.hid (rs_none_any c b k p v w h)
  have h0 := h.c0
  clear h
  go_enter Tryz.func44, Tryz.ntmps44
  go_wp2_with (go_at_call 69; (with_reducible refine HN.out.mono ?_); rintro e w1 ⟨rfl, rfl⟩)
  go_ret
  exact ⟨rfl, rfl⟩

theorem within_any (c b k p : Nat) (v : Value) (x y : Nat) (w : World) (h : Cor w c b k p v) (hn : k + p ≤ 255) (hx : x ≤ 100000) (hy : y ≤ 100000) :
    Calls Tryz.prog 100 #[.pointer (some ⟨c, 0, none⟩), .int .i64 (x : Int), .int .i64 (y : Int)] w fun e w' => e = .returned (.bool (decide (x ≤ p ∧ y ≤ (p - x) / 2))) ∧ Below w.heap.size w w' := by
  have HO := Lib.hid (rs_over_any c b k p v w h)
  have HS := Lib.hid (rs_size_any c b k p v w h)
  obtain ⟨n, hnn⟩ : ∃ n, k + p = n := ⟨_, rfl⟩
  rw [hnn] at HS hn
  have hnk : (n : Int) - (k : Int) = (p : Int) := by omega
  have hpb : (p : Int) ≤ 255 := by omega
  have hp0 : 0 ≤ (p : Int) := by omega
  have hnb : (n : Int) ≤ 255 := by omega
  have hkb : (k : Int) ≤ 255 := by omega
  have hxb : (x : Int) ≤ 100000 := by omega
  have hyb : (y : Int) ≤ 100000 := by omega
  have hx0 : ¬ (x : Int) < 0 := by omega
  have hy0 : ¬ (y : Int) < 0 := by omega
  clear h hnn
  by_cases h1 : x ≤ p
  · have h1i : (x : Int) ≤ (p : Int) := by omega
    have h1d : decide (x ≤ p) = true := by simpa using h1
    obtain ⟨q, hq⟩ : ∃ q, (p - x) / 2 = q := ⟨_, rfl⟩
    have hpx : 0 ≤ (p : Int) - (x : Int) := by omega
    have hqi : ((p : Int) - (x : Int)) / 2 = (q : Int) := by omega
    have hqt : ((p : Int) - (x : Int)).tdiv 2 = (q : Int) := by rw [Int.tdiv_eq_ediv_of_nonneg hpx]; exact hqi
    have HD : Hid (decide (x ≤ p ∧ y ≤ (p - x) / 2) = decide ((y : Int) ≤ (q : Int))) := Lib.hid (by rw [Bool.eq_iff_iff, decide_eq_true_iff, decide_eq_true_iff, hq]; omega)
    have HD2 : Hid (decide ((y : Int) ≤ (q : Int)) = decide (y ≤ q)) := Lib.hid (by rw [Bool.eq_iff_iff, decide_eq_true_iff, decide_eq_true_iff]; omega)
    clear hq
    go_enter Tryz.func100, Tryz.ntmps100
    go_wp2_with (first
      | (go_at_call 44; (with_reducible refine HO.out.mono ?_); rintro e w1 ⟨rfl, rfl⟩)
      | (go_at_call 45; (with_reducible refine HS.out.mono ?_); rintro e w1 ⟨rfl, b1⟩; have B1 := Lib.hid b1; clear b1))
    go_ret
    exact ⟨by rw [HD.out, HD2.out]; rfl, B1.out⟩
  · have h1i : ¬ (x : Int) ≤ (p : Int) := by omega
    have h1d : decide (x ≤ p) = false := by simpa using h1
    have HD : Hid (decide (x ≤ p ∧ y ≤ (p - x) / 2) = false) := Lib.hid (by simp [h1])
    go_enter Tryz.func100, Tryz.ntmps100
    go_wp2_with (first
      | (go_at_call 44; (with_reducible refine HO.out.mono ?_); rintro e w1 ⟨rfl, rfl⟩)
      | (go_at_call 45; (with_reducible refine HS.out.mono ?_); rintro e w1 ⟨rfl, b1⟩; have B1 := Lib.hid b1; clear b1))
    go_ret
    exact ⟨by rw [HD.out]; rfl, B1.out⟩

end Go.Proofs.YtnbjaijhdjneoaaGreat

namespace Go.Proofs.YtnbjaijhdjneoaaGreat
open Go.RowKit GfMath PolyMath RsMath SolMath
set_option linter.unusedVariables false
set_option maxRecDepth 100000

theorem setG_snoc (G : List Bool) (l : List Int) (k : Nat) (h : k < l.length) : setG G (l.take (k + 1)) = (setG G (l.take k)).set l[k].toNat true := by
  rw [take_snoc l k h, setG, List.foldl_append]; rfl
theorem inB_false {n : Nat} {l : List Int} (k : Nat) (h : k < l.length) (hb : l[k] < 0 ∨ (n : Int) ≤ l[k]) : inB n l = false := by
  unfold inB
  rw [List.all_eq_false]
  refine ⟨l[k], List.getElem_mem h, ?_⟩
  simp
  omega
theorem inB_true {n : Nat} {l : List Int} (h : ∀ k (hk : k < l.length), 0 ≤ l[k] ∧ l[k] < (n : Int)) : inB n l = true := by
  unfold inB
  rw [List.all_eq_true]
  intro x hx
  obtain ⟨k, hk, rfl⟩ := List.mem_iff_getElem.1 hx
  simp [h k hk]

theorem Sol.putG {w : World} {s b n p g : Nat} {G : List Bool} {lost : Nat} {V E T : Value} (h : Sol w s b n p g G lost V E T) (hb : b ≠ g) (i : Nat) : Sol (w.setCell ⟨g, i, none⟩ (.bool true)) s b n p g (G.set i true) lost V E T :=
  ⟨h.row.far _ _ (fun e => h.ne e.symm), by have := h.gone.set i (.bool true); rwa [bools_set] at this, h.fld.far _ _ hb, h.ne, by rw [List.length_set]; exact h.len, h.slV, h.slE, h.slT⟩
theorem Sol.putLost {w : World} {s b n p g : Nat} {G : List Bool} {lost : Nat} {V E T : Value} (h : Sol w s b n p g G lost V E T) (hb : b ≠ s) (m : Nat) : Sol (w.setCell ⟨s, 4, none⟩ (.int .i64 (m : Int))) s b n p g G m V E T :=
  ⟨h.row.set 4 _, h.gone.far _ _ h.ne, h.fld.far _ _ hb, h.ne, h.len, h.slV, h.slE, h.slT⟩

set_option maxHeartbeats 1000000 in
theorem erase_any (B s b n p g : Nat) (G : List Bool) (V E T : Value) (a : Option Addr) (cap : Nat) (l : List Int) (w : World) (h : Sol w s b n p g G (cnt G) V E T) (hn : n ≤ 255) (hl : l.length ≤ 1000) (hr : Lies w B a (ints l))
    (hB : b < B) (hBs : B ≤ s) (hBg : B ≤ g) :
    Calls Tryz.prog 96 #[.pointer (some ⟨s, 0, none⟩), .slice a l.length cap] w fun e w' => e = .returned (.bool (inB n l)) ∧ (inB n l = true → Sol w' s b n p g (setG G l) (cnt (setG G l)) V E T) ∧ Below B w w' := by
  have H0 := Lib.hid h
  have HR := Lib.hid hr
  have hli : (l.length : Int) ≤ 1000 := by omega
  have hnb : (n : Int) ≤ 255 := by omega
  have HBB : Hid (b ≠ g ∧ b ≠ s) := Lib.hid ⟨by omega, by omega⟩
  have HBS : Hid (B ≤ s) := Lib.hid hBs
  have HBG : Hid (B ≤ g) := Lib.hid hBg
  clear h hr hB hBs hBg
  go_enter Tryz.func96, Tryz.ntmps96
  go_wp2
  go_loopw [9] (fun i wr => ∃ k : Nat, k ≤ l.length ∧ i = .int .i64 k ∧ (∀ j (hj : j < k) (hj2 : j < l.length), 0 ≤ l[j] ∧ l[j] < (n : Int)) ∧ Sol wr s b n p g (setG G (l.take k)) (cnt (setG G (l.take k))) V E T ∧ Below B w wr) (fun i _ => l.length - (intOf i).toNat)
  case atStart => exact ⟨0, Nat.zero_le _, rfl, fun j hj => absurd hj (by omega), H0.out, Below.refl _ _⟩
  case round =>
    clear H0
    obtain ⟨k, hk, rfl, hin, hsol, hbw⟩ := hrel
    have HSOL := Lib.hid hsol
    have HBW := Lib.hid hbw
    by_cases hlt : k < l.length
    · obtain ⟨bb, off, rfl, hbb, hcl⟩ := HR.out (by rw [ints_length]; omega)
      have hc : wr.cell? ⟨bb, off + k, none⟩ = some (.int .i64 l[k]) := by
        rw [hbw.cell (p := ⟨bb, off + k, none⟩) hbb]
        exact hcl k _ (ints_get l k hlt)
      have hki : (k : Int) < (l.length : Int) := by omega
      have c1 := hsol.c1
      have c3 := hsol.c3
      have c4 := hsol.c4
      have HIN := Lib.hid hin
      have HX : Hid (∀ x, x = l[k] → x < 0 ∨ (n : Int) ≤ x → inB n l = false) := Lib.hid fun x e hx => inB_false k hlt (e ▸ hx)
      have HS : Hid (setG G (l.take (k + 1)) = (setG G (l.take k)).set l[k].toNat true) := Lib.hid (setG_snoc G l k hlt)
      have HIN2 : Hid (∀ x, x = l[k] → 0 ≤ x → x < (n : Int) → ∀ j (hj : j < k + 1) (hj2 : j < l.length), 0 ≤ l[j] ∧ l[j] < (n : Int)) := Lib.hid fun x e h0 h1 j hj hj2 => by
        by_cases ej : j = k
        · subst ej; exact ⟨e ▸ h0, e ▸ h1⟩
        · exact hin j (by omega) hj2
      have hle := cnt_le (setG G (l.take k))
      rw [hsol.len] at hle
      obtain ⟨x, hx⟩ : ∃ x, x = l[k] := ⟨_, rfl⟩
      rw [← hx] at hc HS
      have HXX := HX.out x hx
      have HIN3 := HIN2.out x hx
      have HX2 := Lib.hid HXX
      have HIN4 := Lib.hid HIN3
      clear hcl hin hsol hbw HIN HX HIN2 HXX HIN3 hx
      by_cases hx0 : x < 0
      · have HF : Hid (inB n l = false) := Lib.hid (HX2.out (Or.inl hx0))
        clear hle
        go_wp2
        go_ret
        exact ⟨ret_bool HF.out.symm, (fun e => by rw [HF.out] at e; cases e), HBW.out⟩
      · by_cases hxn : (n : Int) ≤ x
        · have HF : Hid (inB n l = false) := Lib.hid (HX2.out (Or.inr hxn))
          have hx0' : 0 ≤ x := by omega
          clear hle
          go_wp2
          go_ret
          exact ⟨ret_bool HF.out.symm, (fun e => by rw [HF.out] at e; cases e), HBW.out⟩
        · obtain ⟨y, rfl⟩ : ∃ y : Nat, x = y := ⟨x.toNat, by omega⟩
          have hyn : y < n := by omega
          have hgl : Hid ((setG G (l.take k)).length = n) := Lib.hid HSOL.out.len
          have hgc := HSOL.out.gc y hyn
          have hfg := HSOL.out.gone.frozen y
          have hfs := HSOL.out.row.frozen 4
          have HIN5 : Hid (∀ j (hj : j < k + 1) (hj2 : j < l.length), 0 ≤ l[j] ∧ l[j] < (n : Int)) := Lib.hid (HIN4.out (by omega) (by omega))
          obtain ⟨Gk, hGk⟩ : ∃ Gk, setG G (l.take k) = Gk := ⟨_, rfl⟩
          rw [hGk] at hle hgc HSOL c4 HS hgl
          have hyt : ((y : Int)).toNat = y := Int.toNat_natCast y
          rw [hyt] at HS
          have hy0 : 0 ≤ (y : Int) := by omega
          have hyi : (y : Int) < (n : Int) := by omega
          clear hGk HIN4 HX2 hx0 hxn hyt
          cases hg : gAt Gk y with
          | true =>
            have HSE : Hid (Gk.set y true = Gk) := Lib.hid (set_self hg)
            rw [hg] at hgc
            clear hg hfg hfs hle
            go_wp2
            go_roundw
            case rel => exact ⟨k + 1, by omega, by go_num, HIN5.out, by rw [HS.out, HSE.out]; exact HSOL.out, HBW.out⟩
            case measure => simp [intOf]; omega
          | false =>
            have HCN : Hid (cnt (Gk.set y true) = cnt Gk + 1) := Lib.hid (cnt_set (by rw [hgl.out]; exact hyn) hg)
            rw [hg] at hgc
            obtain ⟨c, hc0⟩ : ∃ c, cnt Gk = c := ⟨_, rfl⟩
            rw [hc0] at HCN HSOL hle c4
            have hcb : (c : Int) ≤ 255 := by omega
            have hc00 : 0 ≤ (c : Int) := by omega
            have HNE : Hid (g ≠ s) := Lib.hid HSOL.out.ne
            have hne : ¬ g = s := HNE.out
            have hne2 : ¬ s = g := fun e => HNE.out e.symm
            clear hg hc0 hle
            go_wp2
            go_roundw
            case rel =>
              refine ⟨k + 1, by omega, by go_num, HIN5.out, ?_, ?_⟩
              · rw [HS.out, HCN.out]
                exact (HSOL.out.putG HBB.out.1 y).putLost HBB.out.2 (c + 1)
              · exact (HBW.out.setCell (p := ⟨g, y, none⟩) HBG.out _).setCell (p := ⟨s, 4, none⟩) HBS.out _
            case measure => simp [intOf]; omega
    · have ek : k = l.length := by omega
      subst ek
      have HT : Hid (inB n l = true) := Lib.hid (inB_true fun j hj => hin j hj hj)
      have e1 : l.take l.length = l := List.take_length
      rw [e1] at HSOL
      clear hin hsol hbw e1
      go_wp2
      go_ret
      exact ⟨ret_bool HT.out.symm, fun _ => HSOL.out, HBW.out⟩

end Go.Proofs.YtnbjaijhdjneoaaGreat

namespace Go.Proofs.YtnbjaijhdjneoaaGreat
open Go.RowKit GfMath PolyMath RsMath SolMath
set_option linter.unusedVariables false
set_option maxRecDepth 100000

theorem Sol.setOnly {w w' : World} {s b n p g : Nat} {G : List Bool} {lost : Nat} {V E T V' E' T' : Value} (h : Sol w s b n p g G lost V E T) (hb : b ≠ s) (r : Row w' s 167 (solL b n p g lost V' E' T')) (ho : Only s w w')
    (h1 : ∃ a n c, V' = .slice a n c) (h2 : ∃ a n c, E' = .slice a n c) (h3 : ∃ a n c, T' = .slice a n c) : Sol w' s b n p g G lost V' E' T' :=
  ⟨r, h.gone.only ho h.ne, h.fld.only ho hb, h.ne, h.len, h1, h2, h3⟩
theorem Sol.only {w w' : World} {s b n p g k : Nat} {G : List Bool} {lost : Nat} {V E T : Value} (h : Sol w s b n p g G lost V E T) (ho : Only k w w') (h1 : s ≠ k) (h2 : g ≠ k) (h3 : b ≠ k) : Sol w' s b n p g G lost V E T :=
  ⟨h.row.only ho h1, h.gone.only ho h2, h.fld.only ho h3, h.ne, h.len, h.slV, h.slE, h.slT⟩
theorem byRev {l : List Nat} (h : By l) : By l.reverse := fun x hx => h x (List.mem_reverse.1 hx)
theorem row_reads {w : World} {g c : Nat} {l : List Nat} {ys : List Value} (h : Row w g 5 (u8s l ++ ys)) (hc : l.length ≤ c) : Reads w (.slice (some ⟨g, 0, none⟩) l.length c) l :=
  ⟨_, c, rfl, hc, fun _ => ⟨g, 0, rfl, h.lt, fun j u hu => by
    rw [Nat.zero_add, h.cell, List.getElem?_append_left (by
      have := (List.getElem?_eq_some_iff.1 hu).1; exact this)]
    exact hu⟩⟩
theorem size_bytes : (Tryz.prog.info? 67).map (·.size) = some 1 := by kernel_rfl

set_option maxHeartbeats 1000000 in
theorem look_any (B s b n p g lost gv : Nat) (G : List Bool) (V E T : Value) (X : List Nat) (w : World) (h : Sol w s b n p g G lost V E T) (hn : n ≤ 255) (hp1 : 1 ≤ p) (hp : p ≤ 64) (hX : X.length = p) (hby : By X) (hr : Row w gv 5 (u8s X))
    (hB : b < B) (hBs : B ≤ s) (hBg : B ≤ g) :
    Calls Tryz.prog 97 #[.pointer (some ⟨s, 0, none⟩), .slice (some ⟨gv, 0, none⟩) p p] w fun e w' => e = .returned (.tuple #[]) ∧
      (∃ V' E' T', Sol w' s b n p g G lost V' E' T' ∧ Reads w' V' X.reverse ∧ Reads w' E' (erF n G n) ∧ Reads w' T' (toldF p X.reverse (erF n G n))) ∧ Below B w w' := by
  have HS0 := Lib.hid h
  have HBS : Hid (B ≤ s) := Lib.hid hBs
  have HBW0 : Hid (B ≤ w.heap.size) := Lib.hid (by have := h.lt; omega)
  have HBNS : Hid (b ≠ s) := Lib.hid (by omega)
  have HCL : Hid (Calls Tryz.prog 89 #[.slice (some ⟨gv, 0, none⟩) p p] w fun e w' =>
      (∃ g' c', e = .returned (.slice (some ⟨g', 0, none⟩) p c') ∧ s < g' ∧ g < g' ∧ B ≤ g' ∧ b ≠ g' ∧ p ≤ c' ∧ ∃ ys, Row w' g' 5 (u8s X ++ ys)) ∧ Below w.heap.size w w') := Lib.hid (by
    have := clone_some gv 0 p X w (by omega) (by omega) (row_lies hr)
    rw [hX] at this
    refine this.mono fun e w' ⟨⟨g', c', h1, h2, h3⟩, h4⟩ => ?_
    have q1 := h.lt
    have q2 := h.gone.lt
    exact ⟨⟨g', c', h1, by omega, by omega, by omega, by omega, (own_lies h3).2, (own_row h3).2⟩, h4⟩)
  have HREV : Hid (∀ (u : World) (g' c' : Nat) (ys : List Value), Row u g' 5 (u8s X ++ ys) → Calls Tryz.prog 119 #[.slice (some ⟨g', 0, none⟩) p c'] u fun e w' => e = .returned (.tuple #[]) ∧ Row w' g' 5 (u8s X.reverse ++ ys) ∧ Only g' u w') := Lib.hid fun u g' c' ys hu => by
    have := reverse_any g' c' X ys u hby (by omega) (by omega) hu
    rwa [hX] at this
  have hnb : (n : Int) ≤ 255 := by omega
  have HN : Hid (n ≤ 255) := Lib.hid hn
  have HP1 : Hid (1 ≤ p ∧ p ≤ 64) := Lib.hid ⟨hp1, hp⟩
  have HXL : Hid (X.reverse.length = p) := Lib.hid (by rw [List.length_reverse]; exact hX)
  have HBX : Hid (By X.reverse) := Lib.hid (byRev hby)
  obtain ⟨XR, hXR⟩ : ∃ XR, X.reverse = XR := ⟨_, rfl⟩
  rw [hXR] at HREV HXL HBX ⊢
  have HL8 : Hid (5 < (solL b n p g lost V E T).length) := Lib.hid (by show 5 < 8; omega)
  have HL86 : Hid (∀ V', 6 < (solL b n p g lost V' E T).length) := Lib.hid fun _ => by show 6 < 8; omega
  have HVC : Hid (∀ a n c, (Value.slice a n c).cells = #[.slice a n c]) := Lib.hid fun _ _ _ => rfl
  have HVO : Hid (∀ a n c, (Value.slice a n c).oneCell' = true) := Lib.hid fun _ _ _ => rfl
  have hfs := h.row.frozen 5
  clear hXR h hr hX hby hB hBs hBg hn hp1 hp hfs
  go_enter Tryz.func97, Tryz.ntmps97
  go_wp2_with (first
    | (go_at_call 89; (with_reducible refine HCL.out.mono ?_); rintro e w1 ⟨⟨g', c', rfl, q1, q2, q3, q4, q5, ys, r1⟩, b1⟩; have Q1 : Hid (s ≠ g' ∧ g ≠ g' ∧ b ≠ g' ∧ B ≤ g') := Lib.hid ⟨by omega, by omega, q4, q3⟩; have Q5 := Lib.hid q5; have R1 := Lib.hid r1; have S1 := Lib.hid (HS0.out.step b1); have B1 := Lib.hid b1; clear q1 q2 q3 q4 q5 r1 b1)
    | ((with_reducible refine S1.out.row.wpStore1K 5 67 (.slice (some ⟨g', 0, none⟩) p c') size_bytes HL8.out (HVC.out _ _ _) (HVO.out _ _ _) ?_ ?_); rfl; intro w2 r2 o2 s2; have S2 : Hid (Sol w2 s b n p g G lost (.slice (some ⟨g', 0, none⟩) p c') E T) := Lib.hid (S1.out.setOnly HBNS.out r2 o2 ⟨_, _, _, rfl⟩ S1.out.slE S1.out.slT); have R2 := Lib.hid (R1.out.only o2 Q1.out.1.symm); have B2 : Hid (Below B w w2) := Lib.hid ((B1.out.mono HBW0.out).trans (o2.below HBS.out (Nat.le_trans HBW0.out B1.out.size))); have c5 := S2.out.c5; clear r2 o2 s2)
    | (go_at_call 119; (with_reducible refine (HREV.out w2 g' c' ys R2.out).mono ?_); rintro e w3 ⟨rfl, r3, o3⟩; have R3 := Lib.hid r3; have S3 := Lib.hid (S2.out.only o3 Q1.out.1 Q1.out.2.1 Q1.out.2.2.1); have B3 : Hid (Below B w w3) := Lib.hid (B2.out.trans (o3.below Q1.out.2.2.2 (Nat.le_trans HBW0.out B2.out.size))); clear r3 o3 c5)
    | ((with_reducible refine (S3.out.row.alloc _).wpStore1K 6 67 (.slice (some ⟨w3.heap.size, 0, none⟩) 1 1) size_bytes (HL86.out _) (HVC.out _ _ _) (HVO.out _ _ _) ?_ ?_); rfl; intro w4 r4 o4 s4; have S4 : Hid (Sol w4 s b n p g G lost (.slice (some ⟨g', 0, none⟩) p c') (.slice (some ⟨w3.heap.size, 0, none⟩) 1 1) T) := Lib.hid ((S3.out.step (alloc_below _ _)).setOnly HBNS.out r4 o4 S3.out.slV ⟨_, _, _, rfl⟩ S3.out.slT); have R4 := Lib.hid ((R3.out.alloc _).only o4 Q1.out.1.symm); have B4 : Hid (Below B w w4) := Lib.hid ((B3.out.trans ((alloc_below _ _).mono (Nat.le_trans HBW0.out B3.out.size))).trans (o4.below HBS.out (Nat.le_trans (Nat.le_trans HBW0.out B3.out.size) (alloc_below _ _).size))); have RE4 : Hid (Reads w4 (.slice (some ⟨w3.heap.size, 0, none⟩) 1 1) [1]) := Lib.hid (row_reads (l := [1]) (ys := []) ((Row.new w3 5 [.int .u8 1]).only o4 (Nat.ne_of_gt S3.out.lt)) (Nat.le_refl _)); have c1 := S4.out.c1; clear r4 o4 s4))
  have RV4 : Hid (Reads w4 (.slice (some ⟨g', 0, none⟩) p c') XR) := Lib.hid (by
    have := row_reads (c := c') R4.out (by rw [HXL.out]; exact Q5.out)
    rwa [HXL.out] at this)
  obtain ⟨V1, hV1⟩ : ∃ V1, Value.slice (some ⟨g', 0, none⟩) p c' = V1 := ⟨_, rfl⟩
  rw [hV1] at S4 RV4
  clear hV1 R4 R3 R2 R1 S1 S2 S3 B1 B2 B3 HREV HCL HS0 HL8 HL86 HVC HVO Q5
  go_loopw [23] (fun i wr => ∃ k : Nat, k ≤ n ∧ i = .int .i64 k ∧ ∃ E1, Sol wr s b n p g G lost V1 E1 T ∧ Reads wr V1 XR ∧ Reads wr E1 (erF n G k) ∧ Below B w wr) (fun i _ => n - (intOf i).toNat)
  case atStart => exact ⟨0, Nat.zero_le _, rfl, _, S4.out, RV4.out, RE4.out, B4.out⟩
  case round =>
    clear S4 RV4 RE4 B4 c1
    obtain ⟨k, hk, rfl, E1, hsol, hrv, hre, hbw⟩ := hrel
    have HSOL := Lib.hid hsol
    have HRV := Lib.hid hrv
    have HBW := Lib.hid hbw
    have HLT := Lib.hid hsol.lt
    have C0 := Lib.hid hsol.c0
    have C5 := Lib.hid hsol.c5
    have C6 := Lib.hid hsol.c6
    obtain ⟨he1, he2⟩ := erF_all n G k
    obtain ⟨Ek, hEk⟩ : ∃ Ek, erF n G k = Ek := ⟨_, rfl⟩
    by_cases hlt : k < n
    · have hki : (k : Int) < (n : Int) := by omega
      have c3 := hsol.c3
      have hgc := hsol.gc k hlt
      have HER0 : Hid (erF n G (k + 1) = if gAt G k then pms [Ek, [mrk n k, 1]] else Ek) := Lib.hid (by rw [← hEk]; rfl)
      rw [hEk] at hre he1 he2
      have HRE := Lib.hid hre
      have HBE := Lib.hid he1
      clear hsol hrv hbw hre hEk
      cases hg : gAt G k with
      | true =>
        rw [hg] at hgc
        have HMK : Hid (∀ wx, Below wr.heap.size wr wx → Calls Tryz.prog 120 #[.pointer (some ⟨s, 0, none⟩), .int .i64 (k : Int)] wx fun e w' => e = .returned (.int .u8 (mrk n k : Int)) ∧ Below wx.heap.size wx w') := Lib.hid fun wx hb => mark_any s b n p g G lost V1 E1 T k wx (HSOL.out.step hb) HN.out hlt
        have hm8 := mrk_lt n k
        have HPM : Hid (∀ wx, Below wr.heap.size wr wx → ∀ v, Pls [Ek, [mrk n k, 1]] v wx → Calls Tryz.prog 104 #[.pointer (some ⟨b, 0, none⟩), v] wx fun e w' => (∃ v, e = .returned v ∧ Reads w' v (pms [Ek, [mrk n k, 1]])) ∧ Below wx.heap.size wx w') := Lib.hid fun wx hb v hv => pmulV b v _ wx (HSOL.out.fld.step hb) hv (by simp) (by intro l hl; simp only [List.mem_cons, List.not_mem_nil, or_false] at hl; rcases hl with rfl | rfl; omega; simp)
        have HBM : Hid (By [mrk n k, 1]) := Lib.hid (by_two hm8 (by omega))
        have HER : Hid (erF n G (k + 1) = pms [Ek, [mrk n k, 1]]) := Lib.hid (by rw [HER0.out, hg]; rfl)
        obtain ⟨m, hm⟩ : ∃ m, mrk n k = m := ⟨_, rfl⟩
        rw [hm] at HMK HPM HBM HER hm8
        obtain ⟨Y, hY⟩ : ∃ Y, pms [Ek, [m, 1]] = Y := ⟨_, rfl⟩
        rw [hY] at HPM HER
        clear hg HER0 hm hY he1 he2
        go_wp2
        refine region_store 17 [] [(0, 33), (1, 34), (2, 35), (3, 36), (4, 37), (5, 38), (6, 39), (7, 40), (8, 41), (9, 42), (10, 43), (11, 44), (12, 45), (13, 46), (14, 47), (15, 48), (16, 49)]
          (fun i => [Is (.pointer (some ⟨s, 0, none⟩)), Is (.pointer (some ⟨s, 0, none⟩)), Is (.pointer (some ⟨s, 0, none⟩)), Is (.pointer (some ⟨s, 0, none⟩)), Is (.pointer (some ⟨b, 0, none⟩)), Is (.pointer (some ⟨s, 0, none⟩)), Is (.pointer (some ⟨s, 0, none⟩)), Is (.pointer (some ⟨s, 6, none⟩)), Rd Ek, Is (.pointer (some ⟨s, 0, none⟩)), Is (.int .i64 (k : Int)), Is (.int .u8 (m : Int)), Rd [m, 1], Pls [Ek, [m, 1]], Rd Y, Is (.pointer (some ⟨s, 0, none⟩)), Is (.pointer (some ⟨s, 6, none⟩))].getD i (Is undef))
          (fun w' => Below wr.heap.size wr w') (fun w' => ∃ E2, Sol w' s b n p g G lost V1 E2 T ∧ Reads w' V1 XR ∧ Reads w' E2 Y ∧ Below B w w') (by kernel_rfl) (by kernel_rfl) (by kernel_rfl) (by kernel_rfl) (by decide) (by decide) (by kernel_rfl) rfl (by kernel_rfl) ?monoq ((Below.refl _ _).drew) ?stepq ?stepXq ?stepSq ?finq
        case monoq =>
          intro i
          match i with
          | 0 | 1 | 2 | 3 | 4 | 5 | 6 | 7 | 9 | 10 | 11 | 15 | 16 => exact Is.monot _
          | 8 | 12 | 14 => exact Rd.monot _
          | 13 => exact Pls.monot _
          | _ + 17 => exact Is.monot _
        case stepq =>
          refine List.forall_mem_cons.2 ⟨?qs0, List.forall_mem_cons.2 ⟨?qs1, List.forall_mem_cons.2 ⟨?qs2, List.forall_mem_cons.2 ⟨?qs3, List.forall_mem_cons.2 ⟨?qs4, List.forall_mem_cons.2 ⟨?qs5, List.forall_mem_cons.2 ⟨?qs6, List.forall_mem_cons.2 ⟨?qs7, List.forall_mem_cons.2 ⟨?qs8, List.forall_mem_cons.2 ⟨?qs9, List.forall_mem_cons.2 ⟨?qs10, List.forall_mem_cons.2 ⟨?qs11, List.forall_mem_cons.2 ⟨?qs12, List.forall_mem_cons.2 ⟨?qs13, List.forall_mem_cons.2 ⟨?qs14, List.forall_mem_cons.2 ⟨?qs15, List.forall_mem_cons.2 ⟨?qs16, List.forall_mem_nil _⟩⟩⟩⟩⟩⟩⟩⟩⟩⟩⟩⟩⟩⟩⟩⟩⟩
          case qs0 =>
            intro u wx hg hC
            clear hC
            refine wpOp_step rfl (fun K hK => ?_)
            simp only [puts, List.foldl]
            go_simp
            exact hK _ _ ⟨rfl, rfl, hg, Below.refl _ _⟩
          case qs1 =>
            intro u wx hg hC
            clear hC
            refine wpOp_step rfl (fun K hK => ?_)
            simp only [puts, List.foldl]
            go_simp
            exact hK _ _ ⟨rfl, rfl, hg, Below.refl _ _⟩
          case qs2 =>
            intro u wx hg hC
            have hJ1 : u 1 = (.pointer (some ⟨s, 0, none⟩)) := hC.at 1 (by kernel_rfl)
            clear hC
            refine wpOp_step rfl (fun K hK => ?_)
            simp only [puts, List.foldl]
            go_simp
            exact hK _ _ ⟨rfl, rfl, hg, Below.refl _ _⟩
          case qs3 =>
            intro u wx hg hC
            have hJ2 : u 2 = (.pointer (some ⟨s, 0, none⟩)) := hC.at 2 (by kernel_rfl)
            clear hC
            refine wpOp_step rfl (fun K hK => ?_)
            simp only [puts, List.foldl]
            go_simp
            exact hK _ _ ⟨rfl, rfl, hg, Below.refl _ _⟩
          case qs4 =>
            intro u wx hg hC
            have hJ3 : u 3 = (.pointer (some ⟨s, 0, none⟩)) := hC.at 3 (by kernel_rfl)
            clear hC
            have hcl : wx.cell? ⟨s, 0, none⟩ = some (.pointer (some ⟨b, 0, none⟩)) := (hg.cell (p := ⟨s, 0, none⟩) HLT.out).trans C0.out
            refine wpOp_step rfl (fun K hK => ?_)
            simp only [puts, List.foldl]
            go_simp
            exact hK _ _ ⟨rfl, rfl, hg, Below.refl _ _⟩
          case qs5 =>
            intro u wx hg hC
            clear hC
            refine wpOp_step rfl (fun K hK => ?_)
            simp only [puts, List.foldl]
            go_simp
            exact hK _ _ ⟨rfl, rfl, hg, Below.refl _ _⟩
          case qs6 =>
            intro u wx hg hC
            have hJ5 : u 5 = (.pointer (some ⟨s, 0, none⟩)) := hC.at 5 (by kernel_rfl)
            clear hC
            refine wpOp_step rfl (fun K hK => ?_)
            simp only [puts, List.foldl]
            go_simp
            exact hK _ _ ⟨rfl, rfl, hg, Below.refl _ _⟩
          case qs7 =>
            intro u wx hg hC
            have hJ6 : u 6 = (.pointer (some ⟨s, 0, none⟩)) := hC.at 6 (by kernel_rfl)
            clear hC
            refine wpOp_step rfl (fun K hK => ?_)
            simp only [puts, List.foldl]
            go_simp
            exact hK _ _ ⟨rfl, rfl, hg, Below.refl _ _⟩
          case qs8 =>
            intro u wx hg hC
            have hJ7 : u 7 = (.pointer (some ⟨s, 6, none⟩)) := hC.at 7 (by kernel_rfl)
            clear hC
            have hcl : wx.cell? ⟨s, 6, none⟩ = some E1 := (hg.cell (p := ⟨s, 6, none⟩) HLT.out).trans C6.out
            refine wpOp_step rfl (fun K hK => ?_)
            simp only [puts, List.foldl]
            go_simp
            exact hK _ _ ⟨rfl, HRE.out.step hg, hg, Below.refl _ _⟩
          case qs9 =>
            intro u wx hg hC
            clear hC
            refine wpOp_step rfl (fun K hK => ?_)
            simp only [puts, List.foldl]
            go_simp
            exact hK _ _ ⟨rfl, rfl, hg, Below.refl _ _⟩
          case qs10 =>
            intro u wx hg hC
            clear hC
            refine wpOp_step rfl (fun K hK => ?_)
            simp only [puts, List.foldl]
            go_simp
            exact hK _ _ ⟨rfl, rfl, hg, Below.refl _ _⟩
          case qs11 =>
            intro u wx hg hC
            have hJ9 : u 9 = (.pointer (some ⟨s, 0, none⟩)) := hC.at 9 (by kernel_rfl)
            have hJ10 : u 10 = (.int .i64 (k : Int)) := hC.at 10 (by kernel_rfl)
            clear hC
            refine wpOp_step rfl (fun K hK => ?_)
            simp only [puts, List.foldl]
            go_simp
            refine (HMK.out wx hg).mono ?_
            rintro e w' ⟨rfl, hb'⟩
            exact hK _ _ ⟨rfl, rfl, hg.next hb', hb'⟩
          case qs12 =>
            intro u wx hg hC
            have hJ11 : u 11 = (.int .u8 (m : Int)) := hC.at 11 (by kernel_rfl)
            clear hC
            refine wpOp_step rfl (fun K hK => ?_)
            simp only [puts, List.foldl]
            go_simp
            exact hK _ _ ⟨rfl, ⟨some ⟨wx.heap.size, 0, none⟩, 2, rfl, Nat.le_refl _, Lies.new [_, _] _ _⟩, hg.alloc hg.size _, alloc_below _ _⟩
          case qs13 =>
            intro u wx hg hC
            obtain ⟨a8, c8, e8, q8⟩ : (Rd Ek) (u 8) wx := hC.at 8 (by kernel_rfl)
            have hJ8 : Rd (Ek) (.slice a8 (Ek).length c8) wx := ⟨_, _, rfl, q8⟩
            obtain ⟨a12, c12, e12, q12⟩ : (Rd [m, 1]) (u 12) wx := hC.at 12 (by kernel_rfl)
            have hJ12 : Rd [m, 1] (.slice a12 ([m, 1]).length c12) wx := ⟨_, _, rfl, q12⟩
            clear hC
            refine wpOp_step rfl (fun K hK => ?_)
            simp only [puts, List.foldl]
            go_simp
            refine hK _ _ ⟨rfl, ?_, hg.alloc hg.size _, alloc_below _ _⟩
            change Pls [Ek, [m, 1]] _ _
            exact pls_two (HBE.out) (HBM.out) (hJ8) (hJ12)
          case qs14 =>
            intro u wx hg hC
            have hJ4 : u 4 = (.pointer (some ⟨b, 0, none⟩)) := hC.at 4 (by kernel_rfl)
            have hJ13 : (Pls [Ek, [m, 1]]) (u 13) wx := hC.at 13 (by kernel_rfl)
            clear hC
            refine wpOp_step rfl (fun K hK => ?_)
            simp only [puts, List.foldl]
            go_simp
            refine (HPM.out wx hg _ hJ13).mono ?_
            rintro e w' ⟨⟨v, rfl, hv⟩, hb'⟩
            exact hK _ _ ⟨rfl, hv, hg.next hb', hb'⟩
          case qs15 =>
            intro u wx hg hC
            have hJ0 : u 0 = (.pointer (some ⟨s, 0, none⟩)) := hC.at 0 (by kernel_rfl)
            clear hC
            refine wpOp_step rfl (fun K hK => ?_)
            simp only [puts, List.foldl]
            go_simp
            exact hK _ _ ⟨rfl, rfl, hg, Below.refl _ _⟩
          case qs16 =>
            intro u wx hg hC
            have hJ15 : u 15 = (.pointer (some ⟨s, 0, none⟩)) := hC.at 15 (by kernel_rfl)
            clear hC
            refine wpOp_step rfl (fun K hK => ?_)
            simp only [puts, List.foldl]
            go_simp
            exact hK _ _ ⟨rfl, rfl, hg, Below.refl _ _⟩
        case stepXq =>
          intro p hp hx
          cases hx
        case stepSq =>
          intro u w9 hbw9 hφ
          obtain ⟨a9, c9, e9, hc9, hl9⟩ : Rd Y (u 14) w9 := hφ (14, 47) (by decide) (by decide)
          have hp9 : u 16 = .pointer (some ⟨s, 6, none⟩) := hφ (16, 49) (by decide) (by decide)
          clear hφ
          have HS9 := Lib.hid (HSOL.out.step hbw9)
          have hfz := HS9.out.row.frozen 6
          have hcc := HS9.out.c6
          have HB9 := Lib.hid hbw9
          have HL9 : Hid (Reads w9 (.slice a9 Y.length c9) Y) := Lib.hid ⟨_, _, rfl, hc9, hl9⟩
          have HV9 := Lib.hid (HRV.out.step hbw9)
          
          clear hbw9 hl9
          refine wpOp_step rfl (fun K hK => ?_)
          simp only [puts, List.foldl]
          go_simp
          refine hK _ _ ⟨rfl, _, HS9.out.putE HBNS.out ⟨_, _, _, rfl⟩, ?_, ?_, (HBW.out.trans (HB9.out.mono (Nat.le_trans HBW0.out HBW.out.size))).setCell (p := ⟨s, 6, none⟩) HBS.out _⟩
          · exact Reads.apart HS9.out.row HS9.out.nou8 HV9.out ⟨s, 6, none⟩ rfl _
          · exact Reads.apart HS9.out.row HS9.out.nou8 HL9.out ⟨s, 6, none⟩ rfl _
        case finq =>
          rintro u wq ⟨E2, hs2, hv2, he2, hb2⟩ hφ
          clear hφ
          simp only [puts, List.foldl]
          go_simp
          have HS2 := Lib.hid hs2
          have HV2 := Lib.hid hv2
          have HE2 := Lib.hid he2
          have HB2 := Lib.hid hb2
          clear hs2 hv2 he2 hb2 c3 hgc
          go_wp2
          go_roundw
          case rel => exact ⟨k + 1, by omega, by go_num, E2, HS2.out, HV2.out, by rw [HER.out]; exact HE2.out, HB2.out⟩
          case measure => simp [intOf]; omega
      | false =>
        rw [hg] at hgc
        have HER : Hid (erF n G (k + 1) = Ek) := Lib.hid (by rw [HER0.out, hg]; rfl)
        clear hg HER0 he1 he2
        go_wp2
        go_roundw
        case rel => exact ⟨k + 1, by omega, by go_num, E1, HSOL.out, HRV.out, by rw [HER.out]; exact HRE.out, HBW.out⟩
        case measure => simp [intOf]; omega
    · obtain rfl : k = n := by omega
      have HRE : Hid (Reads wr E1 Ek) := Lib.hid (by rw [← hEk]; exact hre)
      rw [hEk] at he1 he2
      have hYl := pms_two_le XR Ek
      rw [HXL.out] at hYl
      have hpp := HP1.out
      have hnn := HN.out
      have HBE := Lib.hid he1
      have HPM : Hid (∀ wx, Below wr.heap.size wr wx → ∀ v, Pls [XR, Ek] v wx → Calls Tryz.prog 104 #[.pointer (some ⟨b, 0, none⟩), v] wx fun e w' => (∃ v, e = .returned v ∧ Reads w' v (pms [XR, Ek])) ∧ Below wx.heap.size wx w') := Lib.hid fun wx hb v hv => pmulV b v _ wx (HSOL.out.fld.step hb) hv (by simp) (by intro l hl; simp only [List.mem_cons, List.not_mem_nil, or_false] at hl; rcases hl with rfl | rfl; rw [HXL.out]; omega; omega)
      have HLW : Hid (∀ wx, Below wr.heap.size wr wx → ∀ v, Rd (pms [XR, Ek]) v wx → Calls Tryz.prog 121 #[.pointer (some ⟨s, 0, none⟩), v] wx fun e w' => (∃ v, e = .returned v ∧ Reads w' v (lowl p (pms [XR, Ek]))) ∧ Below wx.heap.size wx w') := Lib.hid fun wx hb v hv => low_any s b k p g G lost V1 E1 T v _ wx (HSOL.out.step hb) (by omega) (by omega) (by omega) hv
      have HZ : Hid (toldF p XR (erF k G k) = lowl p (pms [XR, Ek])) := Lib.hid (by rw [hEk]; rfl)
      have HEN : Hid (erF k G k = Ek) := Lib.hid hEk
      obtain ⟨Y, hY⟩ : ∃ Y, pms [XR, Ek] = Y := ⟨_, rfl⟩
      rw [hY] at HPM HLW HZ
      obtain ⟨Z, hZ⟩ : ∃ Z, lowl p Y = Z := ⟨_, rfl⟩
      rw [hZ] at HLW HZ
      clear hsol hrv hbw hre hEk he1 he2 hYl hpp hnn hY hZ
      go_wp2
      refine region_store 19 [] [(0, 51), (1, 52), (2, 53), (3, 54), (4, 55), (5, 56), (6, 57), (7, 58), (8, 59), (9, 60), (10, 61), (11, 62), (12, 63), (13, 64), (14, 65), (15, 66), (16, 67), (17, 68), (18, 69)]
        (fun i => [Is (.pointer (some ⟨s, 0, none⟩)), Is (.pointer (some ⟨s, 0, none⟩)), Is (.pointer (some ⟨s, 0, none⟩)), Is (.pointer (some ⟨s, 0, none⟩)), Is (.pointer (some ⟨s, 0, none⟩)), Is (.pointer (some ⟨b, 0, none⟩)), Is (.pointer (some ⟨s, 0, none⟩)), Is (.pointer (some ⟨s, 0, none⟩)), Is (.pointer (some ⟨s, 5, none⟩)), Rd XR, Is (.pointer (some ⟨s, 0, none⟩)), Is (.pointer (some ⟨s, 0, none⟩)), Is (.pointer (some ⟨s, 6, none⟩)), Rd Ek, Pls [XR, Ek], Rd Y, Rd Z, Is (.pointer (some ⟨s, 0, none⟩)), Is (.pointer (some ⟨s, 7, none⟩))].getD i (Is undef))
        (fun w' => Below wr.heap.size wr w') (fun w' => ∃ T2, Sol w' s b k p g G lost V1 E1 T2 ∧ Reads w' V1 XR ∧ Reads w' T2 Z ∧ Reads w' E1 Ek ∧ Below B w w') (by kernel_rfl) (by kernel_rfl) (by kernel_rfl) (by kernel_rfl) (by decide) (by decide) (by kernel_rfl) rfl (by kernel_rfl) ?monor ((Below.refl _ _).drew) ?stepr ?stepXr ?stepSr ?finr
      case monor =>
        intro i
        match i with
        | 0 | 1 | 2 | 3 | 4 | 5 | 6 | 7 | 8 | 10 | 11 | 12 | 17 | 18 => exact Is.monot _
        | 9 | 13 | 15 | 16 => exact Rd.monot _
        | 14 => exact Pls.monot _
        | _ + 19 => exact Is.monot _
      case stepr =>
        refine List.forall_mem_cons.2 ⟨?rs0, List.forall_mem_cons.2 ⟨?rs1, List.forall_mem_cons.2 ⟨?rs2, List.forall_mem_cons.2 ⟨?rs3, List.forall_mem_cons.2 ⟨?rs4, List.forall_mem_cons.2 ⟨?rs5, List.forall_mem_cons.2 ⟨?rs6, List.forall_mem_cons.2 ⟨?rs7, List.forall_mem_cons.2 ⟨?rs8, List.forall_mem_cons.2 ⟨?rs9, List.forall_mem_cons.2 ⟨?rs10, List.forall_mem_cons.2 ⟨?rs11, List.forall_mem_cons.2 ⟨?rs12, List.forall_mem_cons.2 ⟨?rs13, List.forall_mem_cons.2 ⟨?rs14, List.forall_mem_cons.2 ⟨?rs15, List.forall_mem_cons.2 ⟨?rs16, List.forall_mem_cons.2 ⟨?rs17, List.forall_mem_cons.2 ⟨?rs18, List.forall_mem_nil _⟩⟩⟩⟩⟩⟩⟩⟩⟩⟩⟩⟩⟩⟩⟩⟩⟩⟩⟩
        case rs0 =>
          intro u wx hg hC
          clear hC
          refine wpOp_step rfl (fun K hK => ?_)
          simp only [puts, List.foldl]
          go_simp
          exact hK _ _ ⟨rfl, rfl, hg, Below.refl _ _⟩
        case rs1 =>
          intro u wx hg hC
          clear hC
          refine wpOp_step rfl (fun K hK => ?_)
          simp only [puts, List.foldl]
          go_simp
          exact hK _ _ ⟨rfl, rfl, hg, Below.refl _ _⟩
        case rs2 =>
          intro u wx hg hC
          clear hC
          refine wpOp_step rfl (fun K hK => ?_)
          simp only [puts, List.foldl]
          go_simp
          exact hK _ _ ⟨rfl, rfl, hg, Below.refl _ _⟩
        case rs3 =>
          intro u wx hg hC
          have hJ2 : u 2 = (.pointer (some ⟨s, 0, none⟩)) := hC.at 2 (by kernel_rfl)
          clear hC
          refine wpOp_step rfl (fun K hK => ?_)
          simp only [puts, List.foldl]
          go_simp
          exact hK _ _ ⟨rfl, rfl, hg, Below.refl _ _⟩
        case rs4 =>
          intro u wx hg hC
          have hJ3 : u 3 = (.pointer (some ⟨s, 0, none⟩)) := hC.at 3 (by kernel_rfl)
          clear hC
          refine wpOp_step rfl (fun K hK => ?_)
          simp only [puts, List.foldl]
          go_simp
          exact hK _ _ ⟨rfl, rfl, hg, Below.refl _ _⟩
        case rs5 =>
          intro u wx hg hC
          have hJ4 : u 4 = (.pointer (some ⟨s, 0, none⟩)) := hC.at 4 (by kernel_rfl)
          clear hC
          have hcl : wx.cell? ⟨s, 0, none⟩ = some (.pointer (some ⟨b, 0, none⟩)) := (hg.cell (p := ⟨s, 0, none⟩) HLT.out).trans C0.out
          refine wpOp_step rfl (fun K hK => ?_)
          simp only [puts, List.foldl]
          go_simp
          exact hK _ _ ⟨rfl, rfl, hg, Below.refl _ _⟩
        case rs6 =>
          intro u wx hg hC
          clear hC
          refine wpOp_step rfl (fun K hK => ?_)
          simp only [puts, List.foldl]
          go_simp
          exact hK _ _ ⟨rfl, rfl, hg, Below.refl _ _⟩
        case rs7 =>
          intro u wx hg hC
          have hJ6 : u 6 = (.pointer (some ⟨s, 0, none⟩)) := hC.at 6 (by kernel_rfl)
          clear hC
          refine wpOp_step rfl (fun K hK => ?_)
          simp only [puts, List.foldl]
          go_simp
          exact hK _ _ ⟨rfl, rfl, hg, Below.refl _ _⟩
        case rs8 =>
          intro u wx hg hC
          have hJ7 : u 7 = (.pointer (some ⟨s, 0, none⟩)) := hC.at 7 (by kernel_rfl)
          clear hC
          refine wpOp_step rfl (fun K hK => ?_)
          simp only [puts, List.foldl]
          go_simp
          exact hK _ _ ⟨rfl, rfl, hg, Below.refl _ _⟩
        case rs9 =>
          intro u wx hg hC
          have hJ8 : u 8 = (.pointer (some ⟨s, 5, none⟩)) := hC.at 8 (by kernel_rfl)
          clear hC
          have hcl : wx.cell? ⟨s, 5, none⟩ = some V1 := (hg.cell (p := ⟨s, 5, none⟩) HLT.out).trans C5.out
          refine wpOp_step rfl (fun K hK => ?_)
          simp only [puts, List.foldl]
          go_simp
          exact hK _ _ ⟨rfl, HRV.out.step hg, hg, Below.refl _ _⟩
        case rs10 =>
          intro u wx hg hC
          clear hC
          refine wpOp_step rfl (fun K hK => ?_)
          simp only [puts, List.foldl]
          go_simp
          exact hK _ _ ⟨rfl, rfl, hg, Below.refl _ _⟩
        case rs11 =>
          intro u wx hg hC
          have hJ10 : u 10 = (.pointer (some ⟨s, 0, none⟩)) := hC.at 10 (by kernel_rfl)
          clear hC
          refine wpOp_step rfl (fun K hK => ?_)
          simp only [puts, List.foldl]
          go_simp
          exact hK _ _ ⟨rfl, rfl, hg, Below.refl _ _⟩
        case rs12 =>
          intro u wx hg hC
          have hJ11 : u 11 = (.pointer (some ⟨s, 0, none⟩)) := hC.at 11 (by kernel_rfl)
          clear hC
          refine wpOp_step rfl (fun K hK => ?_)
          simp only [puts, List.foldl]
          go_simp
          exact hK _ _ ⟨rfl, rfl, hg, Below.refl _ _⟩
        case rs13 =>
          intro u wx hg hC
          have hJ12 : u 12 = (.pointer (some ⟨s, 6, none⟩)) := hC.at 12 (by kernel_rfl)
          clear hC
          have hcl : wx.cell? ⟨s, 6, none⟩ = some E1 := (hg.cell (p := ⟨s, 6, none⟩) HLT.out).trans C6.out
          refine wpOp_step rfl (fun K hK => ?_)
          simp only [puts, List.foldl]
          go_simp
          exact hK _ _ ⟨rfl, HRE.out.step hg, hg, Below.refl _ _⟩
        case rs14 =>
          intro u wx hg hC
          obtain ⟨a9, c9, e9, q9⟩ : (Rd XR) (u 9) wx := hC.at 9 (by kernel_rfl)
          have hJ9 : Rd (XR) (.slice a9 (XR).length c9) wx := ⟨_, _, rfl, q9⟩
          obtain ⟨a13, c13, e13, q13⟩ : (Rd Ek) (u 13) wx := hC.at 13 (by kernel_rfl)
          have hJ13 : Rd (Ek) (.slice a13 (Ek).length c13) wx := ⟨_, _, rfl, q13⟩
          clear hC
          refine wpOp_step rfl (fun K hK => ?_)
          simp only [puts, List.foldl]
          go_simp
          refine hK _ _ ⟨rfl, ?_, hg.alloc hg.size _, alloc_below _ _⟩
          change Pls [XR, Ek] _ _
          exact pls_two (HBX.out) (HBE.out) (hJ9) (hJ13)
        case rs15 =>
          intro u wx hg hC
          have hJ5 : u 5 = (.pointer (some ⟨b, 0, none⟩)) := hC.at 5 (by kernel_rfl)
          have hJ14 : (Pls [XR, Ek]) (u 14) wx := hC.at 14 (by kernel_rfl)
          clear hC
          refine wpOp_step rfl (fun K hK => ?_)
          simp only [puts, List.foldl]
          go_simp
          refine (HPM.out wx hg _ hJ14).mono ?_
          rintro e w' ⟨⟨v, rfl, hv⟩, hb'⟩
          exact hK _ _ ⟨rfl, hv, hg.next hb', hb'⟩
        case rs16 =>
          intro u wx hg hC
          have hJ1 : u 1 = (.pointer (some ⟨s, 0, none⟩)) := hC.at 1 (by kernel_rfl)
          have hJ15 : (Rd Y) (u 15) wx := hC.at 15 (by kernel_rfl)
          clear hC
          refine wpOp_step rfl (fun K hK => ?_)
          simp only [puts, List.foldl]
          go_simp
          refine (HLW.out wx hg _ hJ15).mono ?_
          rintro e w' ⟨⟨v, rfl, hv⟩, hb'⟩
          exact hK _ _ ⟨rfl, hv, hg.next hb', hb'⟩
        case rs17 =>
          intro u wx hg hC
          have hJ0 : u 0 = (.pointer (some ⟨s, 0, none⟩)) := hC.at 0 (by kernel_rfl)
          clear hC
          refine wpOp_step rfl (fun K hK => ?_)
          simp only [puts, List.foldl]
          go_simp
          exact hK _ _ ⟨rfl, rfl, hg, Below.refl _ _⟩
        case rs18 =>
          intro u wx hg hC
          have hJ17 : u 17 = (.pointer (some ⟨s, 0, none⟩)) := hC.at 17 (by kernel_rfl)
          clear hC
          refine wpOp_step rfl (fun K hK => ?_)
          simp only [puts, List.foldl]
          go_simp
          exact hK _ _ ⟨rfl, rfl, hg, Below.refl _ _⟩
      case stepXr =>
        intro p hp hx
        cases hx
      case stepSr =>
        intro u w9 hbw9 hφ
        obtain ⟨a9, c9, e9, hc9, hl9⟩ : Rd Z (u 16) w9 := hφ (16, 67) (by decide) (by decide)
        have hp9 : u 18 = .pointer (some ⟨s, 7, none⟩) := hφ (18, 69) (by decide) (by decide)
        clear hφ
        have HS9 := Lib.hid (HSOL.out.step hbw9)
        have hfz := HS9.out.row.frozen 7
        have hcc := HS9.out.c7
        have HB9 := Lib.hid hbw9
        have HL9 : Hid (Reads w9 (.slice a9 Z.length c9) Z) := Lib.hid ⟨_, _, rfl, hc9, hl9⟩
        have HV9 := Lib.hid (HRV.out.step hbw9)
        have HE9 := Lib.hid (HRE.out.step hbw9)
        clear hbw9 hl9
        refine wpOp_step rfl (fun K hK => ?_)
        simp only [puts, List.foldl]
        go_simp
        refine hK _ _ ⟨rfl, _, HS9.out.putT HBNS.out ⟨_, _, _, rfl⟩, ?_, ?_, Reads.apart HS9.out.row HS9.out.nou8 HE9.out ⟨s, 7, none⟩ rfl _, (HBW.out.trans (HB9.out.mono (Nat.le_trans HBW0.out HBW.out.size))).setCell (p := ⟨s, 7, none⟩) HBS.out _⟩
        · exact Reads.apart HS9.out.row HS9.out.nou8 HV9.out ⟨s, 7, none⟩ rfl _
        · exact Reads.apart HS9.out.row HS9.out.nou8 HL9.out ⟨s, 7, none⟩ rfl _
      case finr =>
        rintro u wq ⟨T2, hs2, hv2, ht2, he2, hb2⟩ hφ
        clear hφ
        simp only [puts, List.foldl]
        go_simp
        have HS2 := Lib.hid hs2
        have HV2 := Lib.hid hv2
        have HT2 := Lib.hid ht2
        have HE2 := Lib.hid he2
        have HB2 := Lib.hid hb2
        clear hs2 hv2 he2 hb2 ht2
        go_wp2
        go_end0
        exact ⟨rfl, ⟨V1, E1, T2, HS2.out, HV2.out, by rw [HEN.out]; exact HE2.out, by rw [HZ.out]; exact HT2.out⟩, HB2.out⟩

end Go.Proofs.YtnbjaijhdjneoaaGreat

namespace Go.Proofs.YtnbjaijhdjneoaaGreat
open Go.RowKit

section
variable {P : Program} {ops : Array Oper} {Q : Exit → Act → World → Prop}

theorem getD_tf' {l : Array Bool} {i : Nat} (h : i < l.size) : l.getD i true = l.getD i false := by simp [Array.getD, h]
/-- As region_invX; what an operation that waits for this one is to write still holds what it held. -/
theorem region_invY {id : Nat} {a : Act} {w : World} (D : List (Nat × Nat)) (φ : Nat → Value → World → Prop) (G : World → Prop) (hm : P.follows .mixedOrders = true)
    (hord : ordX ops = true) (hD1 : D.map (·.1) = List.range ops.size) (hD2 : (D.map (·.2)).Nodup) (hD3 : (D.all fun p => (ops[p.1]?.bind (·.dst)) == some p.2) = true) (hD4 : (D.all fun p => Nat.blt p.2 a.tmps.size) = true)
    (hmono : ∀ i v w w', φ i v w → Below w.heap.size w w' → φ i v w') (hG : G w.drew)
    (step : ∀ p ∈ D, ∀ u w, G w → Came ops φ u w p.1 → (∀ p' ∈ D, reachB ops ops.size p'.1 p.1 = true → u p'.1 = a.tmps.getD p'.2 undef) →
      wpOp P ops Q p.1 (fun a' w' => a'.defers = (puts D a u).defers ∧ φ p.1 (a'.tmps.getD p.2 undef) w' ∧ G w' ∧ Below w.heap.size w w') (puts D a u) w)
    (fin : ∀ u w, G w → (∀ p ∈ D, φ p.1 (u p.1) w) → Q .normal (puts D a u) w) : (Code.region id ops true).wp P Q a w := by
  refine wp_region_any hm ?_
  have hnd1 : (D.map (·.1)).Nodup := by rw [hD1]; exact List.nodup_range
  have key : ∀ (fuel : Nat) (listed : Array Bool) (w : World) (u : Nat → Value) (L : List Nat), listed.size = ops.size → L.length ≤ fuel → (∀ i, listed.getD i true = false → i ∈ L) → Anc ops listed → (∀ p ∈ D, listed.getD p.1 false = false → u p.1 = a.tmps.getD p.2 undef) → G w →
      (∀ i, i < ops.size → listed.getD i true = true → φ i (u i) w) → wpAny P .any ops Q fuel listed (puts D a u) w := by
    intro fuel
    induction fuel with
    | zero =>
      intro listed w u L hs hL hin hanc hold hg hφ
      have hall : ∀ i, listed.getD i true = true := fun i => by
        cases hi : listed.getD i true with
        | true => rfl
        | false => have := hin i hi; rw [List.length_eq_zero_iff.1 (Nat.le_zero.1 hL)] at this; cases this
      refine ⟨?_, fin u w hg fun p hp => hφ p.1 ?_ (hall _)⟩
      · rw [List.eq_nil_iff_forall_not_mem]
        intro i hi
        have := (mem_ready.1 hi).2.1
        rw [hall i] at this
        cases this
      · have : p.1 ∈ D.map (·.1) := List.mem_map.2 ⟨p, hp, rfl⟩
        rw [hD1] at this
        exact List.mem_range.1 this
    | succ fuel ih =>
      intro listed w u L hs hL hin hanc hold hg hφ
      refine ⟨fun hr => fin u w hg fun p hp => hφ p.1 ?_ (all_listedX hord hs hr _), fun i hi => ?_⟩
      · have : p.1 ∈ D.map (·.1) := List.mem_map.2 ⟨p, hp, rfl⟩
        rw [hD1] at this
        exact List.mem_range.1 this
      · obtain ⟨h1, h2, o, ho, h3⟩ := mem_ready.1 hi
        have hiD : i ∈ D.map (·.1) := by rw [hD1]; exact List.mem_range.2 h1
        obtain ⟨⟨i', d⟩, hp, rfl⟩ := List.mem_map.1 hiD
        have hst := step _ hp u w hg (fun o' ho' e he hb => by
          have heq : o' = o := Option.some.inj (ho'.symm.trans ho)
          subst heq
          have hl := h3 e he hb
          have hlt : e.on < ops.size := by
            rw [← hs]
            by_cases hl2 : e.on < listed.size
            · exact hl2
            · simp [Array.getD, hl2] at hl
          refine hφ e.on hlt ?_
          have hl2 : e.on < listed.size := by omega
          simpa [Array.getD, hl2] using hl) (fun p' hp' hr => by
            refine hold p' hp' ?_
            cases hl : listed.getD p'.1 false with
            | false => rfl
            | true =>
              have := reach_listed hanc ops.size p'.1 i' (fun o' ho' e he hb => hanc p'.1 o' ho' hl e he hb) hr
              have hii : i' < listed.size := by omega
              rw [← getD_tf' hii, h2] at this
              cases this)
        have hd3 := List.all_eq_true.1 hD3 _ hp
        have hd4 := List.all_eq_true.1 hD4 _ hp
        simp only [ho, Option.bind_some, beq_iff_eq] at hd3
        have hd5 : d < a.tmps.size := by simp [Nat.blt] at hd4; omega
        have hst2 := wpOp_value (R := fun v w' => φ i' v w' ∧ G w' ∧ Below w.heap.size w w') ho hd3 (by rw [puts_size]; exact hd5) hst
        clear hst
        refine wpOp_mono ?_ hst2
        rintro a' w' ⟨v, rfl, hv, hg', hb'⟩
        rw [puts_put u i' d v D a hnd1 hD2 hp]
        refine ih _ w' (upd u i' v) (L.erase i') (by simpa using hs) ?_ ?_ ?_ ?_ hg' ?_
        · rw [List.length_erase_of_mem (hin i' h2)]
          omega
        · intro j hj
          have hji : j ≠ i' := fun e => by
            subst e
            have : j < listed.size := by omega
            simp [Array.getD, this] at hj
          refine (List.mem_erase_of_ne hji).2 (hin j ?_)
          simp only [Array.getD] at hj ⊢
          split at hj
          · rename_i hl
            rw [Array.size_setIfInBounds] at hl
            rw [dif_pos hl]
            rwa [Array.getInternal_eq_getElem, Array.getElem_setIfInBounds_ne (h := Ne.symm hji)] at hj
          · cases hj
        · intro j o' ho' hl e he hb
          by_cases ej : i' = j
          · subst ej
            obtain rfl := Option.some.inj (ho'.symm.trans ho)
            have := h3 e he hb
            by_cases e2 : i' = e.on
            · rw [← e2, getD_set_self (by omega)]
            · rw [getD_set_other e2]; exact this
          · rw [getD_set_other ej] at hl
            have := hanc j o' ho' hl e he hb
            by_cases e2 : i' = e.on
            · rw [← e2, getD_set_self (by omega)]
            · rw [getD_set_other e2]; exact this
        · intro p' hp' hl
          have hne : i' ≠ p'.1 := fun e => by
            rw [← e, getD_set_self (by omega)] at hl
            cases hl
          rw [getD_set_other hne] at hl
          have e1 : upd u i' v p'.1 = u p'.1 := by simp [upd, Ne.symm hne]
          rw [e1]
          exact hold p' hp' hl
        · intro j hj hl
          by_cases hji : j = i'
          · subst hji
            simpa [upd] using hv
          · have e1 : upd u i' v j = u j := by simp [upd, hji]
            rw [e1]
            refine hmono j _ w w' (hφ j hj ?_) hb'
            have hl2 : j < listed.size := by omega
            simp only [Array.getD, Array.size_setIfInBounds, hl2, dif_pos, Array.getInternal_eq_getElem] at hl ⊢
            rwa [Array.getElem_setIfInBounds_ne (h := Ne.symm hji)] at hl
  have hu : ∃ u : Nat → Value, (∀ p ∈ D, u p.1 = a.tmps.getD p.2 undef) ∧ puts D a u = a := by
    suffices hsf : ∃ u : Nat → Value, ∀ p ∈ D, u p.1 = a.tmps.getD p.2 undef by
      obtain ⟨u, hu⟩ := hsf
      exact ⟨u, hu, puts_self u a D hu⟩
    refine ⟨fun i => ((D.find? fun p => p.1 == i).map fun p => a.tmps.getD p.2 undef).getD undef, fun p hp => ?_⟩
    have : D.find? (fun q => q.1 == p.1) = some p := by
      clear fin step hD2 hD1 hD3 hD4 key
      induction D with
      | nil => cases hp
      | cons q D ih =>
        rw [List.map_cons, List.nodup_cons] at hnd1
        rcases List.mem_cons.1 hp with rfl | hp
        · simp
        · have hne : (q.1 == p.1) = false := by
            rw [beq_eq_false_iff_ne]
            intro e
            exact hnd1.1 (List.mem_map.2 ⟨p, hp, e.symm⟩)
          rw [List.find?_cons, hne]
          exact ih hnd1.2 hp
    simp only [this, Option.map_some, Option.getD_some]
  obtain ⟨u, hu0, hu⟩ := hu
  have := key ops.size (Array.replicate ops.size false) w.drew u (List.range ops.size) (by simp) (by simp) (fun i hi => by
    rw [List.mem_range]
    by_cases hl : i < ops.size
    · exact hl
    · simp [Array.getD, hl] at hi) (fun i o _ hl => by
    have hfF : ∀ i, (Array.replicate ops.size false).getD i false = false := fun i => by
      by_cases h : i < ops.size <;> simp [Array.getD, h]
    rw [hfF] at hl; cases hl) (fun p hp _ => hu0 p hp) hG (fun i hi hl => by simp [Array.getD, hi] at hl)
  rw [hu] at this
  exact this

end

end Go.Proofs.YtnbjaijhdjneoaaGreat

namespace Go.Proofs.YtnbjaijhdjneoaaGreat
open Go.RowKit GfMath PolyMath RsMath SolMath
set_option linter.unusedVariables false
set_option maxRecDepth 100000

set_option maxHeartbeats 1000000 in
theorem missed_any (s b n p g lost i : Nat) (G : List Bool) (V E T : Value) (TL R : List Nat) (v : Value) (w : World) (h : Sol w s b n p g G lost V E T) (hT : Reads w T TL) (hT8 : By TL) (hTl : TL.length ≤ 5000) (hR : Reads w v R) (hR8 : By R) (hRl : R.length ≤ 5000) (hlo : lost ≤ 1000) (hi : i ≤ 1000) :
    Calls Tryz.prog 102 #[.pointer (some ⟨s, 0, none⟩), v, .int .i64 (i : Int)] w fun e w' => e = .returned (.int .u8 (missF TL R lost i : Int)) ∧ Below w.heap.size w w' := by
  have HS0 := Lib.hid h
  have HT0 := Lib.hid hT
  obtain ⟨a, c, rfl, hc, hr⟩ := hR
  have HR0 : Hid (Reads w (.slice a R.length c) R) := Lib.hid ⟨a, c, rfl, hc, hr⟩
  have HT8 := Lib.hid hT8
  have HTl := Lib.hid hTl
  have HR8 := Lib.hid hR8
  have HRl := Lib.hid hRl
  have HRl0 := Lib.hid hRl
  have hlb : (lost : Int) ≤ 1000 := by omega
  have hib : (i : Int) ≤ 1000 := by omega
  obtain ⟨L, hL⟩ : ∃ L, R.length = L := ⟨_, rfl⟩
  rw [hL] at HR0 HRl hRl ⊢
  have HMF : Hid (missF TL R lost i = missK TL R lost i L) := Lib.hid (by rw [← hL]; rfl)
  have hLb : (L : Int) ≤ 5000 := by omega
  clear h hT hT8 hTl hR8 hRl hlo hi hr hc hL
  go_enter Tryz.func102, Tryz.ntmps102
  go_wp2
  go_loopw [7, 11] (fun d j wr => ∃ k : Nat, k ≤ L ∧ j = .int .i64 k ∧ d = .int .u8 (missK TL R lost i k : Int) ∧ Below w.heap.size w wr) (fun _ j _ => L - (intOf j).toNat)
  case atStart => exact ⟨0, Nat.zero_le _, rfl, rfl, Below.refl _ _⟩
  case round =>
    obtain ⟨k, hk, rfl, rfl, hbw⟩ := hrel
    have HBW := Lib.hid hbw
    by_cases hlt : k < L
    · have hki : (k : Int) < (L : Int) := by omega
      have hkb : (k : Int) ≤ 5000 := by omega
      have HSOL := Lib.hid (HS0.out.step hbw)
      have HRT := Lib.hid (HT0.out.step hbw)
      have HRR := Lib.hid (HR0.out.step hbw)
      have HLT := Lib.hid HSOL.out.lt
      have C0 := Lib.hid HSOL.out.c0
      have C4 := Lib.hid HSOL.out.c4
      have C7 := Lib.hid HSOL.out.c7
      have HF1 : Hid (∀ wx, Below wr.heap.size wr wx → Calls Tryz.prog 125 #[.slice a L c, .int .i64 (k : Int)] wx fun e w' => e = .returned (.int .u8 (cf R k : Int)) ∧ Below wx.heap.size wx w') := Lib.hid fun wx hb => by
        have e1 : fcI R (k : Int) = cf R k := by unfold fcI; rw [if_neg (by omega), Int.toNat_natCast]
        rw [← e1]
        exact (factor_any _ R (k : Int) wx HRl0.out (by omega) (by omega) (HRR.out.step hb)).mono fun e w' ⟨h1, h2⟩ => ⟨h1, h2 ▸ Below.refl _ _⟩
      have HF2 : Hid (∀ wx, Below wr.heap.size wr wx → ∀ v, Rd TL v wx → Calls Tryz.prog 125 #[v, .int .i64 ((lost : Int) + (i : Int) - (k : Int))] wx fun e w' => e = .returned (.int .u8 (fcI TL ((lost : Int) + (i : Int) - (k : Int)) : Int)) ∧ Below wx.heap.size wx w') := Lib.hid fun wx hb v hv => 
        (factor_any _ TL _ wx HTl.out (by omega) (by omega) hv).mono fun e w' ⟨h1, h2⟩ => ⟨h1, h2 ▸ Below.refl _ _⟩
      have hx8 := HR8.out.cf k
      have hy8 := fcI_lt HT8.out ((lost : Int) + (i : Int) - (k : Int))
      have hd8 := missK_lt HT8.out HR8.out lost i k
      have HST : Hid (missK TL R lost i (k + 1) = missK TL R lost i k ^^^ gm (cf R k) (fcI TL ((lost : Int) + (i : Int) - (k : Int)))) := Lib.hid rfl
      obtain ⟨x, hx⟩ : ∃ x, cf R k = x := ⟨_, rfl⟩
      obtain ⟨y, hy⟩ : ∃ y, fcI TL ((lost : Int) + (i : Int) - (k : Int)) = y := ⟨_, rfl⟩
      obtain ⟨d, hd⟩ : ∃ d, missK TL R lost i k = d := ⟨_, rfl⟩
      rw [hx] at HF1 hx8 HST
      rw [hy] at HF2 hy8 HST
      rw [hd] at hd8 HST ⊢
      have HMU : Hid (∀ wx, Below wr.heap.size wr wx → ∀ v, Rd [x, y] v wx → Calls Tryz.prog 86 #[.pointer (some ⟨b, 0, none⟩), v] wx fun e w' => e = .returned (.int .u8 (gm x y : Int)) ∧ Below wx.heap.size wx w') := Lib.hid fun wx hb v hv => by
        have := mulV b v [x, y] wx (HSOL.out.fld.step hb) hv (by_two hx8 hy8) (by simp)
        rwa [prod_two hx8] at this
      have hz8 := gm_lt hx8 hy8
      obtain ⟨z, hz⟩ : ∃ z, gm x y = z := ⟨_, rfl⟩
      rw [hz] at HMU HST hz8
      have HAD : Hid (∀ wx, Below wr.heap.size wr wx → ∀ v, Rd [d, z] v wx → Calls Tryz.prog 85 #[.pointer (some ⟨b, 0, none⟩), v] wx fun e w' => e = .returned (.int .u8 (d ^^^ z : Nat)) ∧ Below wx.heap.size wx w') := Lib.hid fun wx hb v hv => by
        have := addV b v [d, z] wx hv (by_two hd8 hz8) (by simp)
        rwa [sum_two] at this
      obtain ⟨q, hq⟩ : ∃ q, d ^^^ z = q := ⟨_, rfl⟩
      rw [hq] at HAD HST
      clear hbw hx hy hd hz hq hx8 hy8 hd8 hz8
      go_wp2
      refine region_invY [(0, 14), (1, 15), (2, 16), (3, 17), (4, 18), (5, 19), (6, 20), (7, 21), (8, 22), (9, 23), (10, 24), (11, 25), (12, 26), (13, 27), (14, 28), (15, 29), (16, 30), (17, 31), (18, 32), (19, 33), (20, 34), (21, 35), (22, 36), (23, 37), (24, 38), (25, 39), (26, 40), (27, 41), (28, 42), (29, 7)]
        (fun ii => [Is (.pointer (some ⟨s, 0, none⟩)), Is (.pointer (some ⟨s, 0, none⟩)), Is (.pointer (some ⟨s, 0, none⟩)), Is (.pointer (some ⟨b, 0, none⟩)), Is (.int .u8 (d : Int)), Is (.pointer (some ⟨s, 0, none⟩)), Is (.pointer (some ⟨s, 0, none⟩)), Is (.pointer (some ⟨s, 0, none⟩)), Is (.pointer (some ⟨b, 0, none⟩)), Is (.slice a L c), Is (.int .i64 (k : Int)), Is (.int .u8 (x : Int)), Is (.pointer (some ⟨s, 0, none⟩)), Is (.pointer (some ⟨s, 0, none⟩)), Is (.pointer (some ⟨s, 7, none⟩)), Rd TL, Is (.pointer (some ⟨s, 0, none⟩)), Is (.pointer (some ⟨s, 0, none⟩)), Is (.pointer (some ⟨s, 4, none⟩)), Is (.int .i64 (lost : Int)), Is (.int .i64 (i : Int)), Is (.int .i64 ((lost : Int) + (i : Int))), Is (.int .i64 (k : Int)), Is (.int .i64 ((lost : Int) + (i : Int) - (k : Int))), Is (.int .u8 (y : Int)), Rd [x, y], Is (.int .u8 (z : Int)), Rd [d, z], Is (.int .u8 (q : Int)), Is (.int .u8 (q : Int))].getD ii (Is undef))
        (fun w' => Below wr.heap.size wr w') (by kernel_rfl) (by kernel_rfl) (by decide) (by decide) (by kernel_rfl) rfl ?monom ((Below.refl _ _).drew) ?stepm ?finm
      case monom =>
        intro i
        match i with
        | 0 | 1 | 2 | 3 | 4 | 5 | 6 | 7 | 8 | 9 | 10 | 11 | 12 | 13 | 14 | 16 | 17 | 18 | 19 | 20 | 21 | 22 | 23 | 24 | 26 | 28 | 29 => exact Is.monot _
        | 15 | 25 | 27 => exact Rd.monot _
        | _ + 30 => exact Is.monot _
      case stepm =>
        refine List.forall_mem_cons.2 ⟨?ms0, List.forall_mem_cons.2 ⟨?ms1, List.forall_mem_cons.2 ⟨?ms2, List.forall_mem_cons.2 ⟨?ms3, List.forall_mem_cons.2 ⟨?ms4, List.forall_mem_cons.2 ⟨?ms5, List.forall_mem_cons.2 ⟨?ms6, List.forall_mem_cons.2 ⟨?ms7, List.forall_mem_cons.2 ⟨?ms8, List.forall_mem_cons.2 ⟨?ms9, List.forall_mem_cons.2 ⟨?ms10, List.forall_mem_cons.2 ⟨?ms11, List.forall_mem_cons.2 ⟨?ms12, List.forall_mem_cons.2 ⟨?ms13, List.forall_mem_cons.2 ⟨?ms14, List.forall_mem_cons.2 ⟨?ms15, List.forall_mem_cons.2 ⟨?ms16, List.forall_mem_cons.2 ⟨?ms17, List.forall_mem_cons.2 ⟨?ms18, List.forall_mem_cons.2 ⟨?ms19, List.forall_mem_cons.2 ⟨?ms20, List.forall_mem_cons.2 ⟨?ms21, List.forall_mem_cons.2 ⟨?ms22, List.forall_mem_cons.2 ⟨?ms23, List.forall_mem_cons.2 ⟨?ms24, List.forall_mem_cons.2 ⟨?ms25, List.forall_mem_cons.2 ⟨?ms26, List.forall_mem_cons.2 ⟨?ms27, List.forall_mem_cons.2 ⟨?ms28, List.forall_mem_cons.2 ⟨?ms29, List.forall_mem_nil _⟩⟩⟩⟩⟩⟩⟩⟩⟩⟩⟩⟩⟩⟩⟩⟩⟩⟩⟩⟩⟩⟩⟩⟩⟩⟩⟩⟩⟩⟩
        case ms0 =>
          intro u wx hg hC hOld
          clear hC hOld
          refine wpOp_step rfl (fun K hK => ?_)
          simp only [puts, List.foldl]
          go_simp
          exact hK _ _ ⟨rfl, rfl, hg, Below.refl _ _⟩
        case ms1 =>
          intro u wx hg hC hOld
          have hJ0 : u 0 = (.pointer (some ⟨s, 0, none⟩)) := hC.at 0 (by kernel_rfl)
          clear hC hOld
          refine wpOp_step rfl (fun K hK => ?_)
          simp only [puts, List.foldl]
          go_simp
          exact hK _ _ ⟨rfl, rfl, hg, Below.refl _ _⟩
        case ms2 =>
          intro u wx hg hC hOld
          have hJ1 : u 1 = (.pointer (some ⟨s, 0, none⟩)) := hC.at 1 (by kernel_rfl)
          clear hC hOld
          refine wpOp_step rfl (fun K hK => ?_)
          simp only [puts, List.foldl]
          go_simp
          exact hK _ _ ⟨rfl, rfl, hg, Below.refl _ _⟩
        case ms3 =>
          intro u wx hg hC hOld
          have hJ2 : u 2 = (.pointer (some ⟨s, 0, none⟩)) := hC.at 2 (by kernel_rfl)
          clear hC hOld
          have hcl : wx.cell? ⟨s, 0, none⟩ = some (.pointer (some ⟨b, 0, none⟩)) := (hg.cell (p := ⟨s, 0, none⟩) HLT.out).trans C0.out
          refine wpOp_step rfl (fun K hK => ?_)
          simp only [puts, List.foldl]
          go_simp
          exact hK _ _ ⟨rfl, rfl, hg, Below.refl _ _⟩
        case ms4 =>
          intro u wx hg hC hOld
          have hO29 : u 29 = (.int .u8 (d : Int)) := hOld (29, 7) (by decide) (by kernel_rfl)
          clear hC hOld
          refine wpOp_step rfl (fun K hK => ?_)
          simp only [puts, List.foldl]
          go_simp
          exact hK _ _ ⟨rfl, rfl, hg, Below.refl _ _⟩
        case ms5 =>
          intro u wx hg hC hOld
          clear hC hOld
          refine wpOp_step rfl (fun K hK => ?_)
          simp only [puts, List.foldl]
          go_simp
          exact hK _ _ ⟨rfl, rfl, hg, Below.refl _ _⟩
        case ms6 =>
          intro u wx hg hC hOld
          have hJ5 : u 5 = (.pointer (some ⟨s, 0, none⟩)) := hC.at 5 (by kernel_rfl)
          clear hC hOld
          refine wpOp_step rfl (fun K hK => ?_)
          simp only [puts, List.foldl]
          go_simp
          exact hK _ _ ⟨rfl, rfl, hg, Below.refl _ _⟩
        case ms7 =>
          intro u wx hg hC hOld
          have hJ6 : u 6 = (.pointer (some ⟨s, 0, none⟩)) := hC.at 6 (by kernel_rfl)
          clear hC hOld
          refine wpOp_step rfl (fun K hK => ?_)
          simp only [puts, List.foldl]
          go_simp
          exact hK _ _ ⟨rfl, rfl, hg, Below.refl _ _⟩
        case ms8 =>
          intro u wx hg hC hOld
          have hJ7 : u 7 = (.pointer (some ⟨s, 0, none⟩)) := hC.at 7 (by kernel_rfl)
          clear hC hOld
          have hcl : wx.cell? ⟨s, 0, none⟩ = some (.pointer (some ⟨b, 0, none⟩)) := (hg.cell (p := ⟨s, 0, none⟩) HLT.out).trans C0.out
          refine wpOp_step rfl (fun K hK => ?_)
          simp only [puts, List.foldl]
          go_simp
          exact hK _ _ ⟨rfl, rfl, hg, Below.refl _ _⟩
        case ms9 =>
          intro u wx hg hC hOld
          clear hC hOld
          refine wpOp_step rfl (fun K hK => ?_)
          simp only [puts, List.foldl]
          go_simp
          exact hK _ _ ⟨rfl, rfl, hg, Below.refl _ _⟩
        case ms10 =>
          intro u wx hg hC hOld
          clear hC hOld
          refine wpOp_step rfl (fun K hK => ?_)
          simp only [puts, List.foldl]
          go_simp
          exact hK _ _ ⟨rfl, rfl, hg, Below.refl _ _⟩
        case ms11 =>
          intro u wx hg hC hOld
          have hJ9 : u 9 = (.slice a L c) := hC.at 9 (by kernel_rfl)
          have hJ10 : u 10 = (.int .i64 (k : Int)) := hC.at 10 (by kernel_rfl)
          clear hC hOld
          refine wpOp_step rfl (fun K hK => ?_)
          simp only [puts, List.foldl]
          go_simp
          refine (HF1.out wx hg).mono ?_
          rintro e w' ⟨rfl, hb'⟩
          exact hK _ _ ⟨rfl, rfl, hg.next hb', hb'⟩
        case ms12 =>
          intro u wx hg hC hOld
          clear hC hOld
          refine wpOp_step rfl (fun K hK => ?_)
          simp only [puts, List.foldl]
          go_simp
          exact hK _ _ ⟨rfl, rfl, hg, Below.refl _ _⟩
        case ms13 =>
          intro u wx hg hC hOld
          have hJ12 : u 12 = (.pointer (some ⟨s, 0, none⟩)) := hC.at 12 (by kernel_rfl)
          clear hC hOld
          refine wpOp_step rfl (fun K hK => ?_)
          simp only [puts, List.foldl]
          go_simp
          exact hK _ _ ⟨rfl, rfl, hg, Below.refl _ _⟩
        case ms14 =>
          intro u wx hg hC hOld
          have hJ13 : u 13 = (.pointer (some ⟨s, 0, none⟩)) := hC.at 13 (by kernel_rfl)
          clear hC hOld
          refine wpOp_step rfl (fun K hK => ?_)
          simp only [puts, List.foldl]
          go_simp
          exact hK _ _ ⟨rfl, rfl, hg, Below.refl _ _⟩
        case ms15 =>
          intro u wx hg hC hOld
          have hJ14 : u 14 = (.pointer (some ⟨s, 7, none⟩)) := hC.at 14 (by kernel_rfl)
          clear hC hOld
          have hcl : wx.cell? ⟨s, 7, none⟩ = some T := (hg.cell (p := ⟨s, 7, none⟩) HLT.out).trans C7.out
          refine wpOp_step rfl (fun K hK => ?_)
          simp only [puts, List.foldl]
          go_simp
          exact hK _ _ ⟨rfl, HRT.out.step hg, hg, Below.refl _ _⟩
        case ms16 =>
          intro u wx hg hC hOld
          clear hC hOld
          refine wpOp_step rfl (fun K hK => ?_)
          simp only [puts, List.foldl]
          go_simp
          exact hK _ _ ⟨rfl, rfl, hg, Below.refl _ _⟩
        case ms17 =>
          intro u wx hg hC hOld
          have hJ16 : u 16 = (.pointer (some ⟨s, 0, none⟩)) := hC.at 16 (by kernel_rfl)
          clear hC hOld
          refine wpOp_step rfl (fun K hK => ?_)
          simp only [puts, List.foldl]
          go_simp
          exact hK _ _ ⟨rfl, rfl, hg, Below.refl _ _⟩
        case ms18 =>
          intro u wx hg hC hOld
          have hJ17 : u 17 = (.pointer (some ⟨s, 0, none⟩)) := hC.at 17 (by kernel_rfl)
          clear hC hOld
          refine wpOp_step rfl (fun K hK => ?_)
          simp only [puts, List.foldl]
          go_simp
          exact hK _ _ ⟨rfl, rfl, hg, Below.refl _ _⟩
        case ms19 =>
          intro u wx hg hC hOld
          have hJ18 : u 18 = (.pointer (some ⟨s, 4, none⟩)) := hC.at 18 (by kernel_rfl)
          clear hC hOld
          have hcl : wx.cell? ⟨s, 4, none⟩ = some (.int .i64 (lost : Int)) := (hg.cell (p := ⟨s, 4, none⟩) HLT.out).trans C4.out
          refine wpOp_step rfl (fun K hK => ?_)
          simp only [puts, List.foldl]
          go_simp
          exact hK _ _ ⟨rfl, rfl, hg, Below.refl _ _⟩
        case ms20 =>
          intro u wx hg hC hOld
          clear hC hOld
          refine wpOp_step rfl (fun K hK => ?_)
          simp only [puts, List.foldl]
          go_simp
          exact hK _ _ ⟨rfl, rfl, hg, Below.refl _ _⟩
        case ms21 =>
          intro u wx hg hC hOld
          have hJ19 : u 19 = (.int .i64 (lost : Int)) := hC.at 19 (by kernel_rfl)
          have hJ20 : u 20 = (.int .i64 (i : Int)) := hC.at 20 (by kernel_rfl)
          clear hC hOld
          have hw : IntKind.i64.wrap ((lost : Int) + (i : Int)) = (lost : Int) + (i : Int) := by rw [IntKind.wrap_i64]; omega
          refine wpOp_step rfl (fun K hK => ?_)
          simp only [puts, List.foldl]
          go_simp
          exact hK _ _ ⟨rfl, rfl, hg, Below.refl _ _⟩
        case ms22 =>
          intro u wx hg hC hOld
          clear hC hOld
          refine wpOp_step rfl (fun K hK => ?_)
          simp only [puts, List.foldl]
          go_simp
          exact hK _ _ ⟨rfl, rfl, hg, Below.refl _ _⟩
        case ms23 =>
          intro u wx hg hC hOld
          have hJ21 : u 21 = (.int .i64 ((lost : Int) + (i : Int))) := hC.at 21 (by kernel_rfl)
          have hJ22 : u 22 = (.int .i64 (k : Int)) := hC.at 22 (by kernel_rfl)
          clear hC hOld
          have hw : IntKind.i64.wrap ((lost : Int) + (i : Int) - (k : Int)) = (lost : Int) + (i : Int) - (k : Int) := by rw [IntKind.wrap_i64]; omega
          refine wpOp_step rfl (fun K hK => ?_)
          simp only [puts, List.foldl]
          go_simp
          exact hK _ _ ⟨rfl, rfl, hg, Below.refl _ _⟩
        case ms24 =>
          intro u wx hg hC hOld
          have hJ15 : (Rd TL) (u 15) wx := hC.at 15 (by kernel_rfl)
          have hJ23 : u 23 = (.int .i64 ((lost : Int) + (i : Int) - (k : Int))) := hC.at 23 (by kernel_rfl)
          clear hC hOld
          refine wpOp_step rfl (fun K hK => ?_)
          simp only [puts, List.foldl]
          go_simp
          refine (HF2.out wx hg _ hJ15).mono ?_
          rintro e w' ⟨rfl, hb'⟩
          exact hK _ _ ⟨rfl, rfl, hg.next hb', hb'⟩
        case ms25 =>
          intro u wx hg hC hOld
          have hJ11 : u 11 = (.int .u8 (x : Int)) := hC.at 11 (by kernel_rfl)
          have hJ24 : u 24 = (.int .u8 (y : Int)) := hC.at 24 (by kernel_rfl)
          clear hC hOld
          refine wpOp_step rfl (fun K hK => ?_)
          simp only [puts, List.foldl]
          go_simp
          exact hK _ _ ⟨rfl, ⟨some ⟨wx.heap.size, 0, none⟩, 2, rfl, Nat.le_refl _, Lies.new [_, _] _ _⟩, hg.alloc hg.size _, alloc_below _ _⟩
        case ms26 =>
          intro u wx hg hC hOld
          have hJ8 : u 8 = (.pointer (some ⟨b, 0, none⟩)) := hC.at 8 (by kernel_rfl)
          have hJ25 : (Rd [x, y]) (u 25) wx := hC.at 25 (by kernel_rfl)
          clear hC hOld
          refine wpOp_step rfl (fun K hK => ?_)
          simp only [puts, List.foldl]
          go_simp
          refine (HMU.out wx hg _ hJ25).mono ?_
          rintro e w' ⟨rfl, hb'⟩
          exact hK _ _ ⟨rfl, rfl, hg.next hb', hb'⟩
        case ms27 =>
          intro u wx hg hC hOld
          have hJ4 : u 4 = (.int .u8 (d : Int)) := hC.at 4 (by kernel_rfl)
          have hJ26 : u 26 = (.int .u8 (z : Int)) := hC.at 26 (by kernel_rfl)
          clear hC hOld
          refine wpOp_step rfl (fun K hK => ?_)
          simp only [puts, List.foldl]
          go_simp
          exact hK _ _ ⟨rfl, ⟨some ⟨wx.heap.size, 0, none⟩, 2, rfl, Nat.le_refl _, Lies.new [_, _] _ _⟩, hg.alloc hg.size _, alloc_below _ _⟩
        case ms28 =>
          intro u wx hg hC hOld
          have hJ3 : u 3 = (.pointer (some ⟨b, 0, none⟩)) := hC.at 3 (by kernel_rfl)
          have hJ27 : (Rd [d, z]) (u 27) wx := hC.at 27 (by kernel_rfl)
          clear hC hOld
          refine wpOp_step rfl (fun K hK => ?_)
          simp only [puts, List.foldl]
          go_simp
          refine (HAD.out wx hg _ hJ27).mono ?_
          rintro e w' ⟨rfl, hb'⟩
          exact hK _ _ ⟨rfl, rfl, hg.next hb', hb'⟩
        case ms29 =>
          intro u wx hg hC hOld
          have hJ28 : u 28 = (.int .u8 (q : Int)) := hC.at 28 (by kernel_rfl)
          clear hC hOld
          refine wpOp_step rfl (fun K hK => ?_)
          simp only [puts, List.foldl]
          go_simp
          exact hK _ _ ⟨rfl, rfl, hg, Below.refl _ _⟩
      case finm =>
        intro u wq hbq hφ
        have e7 : u 29 = .int .u8 (q : Int) := hφ (29, 7) (by decide)
        clear hφ
        simp only [puts, List.foldl]
        go_simp
        have HBQ := Lib.hid (HBW.out.next hbq)
        clear hbq e7
        go_wp2
        go_roundw
        case rel => exact ⟨k + 1, by omega, by go_num, by rw [HST.out], HBQ.out⟩
        case measure => simp [intOf]; omega
    · obtain rfl : k = L := by omega
      clear hbw
      go_wp2
      go_ret
      exact ⟨ret_int (by rw [HMF.out]), HBW.out⟩

theorem shn_nat (n : Nat) (h : n ≤ 1000) : shn (n : Int) = n := by unfold shn; omega

/-- The rule and the one before lie in memory. -/
structure Bmr (w : World) (r l : Value) (st : BM) : Prop where
  r : Reads w r st.rule
  l : Reads w l st.last
set_option maxHeartbeats 1000000 in
theorem massey_any (s b n p g lost : Nat) (G : List Bool) (V E T : Value) (TL : List Nat) (w : World) (h : Sol w s b n p g G lost V E T) (hT : Reads w T TL) (hT8 : By TL) (hTl : TL.length ≤ 5000) (hp : p ≤ 64) (hlo : lost ≤ 255) :
    Calls Tryz.prog 79 #[.pointer (some ⟨s, 0, none⟩)] w fun e w' => (∃ v, e = .returned v ∧ Reads w' v (masseyF p TL lost)) ∧ Below w.heap.size w w' := by
  have HS0 := Lib.hid h
  have HT0 := Lib.hid hT
  have HT8 := Lib.hid hT8
  have HTl := Lib.hid hTl
  obtain ⟨u2, hu, hb2, hbm⟩ : ∃ u2, u2 = ((w.alloc (.cells #[.int .u8 1] 5)).alloc (.cells #[.int .u8 1] 5)) ∧ Below w.heap.size w u2 ∧ Bmr u2 (.slice (some ⟨w.heap.size, 0, none⟩) 1 1) (.slice (some ⟨w.heap.size + 1, 0, none⟩) 1 1) (bm TL lost 0) := by
    refine ⟨_, rfl, (alloc_below _ _).next (alloc_below _ _), ?_, ?_⟩
    · exact Reads.step ⟨_, 1, rfl, Nat.le_refl _, Lies.new [.int .u8 1] w _⟩ (alloc_below _ _)
    · have e1 : w.heap.size + 1 = (w.alloc (.cells #[.int .u8 1] 5)).heap.size := by simp
      rw [e1]
      exact ⟨_, 1, rfl, Nat.le_refl _, Lies.new [.int .u8 1] _ _⟩
  have h2 := (h.step hb2).c2
  have h4 := (h.step hb2).c4
  have HU := Lib.hid hu
  have HB2 := Lib.hid hb2
  have HBM := Lib.hid hbm
  have hpb : (p : Int) ≤ 64 := by omega
  have hlb : (lost : Int) ≤ 255 := by omega
  obtain ⟨N, hN⟩ : ∃ N : Int, (p : Int) - (lost : Int) = N := ⟨_, rfl⟩
  have hN1 : N ≤ 64 := by omega
  have hN2 : -255 ≤ N := by omega
  have hNw : IntKind.i64.wrap N = N := by rw [IntKind.wrap_i64]; omega
  have HNN : Hid (∀ k : Nat, (k : Int) < N → k < p - lost) := Lib.hid fun k hk => by omega
  have HNE : Hid (∀ k : Nat, ¬ (k : Int) < N → k ≤ p - lost → k = p - lost) := Lib.hid fun k hk h => by omega
  have hM : (p - lost) ≤ 64 := by omega
  have HMF : Hid (masseyF p TL lost = (bm TL lost (p - lost)).rule) := Lib.hid rfl
  obtain ⟨M, hMe⟩ : ∃ M, p - lost = M := ⟨_, rfl⟩
  rw [hMe] at HNN HNE hM HMF
  have HOK := Lib.hid (bm_ok hT8 lost)
  have hlo2 : Hid (lost ≤ 1000) := Lib.hid (by omega)
  clear h hT hT8 hTl hp hlo hMe hu hb2 hbm
  go_enter Tryz.func79, Tryz.ntmps79
  go_wp2
  rw [← HU.out]
  go_quiet (fail)
  have HB3 : Hid (Below w.heap.size w (u2.drewN nq)) := Lib.hid (HB2.out.drewN _)
  have HBM3 : Hid (Bmr (u2.drewN nq) (.slice (some ⟨w.heap.size, 0, none⟩) 1 1) (.slice (some ⟨w.heap.size + 1, 0, none⟩) 1 1) (bm TL lost 0)) := Lib.hid ⟨HBM.out.r.step ((Below.refl _ _).drewN _), HBM.out.l.step ((Below.refl _ _).drewN _)⟩
  generalize u2.drewN nq = wz at *
  clear HU HB2 HBM h2 h4 hN
  go_wp2
  go_loopw [3, 4, 5, 6, 7, 24] (fun r l m si sz i wr => ∃ k : Nat, k ≤ M ∧ i = .int .i64 k ∧ m = .int .u8 ((bm TL lost k).miss : Int) ∧ si = .int .i64 ((bm TL lost k).since : Int) ∧ sz = .int .i64 ((bm TL lost k).size : Int) ∧ Bmr wr r l (bm TL lost k) ∧ Below w.heap.size w wr) (fun _ _ _ _ _ i _ => M - (intOf i).toNat)
  case atStart => exact ⟨0, Nat.zero_le _, rfl, rfl, rfl, rfl, HBM3.out, HB3.out⟩
  case round =>
    clear HB3 HBM3
    obtain ⟨k, hk, rfl, rfl, rfl, rfl, ⟨hrr, hrl⟩, hbw⟩ := hrel
    have HBW := Lib.hid hbw
    by_cases hlt : (k : Int) < N
    · have HKM : Hid (k < M) := Lib.hid (HNN.out k hlt)
      have hk64 : (k : Int) < 64 := by omega
      have hok := HOK.out k
      have HST : Hid (bm TL lost (k + 1) = bmStep TL lost k (bm TL lost k)) := Lib.hid rfl
      obtain ⟨st, hst⟩ : ∃ st, bm TL lost k = st := ⟨_, rfl⟩
      rw [hst] at hrr hrl hok HST ⊢
      obtain ⟨R, L, mi, si, sz⟩ := st
      obtain ⟨hR8, hL8, hm8, hm0, hRl, hLl, hs1, hsz⟩ := hok
      simp only at hR8 hL8 hm8 hm0 hRl hLl hs1 hsz hrr hrl
      have HSOL := Lib.hid (HS0.out.step hbw)
      have HR := Lib.hid hrr
      have HL := Lib.hid hrl
      have HMI : Hid (Calls Tryz.prog 102 #[.pointer (some ⟨s, 0, none⟩), u3, .int .i64 (k : Int)] wr fun e w' => e = .returned (.int .u8 (missF TL R lost k : Int)) ∧ Below wr.heap.size wr w') := Lib.hid (missed_any s b n p g lost k G V E T TL R u3 wr HSOL.out (HT0.out.step hbw) HT8.out HTl.out hrr hR8 (by omega) hlo2.out (by omega))
      have hd8 : missF TL R lost k < 256 := missK_lt HT8.out hR8 lost k _
      have HSE : Hid (bmStep TL lost k ⟨R, L, mi, si, sz⟩ = if missF TL R lost k = 0 then ⟨R, L, mi, si + 1, sz⟩ else if 2 * sz ≤ k then ⟨nextF ⟨R, L, mi, si, sz⟩ (missF TL R lost k), R, missF TL R lost k, 1, k + 1 - sz⟩ else ⟨nextF ⟨R, L, mi, si, sz⟩ (missF TL R lost k), L, mi, si + 1, sz⟩) := Lib.hid rfl
      obtain ⟨d, hd⟩ : ∃ d, missF TL R lost k = d := ⟨_, rfl⟩
      rw [hd] at HMI hd8 HSE
      have hsi : (si : Int) ≤ 1000 := by omega
      have hsi0 : 1 ≤ (si : Int) := by omega
      have hszb : (sz : Int) ≤ (k : Int) := by omega
      clear hbw hrr hrl hst hd
      by_cases hd0 : d = 0
      · have HN : Hid (bm TL lost (k + 1) = ⟨R, L, mi, si + 1, sz⟩) := Lib.hid (by rw [HST.out, HSE.out, if_pos hd0])
        have hdi : (d : Int) = 0 := by omega
        have hdt : ((d : Int) == 0) = true := by simpa using hd0
        clear hd0 hR8 hL8 hm8 hm0 HST HSE
        go_wp2_with (go_at_call 102; (with_reducible refine HMI.out.mono ?_); rintro e w2 ⟨rfl, b2⟩; have B2 := Lib.hid (HBW.out.next b2); have R2 := Lib.hid (HR.out.step b2); have L2 := Lib.hid (HL.out.step b2); clear b2)
        go_roundw
        case rel => exact ⟨k + 1, HKM.out, by go_num, by rw [HN.out], by rw [HN.out]; go_num, by rw [HN.out], ⟨by rw [HN.out]; exact R2.out, by rw [HN.out]; exact L2.out⟩, B2.out⟩
        case measure => have := HKM.out; simp [intOf]; omega
      · have hdt : ((d : Int) == 0) = false := by simp; omega
        have hdi : ¬ (d : Int) = 0 := by omega
        have HDV : Hid (∀ u, Below wr.heap.size wr u → Calls Tryz.prog 90 #[.pointer (some ⟨b, 0, none⟩), .int .u8 (d : Int), .int .u8 (mi : Int)] u fun e w' => e = .returned (.tuple #[.int .u8 (gm d (iv mi) : Int), .bool (decide (mi ≠ 0))]) ∧ Below u.heap.size u w') := Lib.hid fun u hb => divV b d mi u (HSOL.out.fld.step hb) hd8 hm8
        have hq8 : gm d (iv mi) < 256 := gm_lt hd8 (iv_lt _)
        have HNX : Hid (nextF ⟨R, L, mi, si, sz⟩ d = addl [R, pms [[gm d (iv mi)], shl L si]]) := Lib.hid rfl
        obtain ⟨q, hq⟩ : ∃ q, gm d (iv mi) = q := ⟨_, rfl⟩
        rw [hq] at HDV hq8 HNX
        have hS8 := shl_by hL8 si
        have hSl := shl_le L si
        have HSH : Hid (∀ wx, Below wr.heap.size wr wx → ∀ v, Rd L v wx → Calls Tryz.prog 72 #[v, .int .i64 (si : Int)] wx fun e w' => (∃ v, e = .returned v ∧ Reads w' v (shl L si)) ∧ Below wx.heap.size wx w') := Lib.hid fun wx hb v hv => by
          have := shiftV v L (si : Int) wx hv (by omega)
          rwa [shn_nat si (by omega)] at this
        obtain ⟨S, hS⟩ : ∃ S, shl L si = S := ⟨_, rfl⟩
        rw [hS] at HSH hS8 hSl HNX
        have HBQ8 : Hid (By [q]) := Lib.hid (by_one hq8)
        have hM8 : By (pms [[q], S]) := pms_two_by HBQ8.out hS8
        have hMl := pms_two_le [q] S
        have HPM : Hid (∀ wx, Below wr.heap.size wr wx → ∀ v, Pls [[q], S] v wx → Calls Tryz.prog 104 #[.pointer (some ⟨b, 0, none⟩), v] wx fun e w' => (∃ v, e = .returned v ∧ Reads w' v (pms [[q], S])) ∧ Below wx.heap.size wx w') := Lib.hid fun wx hb v hv => pmulV b v _ wx (HSOL.out.fld.step hb) hv (by simp) (by intro l hl; simp only [List.mem_cons, List.not_mem_nil, or_false] at hl; rcases hl with rfl | rfl; simp; omega)
        simp only [List.length_cons, List.length_nil] at hMl
        obtain ⟨Mm, hMm⟩ : ∃ Mm, pms [[q], S] = Mm := ⟨_, rfl⟩
        rw [hMm] at HPM hM8 hMl HNX
        have HPA : Hid (∀ wx, Below wr.heap.size wr wx → ∀ v, Pls [R, Mm] v wx → Calls Tryz.prog 103 #[.pointer (some ⟨b, 0, none⟩), v] wx fun e w' => (∃ v, e = .returned v ∧ Reads w' v (addl [R, Mm])) ∧ Below wx.heap.size wx w') := Lib.hid fun wx hb v hv => paddV b v _ wx hv (by simp) (by intro l hl; simp only [List.mem_cons, List.not_mem_nil, or_false] at hl; rcases hl with rfl | rfl <;> omega)
        obtain ⟨Nn, hNn⟩ : ∃ Nn, addl [R, Mm] = Nn := ⟨_, rfl⟩
        rw [hNn] at HPA HNX
        have HBR := Lib.hid hR8
        have HBS := Lib.hid hS8
        have HBM8 := Lib.hid hM8
        have HG : Hid (2 * sz ≤ k → bm TL lost (k + 1) = ⟨Nn, R, d, 1, k + 1 - sz⟩) := Lib.hid fun h => by rw [HST.out, HSE.out, if_neg hd0, if_pos h, HNX.out]
        have HH : Hid (¬ 2 * sz ≤ k → bm TL lost (k + 1) = ⟨Nn, L, mi, si + 1, sz⟩) := Lib.hid fun h => by rw [HST.out, HSE.out, if_neg hd0, if_neg h, HNX.out]
        clear hd0 hR8 hL8 hS8 hM8 hMl hSl hq hS hMm hNn HST HSE HNX hm0 hm8 hRl hLl
        go_wp2_with (first
          | (go_at_call 102; (with_reducible refine HMI.out.mono ?_); rintro e w2 ⟨rfl, b2⟩; have B2 := Lib.hid b2; have c02 := (HSOL.out.step b2).c0; clear b2)
          | (go_at_call 90; (with_reducible refine (HDV.out w2 B2.out).mono ?_); rintro e w3 ⟨rfl, b3⟩; have B3 := Lib.hid (B2.out.next b3); clear b3 c02))
        have HLT : Hid (s < w3.heap.size) := Lib.hid (HSOL.out.step B3.out).lt
        have C0 : Hid (w3.cell? ⟨s, 0, none⟩ = some (.pointer (some ⟨b, 0, none⟩))) := Lib.hid (HSOL.out.step B3.out).c0
        have R3 := Lib.hid (HR.out.step B3.out)
        have L3 := Lib.hid (HL.out.step B3.out)
        refine region_invX [(0, 45), (1, 46), (2, 47), (3, 48), (4, 49), (5, 50), (6, 51), (7, 52), (8, 53), (9, 54), (10, 55), (11, 56), (12, 57), (13, 58), (14, 59), (15, 60), (16, 61), (17, 62), (18, 12)]
          (fun ii => [Is (.pointer (some ⟨s, 0, none⟩)), Is (.pointer (some ⟨s, 0, none⟩)), Is (.pointer (some ⟨s, 0, none⟩)), Is (.pointer (some ⟨b, 0, none⟩)), Rd R, Is (.pointer (some ⟨s, 0, none⟩)), Is (.pointer (some ⟨s, 0, none⟩)), Is (.pointer (some ⟨s, 0, none⟩)), Is (.pointer (some ⟨b, 0, none⟩)), Is (.int .u8 (q : Int)), Rd [q], Rd L, Is (.int .i64 (si : Int)), Rd S, Pls [[q], S], Rd Mm, Pls [R, Mm], Rd Nn, Rd Nn].getD ii (Is undef))
          (fun w' => Below w3.heap.size w3 w') (by kernel_rfl) (by kernel_rfl) (by decide) (by decide) (by kernel_rfl) rfl ?monon ((Below.refl _ _).drew) ?stepn ?finn
        case monon =>
          intro i
          match i with
          | 0 | 1 | 2 | 3 | 5 | 6 | 7 | 8 | 9 | 12 => exact Is.monot _
          | 4 | 10 | 11 | 13 | 15 | 17 | 18 => exact Rd.monot _
          | 14 | 16 => exact Pls.monot _
          | _ + 19 => exact Is.monot _
        case stepn =>
          refine List.forall_mem_cons.2 ⟨?ns0, List.forall_mem_cons.2 ⟨?ns1, List.forall_mem_cons.2 ⟨?ns2, List.forall_mem_cons.2 ⟨?ns3, List.forall_mem_cons.2 ⟨?ns4, List.forall_mem_cons.2 ⟨?ns5, List.forall_mem_cons.2 ⟨?ns6, List.forall_mem_cons.2 ⟨?ns7, List.forall_mem_cons.2 ⟨?ns8, List.forall_mem_cons.2 ⟨?ns9, List.forall_mem_cons.2 ⟨?ns10, List.forall_mem_cons.2 ⟨?ns11, List.forall_mem_cons.2 ⟨?ns12, List.forall_mem_cons.2 ⟨?ns13, List.forall_mem_cons.2 ⟨?ns14, List.forall_mem_cons.2 ⟨?ns15, List.forall_mem_cons.2 ⟨?ns16, List.forall_mem_cons.2 ⟨?ns17, List.forall_mem_cons.2 ⟨?ns18, List.forall_mem_nil _⟩⟩⟩⟩⟩⟩⟩⟩⟩⟩⟩⟩⟩⟩⟩⟩⟩⟩⟩
          case ns0 =>
            intro u wx hg hC
            clear hC
            refine wpOp_step rfl (fun K hK => ?_)
            simp only [puts, List.foldl]
            go_simp
            exact hK _ _ ⟨rfl, rfl, hg, Below.refl _ _⟩
          case ns1 =>
            intro u wx hg hC
            have hJ0 : u 0 = (.pointer (some ⟨s, 0, none⟩)) := hC.at 0 (by kernel_rfl)
            clear hC
            refine wpOp_step rfl (fun K hK => ?_)
            simp only [puts, List.foldl]
            go_simp
            exact hK _ _ ⟨rfl, rfl, hg, Below.refl _ _⟩
          case ns2 =>
            intro u wx hg hC
            have hJ1 : u 1 = (.pointer (some ⟨s, 0, none⟩)) := hC.at 1 (by kernel_rfl)
            clear hC
            refine wpOp_step rfl (fun K hK => ?_)
            simp only [puts, List.foldl]
            go_simp
            exact hK _ _ ⟨rfl, rfl, hg, Below.refl _ _⟩
          case ns3 =>
            intro u wx hg hC
            have hJ2 : u 2 = (.pointer (some ⟨s, 0, none⟩)) := hC.at 2 (by kernel_rfl)
            clear hC
            have hcl : wx.cell? ⟨s, 0, none⟩ = some (.pointer (some ⟨b, 0, none⟩)) := (hg.cell (p := ⟨s, 0, none⟩) HLT.out).trans C0.out
            refine wpOp_step rfl (fun K hK => ?_)
            simp only [puts, List.foldl]
            go_simp
            exact hK _ _ ⟨rfl, rfl, hg, Below.refl _ _⟩
          case ns4 =>
            intro u wx hg hC
            clear hC
            refine wpOp_step rfl (fun K hK => ?_)
            simp only [puts, List.foldl]
            go_simp
            exact hK _ _ ⟨rfl, R3.out.step hg, hg, Below.refl _ _⟩
          case ns5 =>
            intro u wx hg hC
            clear hC
            refine wpOp_step rfl (fun K hK => ?_)
            simp only [puts, List.foldl]
            go_simp
            exact hK _ _ ⟨rfl, rfl, hg, Below.refl _ _⟩
          case ns6 =>
            intro u wx hg hC
            have hJ5 : u 5 = (.pointer (some ⟨s, 0, none⟩)) := hC.at 5 (by kernel_rfl)
            clear hC
            refine wpOp_step rfl (fun K hK => ?_)
            simp only [puts, List.foldl]
            go_simp
            exact hK _ _ ⟨rfl, rfl, hg, Below.refl _ _⟩
          case ns7 =>
            intro u wx hg hC
            have hJ6 : u 6 = (.pointer (some ⟨s, 0, none⟩)) := hC.at 6 (by kernel_rfl)
            clear hC
            refine wpOp_step rfl (fun K hK => ?_)
            simp only [puts, List.foldl]
            go_simp
            exact hK _ _ ⟨rfl, rfl, hg, Below.refl _ _⟩
          case ns8 =>
            intro u wx hg hC
            have hJ7 : u 7 = (.pointer (some ⟨s, 0, none⟩)) := hC.at 7 (by kernel_rfl)
            clear hC
            have hcl : wx.cell? ⟨s, 0, none⟩ = some (.pointer (some ⟨b, 0, none⟩)) := (hg.cell (p := ⟨s, 0, none⟩) HLT.out).trans C0.out
            refine wpOp_step rfl (fun K hK => ?_)
            simp only [puts, List.foldl]
            go_simp
            exact hK _ _ ⟨rfl, rfl, hg, Below.refl _ _⟩
          case ns9 =>
            intro u wx hg hC
            clear hC
            refine wpOp_step rfl (fun K hK => ?_)
            simp only [puts, List.foldl]
            go_simp
            exact hK _ _ ⟨rfl, rfl, hg, Below.refl _ _⟩
          case ns10 =>
            intro u wx hg hC
            have hJ9 : u 9 = (.int .u8 (q : Int)) := hC.at 9 (by kernel_rfl)
            clear hC
            refine wpOp_step rfl (fun K hK => ?_)
            simp only [puts, List.foldl]
            go_simp
            exact hK _ _ ⟨rfl, ⟨some ⟨wx.heap.size, 0, none⟩, 1, rfl, Nat.le_refl _, Lies.new [_] _ _⟩, hg.alloc hg.size _, alloc_below _ _⟩
          case ns11 =>
            intro u wx hg hC
            clear hC
            refine wpOp_step rfl (fun K hK => ?_)
            simp only [puts, List.foldl]
            go_simp
            exact hK _ _ ⟨rfl, L3.out.step hg, hg, Below.refl _ _⟩
          case ns12 =>
            intro u wx hg hC
            clear hC
            refine wpOp_step rfl (fun K hK => ?_)
            simp only [puts, List.foldl]
            go_simp
            exact hK _ _ ⟨rfl, rfl, hg, Below.refl _ _⟩
          case ns13 =>
            intro u wx hg hC
            have hJ11 : (Rd L) (u 11) wx := hC.at 11 (by kernel_rfl)
            have hJ12 : u 12 = (.int .i64 (si : Int)) := hC.at 12 (by kernel_rfl)
            clear hC
            refine wpOp_step rfl (fun K hK => ?_)
            simp only [puts, List.foldl]
            go_simp
            refine (HSH.out wx (B3.out.next hg) _ hJ11).mono ?_
            rintro e w' ⟨⟨v, rfl, hv⟩, hb'⟩
            exact hK _ _ ⟨rfl, hv, hg.next hb', hb'⟩
          case ns14 =>
            intro u wx hg hC
            obtain ⟨a10, c10, e10, q10⟩ : (Rd [q]) (u 10) wx := hC.at 10 (by kernel_rfl)
            have hJ10 : Rd [q] (.slice a10 ([q]).length c10) wx := ⟨_, _, rfl, q10⟩
            obtain ⟨a13, c13, e13, q13⟩ : (Rd S) (u 13) wx := hC.at 13 (by kernel_rfl)
            have hJ13 : Rd (S) (.slice a13 (S).length c13) wx := ⟨_, _, rfl, q13⟩
            clear hC
            refine wpOp_step rfl (fun K hK => ?_)
            simp only [puts, List.foldl]
            go_simp
            refine hK _ _ ⟨rfl, ?_, hg.alloc hg.size _, alloc_below _ _⟩
            change Pls [[q], S] _ _
            exact pls_two (HBQ8.out) (HBS.out) (hJ10) (hJ13)
          case ns15 =>
            intro u wx hg hC
            have hJ8 : u 8 = (.pointer (some ⟨b, 0, none⟩)) := hC.at 8 (by kernel_rfl)
            have hJ14 : (Pls [[q], S]) (u 14) wx := hC.at 14 (by kernel_rfl)
            clear hC
            refine wpOp_step rfl (fun K hK => ?_)
            simp only [puts, List.foldl]
            go_simp
            refine (HPM.out wx (B3.out.next hg) _ hJ14).mono ?_
            rintro e w' ⟨⟨v, rfl, hv⟩, hb'⟩
            exact hK _ _ ⟨rfl, hv, hg.next hb', hb'⟩
          case ns16 =>
            intro u wx hg hC
            obtain ⟨a4, c4, e4, q4⟩ : (Rd R) (u 4) wx := hC.at 4 (by kernel_rfl)
            have hJ4 : Rd (R) (.slice a4 (R).length c4) wx := ⟨_, _, rfl, q4⟩
            obtain ⟨a15, c15, e15, q15⟩ : (Rd Mm) (u 15) wx := hC.at 15 (by kernel_rfl)
            have hJ15 : Rd (Mm) (.slice a15 (Mm).length c15) wx := ⟨_, _, rfl, q15⟩
            clear hC
            refine wpOp_step rfl (fun K hK => ?_)
            simp only [puts, List.foldl]
            go_simp
            refine hK _ _ ⟨rfl, ?_, hg.alloc hg.size _, alloc_below _ _⟩
            change Pls [R, Mm] _ _
            exact pls_two (HBR.out) (HBM8.out) (hJ4) (hJ15)
          case ns17 =>
            intro u wx hg hC
            have hJ3 : u 3 = (.pointer (some ⟨b, 0, none⟩)) := hC.at 3 (by kernel_rfl)
            have hJ16 : (Pls [R, Mm]) (u 16) wx := hC.at 16 (by kernel_rfl)
            clear hC
            refine wpOp_step rfl (fun K hK => ?_)
            simp only [puts, List.foldl]
            go_simp
            refine (HPA.out wx (B3.out.next hg) _ hJ16).mono ?_
            rintro e w' ⟨⟨v, rfl, hv⟩, hb'⟩
            exact hK _ _ ⟨rfl, hv, hg.next hb', hb'⟩
          case ns18 =>
            intro u wx hg hC
            have hJ17 : (Rd Nn) (u 17) wx := hC.at 17 (by kernel_rfl)
            clear hC
            refine wpOp_step rfl (fun K hK => ?_)
            simp only [puts, List.foldl]
            go_simp
            exact hK _ _ ⟨rfl, hJ17, hg, Below.refl _ _⟩
        case finn =>
          intro u wq hbq hφ
          have h12 : Rd Nn (u 18) wq := hφ (18, 12) (by decide)
          clear hφ
          simp only [puts, List.foldl]
          go_simp
          have H12 : Hid (Reads wq (u 18) Nn) := Lib.hid h12
          have RQ := Lib.hid (R3.out.step hbq)
          have LQ := Lib.hid (L3.out.step hbq)
          have HBQ := Lib.hid ((HBW.out.next B3.out).next hbq)
          clear hbq h12
          by_cases hgr : 2 * sz ≤ k
          · have hgi : 2 * (sz : Int) ≤ (k : Int) := by omega
            have HN := Lib.hid (HG.out hgr)
            have HKS : Hid (sz ≤ k) := Lib.hid (by omega)
            clear hgr HG HH
            go_wp2
            go_roundw
            case rel => exact ⟨k + 1, HKM.out, by go_num, by rw [HN.out], by rw [HN.out]; rfl, by rw [HN.out]; have := HKS.out; exact congrArg (Value.int .i64) (by simp only; omega), ⟨by rw [HN.out]; exact H12.out, by rw [HN.out]; exact RQ.out⟩, HBQ.out⟩
            case measure => have := HKM.out; simp [intOf]; omega
          · have hgi : ¬ 2 * (sz : Int) ≤ (k : Int) := by omega
            have HN := Lib.hid (HH.out hgr)
            clear hgr HG HH
            go_wp2
            go_roundw
            case rel => exact ⟨k + 1, HKM.out, by go_num, by rw [HN.out], by rw [HN.out]; go_num, by rw [HN.out], ⟨by rw [HN.out]; exact H12.out, by rw [HN.out]; exact LQ.out⟩, HBQ.out⟩
            case measure => have := HKM.out; simp [intOf]; omega
    · have HE : Hid (k = M) := Lib.hid (HNE.out k (by omega) hk)
      have HV : Hid (Reads wr u3 (masseyF p TL lost)) := Lib.hid (by rw [HMF.out, ← HE.out]; exact hrr)
      clear hbw hrr hrl
      go_wp2
      go_ret
      exact ⟨⟨_, rfl, HV.out⟩, HBW.out⟩

end Go.Proofs.YtnbjaijhdjneoaaGreat
