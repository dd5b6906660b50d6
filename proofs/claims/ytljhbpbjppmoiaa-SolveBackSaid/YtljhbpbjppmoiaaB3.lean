/- The texts PolyZC, PolyBF, SolMath, InvY, InvG, Same, PolyU, PolyW, RsI, RsJ, RsK, RsMath2, RsL, RsM, one behind the other. -/
import Derived.Deep.QuietTactic
import Derived.BigQuiet
import Derived.StillTailTactics
import Derived.Test.YtljhbpbjppmoiaaB2
/- Contracts of poly's Mul and Add for lists whose room isn't known. -/
namespace Go.Proofs.Ytljhbpbjppmoiaa
open Go.RowKit GfMath PolyMath
set_option linter.unusedVariables false

theorem Polz.by {w : World} {ts : List Hd} {ls : List (List Nat)} (h : Polz w ts ls) : ∀ l ∈ ls, By l := by
  intro l hl
  obtain ⟨i, hi, rfl⟩ := List.mem_iff_getElem.1 hl
  exact (h.at_ i (by rw [h.len]; exact hi) hi).2.2.1

set_option maxHeartbeats 1000000 in
theorem pmulz_any (b : Nat) (a : Option Addr) (cap : Nat) (ts : List Hd) (ls : List (List Nat)) (w : World) (hf : Fld w b) (hp : Polz w ts ls) (hn : ls.length ≤ 100) (hl : ∀ l ∈ ls, l.length ≤ 5000) (hr : Lies w w.heap.size a (slvs ts)) :
    Calls Try.prog 39 #[.pointer (some ⟨b, 0, none⟩), .slice a ls.length cap] w fun e w' => (∃ v, e = .returned v ∧ Reads w' v (pms ls)) ∧ Below w.heap.size w w' := by
  have HF := Lib.hid hf
  have HR := Lib.hid hr
  have HP := Lib.hid hp
  have HL := Lib.hid hl
  have HN : Hid (ls.length ≤ 100) := Lib.hid hn
  have H0 : Hid (Reads (w.alloc (.cells #[.int .u8 1] 5)) (.slice (some ⟨w.heap.size, 0, none⟩) 1 1) (pms [])) := Lib.hid ⟨_, 1, rfl, by decide, Lies.new [.int .u8 1] w _⟩
  clear hf hr hp hl
  go_enter Try.func39, Try.ntmps39
  go_wp2
  go_loopw [5, 13] (fun p i wr => ∃ k : Nat, k ≤ ls.length ∧ i = .int .i64 k ∧ Reads wr p (pms (ls.take k)) ∧ Below w.heap.size w wr) (fun _ i _ => ls.length - (intOf i).toNat)
  case atStart => exact ⟨0, Nat.zero_le _, rfl, H0.out, alloc_below _ _⟩
  case round =>
    clear H0
    obtain ⟨k, hk, rfl, ⟨ap, cp, rfl, hcp, hp⟩, hbw⟩ := hrel
    by_cases hlt : k < ls.length
    · have hk1 : (k : Int) < ls.length := by omega
      obtain ⟨q, c, ht, hqc, hq8, hql⟩ := HP.out.get k hlt
      have hkt : k < ts.length := by rw [HP.out.len]; exact hlt
      obtain ⟨b2, off, rfl, hbb, hcl⟩ := HR.out (by rw [slvs_length]; omega)
      have hcell : wr.cell? ⟨b2, off + k, none⟩ = some (.slice q ls[k].length c) := by
        have h1 := (hbw.cell (p := ⟨b2, off + k, none⟩) hbb).trans (hcl k _ (slvs_get ts k hkt))
        rw [ht] at h1
        exact h1
      have hst : pms (ls.take (k + 1)) = pm (pms (ls.take k)) (beh ls[k]) := by rw [take_snoc ls k hlt, pms_snoc]
      have hby : ∀ l ∈ ls.take k, By l := fun l h => HP.out.by l (List.mem_of_mem_take h)
      obtain ⟨hP8, _⟩ := pms_all (ls.take k) hby
      have hPl := pms_le (ls.take k) 5000 fun l h => HL.out l (List.mem_of_mem_take h)
      rw [List.length_take] at hPl
      have hPl2 : (pms (ls.take k)).length ≤ 1000000 := by have := HN.out; omega
      have hql5 := HL.out ls[k] (List.getElem_mem hlt)
      obtain ⟨l, hle⟩ : ∃ l, ls[k] = l := ⟨_, rfl⟩
      rw [hle] at hcell hst hqc hq8 hql hql5
      obtain ⟨P, hP⟩ : ∃ P, pms (ls.take k) = P := ⟨_, rfl⟩
      rw [hP] at hst hp hcp hP8 hPl2
      rw [hP]
      have hmb := beh_le l
      have hm8 := hq8.beh
      have HBE := Lib.hid (behind_any q c l wr (by omega) hqc (hql.step hbw))
      obtain ⟨m, hm⟩ : ∃ m, beh l = m := ⟨_, rfl⟩
      rw [hm] at HBE hst hmb hm8
      have HT : Hid (∀ (u : World) (q2 : Option Addr) (c2 : Nat), Fld u b → Lies u u.heap.size ap (u8s P) → Lies u u.heap.size q2 (u8s m) → Calls Try.prog 22 #[.pointer (some ⟨b, 0, none⟩), .slice ap P.length cp, .slice q2 m.length c2] u fun e w' => (∃ v, e = .returned v ∧ Reads w' v (pm P m)) ∧ Below u.heap.size u w') :=
        Lib.hid fun u q2 c2 h3 h4 h5 => ptimes_any b ap q2 cp c2 P m u h3 hP8 hm8 hPl2 (by omega) h4 h5
      have HPP := Lib.hid hp
      have HS := Lib.hid hst
      have HW := Lib.hid hbw
      have HFR : Hid (Fld wr b) := Lib.hid (HF.out.step hbw)
      clear hp hst hbw hcl hbb hP hcp hP8 hPl hPl2 hql hqc hq8 hle hm8 hmb hm ht hql5 
      go_wp2_with (first
        | (go_at_call 43; (with_reducible refine HBE.out.mono ?_); rintro e w1 ⟨⟨v, rfl, q2, c2, rfl, _, hv⟩, rfl⟩; have HV := Lib.hid hv; clear hv)
        | (go_at_call 22; (with_reducible refine (HT.out wr q2 c2 HFR.out HPP.out HV.out).mono ?_); rintro e w2 ⟨⟨v, rfl, hv⟩, b2⟩; have V2 := Lib.hid hv; have B2 := Lib.hid b2; clear hv b2))
      go_roundw
      case rel => exact ⟨k + 1, by omega, by go_num, by rw [HS.out]; exact V2.out, HW.out.next B2.out⟩
      case measure => simp [intOf]; omega
    · have ek : k = ls.length := by omega
      have HV : Hid (Reads wr (.slice ap (pms (ls.take k)).length cp) (pms ls)) := Lib.hid (by
        rw [ek, List.take_of_length_le (Nat.le_refl _)] at hp hcp ⊢
        exact ⟨ap, cp, rfl, hcp, hp⟩)
      have HW := Lib.hid hbw
      clear hp hbw
      go_wp2
      go_ret
      exact ⟨⟨_, rfl, HV.out⟩, HW.out⟩

set_option maxRecDepth 100000 in
set_option maxHeartbeats 1000000 in
theorem paddz_any (b : Nat) (a : Option Addr) (cap : Nat) (ts : List Hd) (ls : List (List Nat)) (w : World) (hp : Polz w ts ls) (hn : ls.length ≤ 100) (hl : ∀ l ∈ ls, l.length ≤ 5000) (hr : Lies w w.heap.size a (slvs ts)) :
    Calls Try.prog 38 #[.pointer (some ⟨b, 0, none⟩), .slice a ls.length cap] w fun e w' => (∃ v, e = .returned v ∧ Reads w' v (addl ls)) ∧ Below w.heap.size w w' := by
  have HR := Lib.hid hr
  have HP := Lib.hid hp
  have HL := Lib.hid hl
  have hN := mx_le ls 5000 hl
  obtain ⟨N, hNe⟩ : ∃ N, mx ls = N := ⟨_, rfl⟩
  rw [hNe] at hN
  have HNE := Lib.hid hNe
  have HI8 : Hid ((Try.prog.info? 5).map (fun i => (i.zero, i.size, i.bytes)) = some (some (.int .u8 0), 1, 8) ∨ (Try.prog.info? 5).map (fun i => (i.zero, i.size, i.bytes)) = some (some (.int .u8 0), 1, 1)) := Lib.hid (Or.inr info_byte)
  have HLL : Hid (N ≤ N) := Lib.hid (Nat.le_refl _)
  have HLM0 : Hid (N ≤ 1099511627776) := Lib.hid (by omega)
  have HZC : Hid ((Value.int .u8 0).cells = #[.int .u8 0]) := Lib.hid rfl
  have HS1 := Lib.hid info_byte1
  have hNi : (N : Int) ≤ 5000 := by omega
  obtain ⟨g, hg⟩ : ∃ g, g = w.heap.size := ⟨_, rfl⟩
  have HG := Lib.hid hg
  clear hr hp hl hNe hg
  go_enter Try.func38, Try.ntmps38
  go_wp2
  go_loop [5, 18] (fun n i => ∃ k : Nat, k ≤ ls.length ∧ i = .int .i64 k ∧ n = .int .i64 (mx (ls.take k) : Int)) (fun _ i => ls.length - (intOf i).toNat)
  case atStart => exact ⟨0, Nat.zero_le _, rfl, rfl⟩
  case round =>
    obtain ⟨k, hk, rfl, rfl⟩ := hrel
    by_cases hlt : k < ls.length
    · have hk1 : (k : Int) < ls.length := by omega
      obtain ⟨q, c, ht, hqc, hq8, hql⟩ := HP.out.get k hlt
      have hkt : k < ts.length := by rw [HP.out.len]; exact hlt
      obtain ⟨b2, off, rfl, hbb, hcl⟩ := HR.out (by rw [slvs_length]; omega)
      have hcell : w.cell? ⟨b2, off + k, none⟩ = some (.slice q ls[k].length c) := by
        have h1 := hcl k _ (slvs_get ts k hkt)
        rw [ht] at h1
        exact h1
      have hst : mx (ls.take (k + 1)) = max (mx (ls.take k)) ls[k].length := by rw [take_snoc ls k hlt, mx_snoc]
      have hm1 := mx_le (ls.take k) 5000 fun l h => HL.out l (List.mem_of_mem_take h)
      have hm2 := HL.out ls[k] (List.getElem_mem hlt)
      obtain ⟨M, hM⟩ : ∃ M, mx (ls.take k) = M := ⟨_, rfl⟩
      obtain ⟨d, hd⟩ : ∃ d, ls[k].length = d := ⟨_, rfl⟩
      rw [hM, hd] at hst
      rw [hM] at hm1 ⊢
      rw [hd] at hm2 hcell
      by_cases hMd : M < d
      · have HS : Hid (mx (ls.take (k + 1)) = d) := Lib.hid (by rw [hst]; omega)
        have h1 : (M : Int) < d := by omega
        clear hst hM hd hcl hbb ht hqc  hq8 hql
        go_wp2
        go_round
        case rel => exact ⟨k + 1, by omega, by go_num, by rw [HS.out]⟩
        case measure => simp [intOf]; omega
      · have HS : Hid (mx (ls.take (k + 1)) = M) := Lib.hid (by rw [hst]; omega)
        have h1 : (d : Int) ≤ M := by omega
        clear hst hM hd hcl hbb ht hqc  hq8 hql
        go_wp2
        go_round
        case rel => exact ⟨k + 1, by omega, by go_num, by rw [HS.out]⟩
        case measure => simp [intOf]; omega
    · have ek : k = ls.length := by omega
      rw [ek, List.take_of_length_le (Nat.le_refl _), HNE.out]
      clear ek hlt
      go_wp2_with (first
        | ((with_reducible refine wpMakeK 22 5 (.int .u8 0) N N Try.underlying22 HI8.out HZC.out HLL.out HLM0.out ?_ ?_); rfl; intro w1 r1 b1 s1; have R1 := Lib.hid r1; have B1 := Lib.hid b1; clear r1 b1 s1))
      have RG : Hid (Row w1 g 5 (u8s (hi N (sumf (ls.take 0))))) := Lib.hid (by
        have h := R1.out
        rw [← HG.out] at h
        rw [List.take_zero, hi_zero, u8s_zero]
        exact h)
      rw [← HG.out]
      clear R1
      go_loopw [31] (fun i wr => ∃ k : Nat, k ≤ ls.length ∧ i = .int .i64 k ∧ Row wr g 5 (u8s (hi N (sumf (ls.take k)))) ∧ Below w.heap.size w wr) (fun i _ => ls.length - (intOf i).toNat)
      case atStart => exact ⟨0, Nat.zero_le _, rfl, RG.out, B1.out⟩
      case round =>
        clear RG B1
        obtain ⟨k, hk, rfl, hrow, hbw⟩ := hrel
        by_cases hlt : k < ls.length
        · have hk1 : (k : Int) < ls.length := by omega
          obtain ⟨q, c, ht, hqc, hq8, hql⟩ := HP.out.get k hlt
          have hkt : k < ts.length := by rw [HP.out.len]; exact hlt
          obtain ⟨b2, off, rfl, hbb, hcl⟩ := HR.out (by rw [slvs_length]; omega)
          have hcell : wr.cell? ⟨b2, off + k, none⟩ = some (.slice q ls[k].length c) := by
            have h1 := (hbw.cell (p := ⟨b2, off + k, none⟩) hbb).trans (hcl k _ (slvs_get ts k hkt))
            rw [ht] at h1
            exact h1
          have hm2 := HL.out ls[k] (List.getElem_mem hlt)
          have hmx := le_mx ls ls[k] (List.getElem_mem hlt)
          rw [HNE.out] at hmx
          have hsl := sumf_lt (ls.take k) fun l h => HP.out.by l (List.mem_of_mem_take h)
          have hfull := adj_full N (ls.take k) ls[k] hmx
          rw [← take_snoc ls k hlt] at hfull
          obtain ⟨p, hpe⟩ : ∃ p, ls[k] = p := ⟨_, rfl⟩
          rw [hpe] at hcell hqc hq8 hql hm2 hmx hfull
          obtain ⟨S, hS⟩ : ∃ S, sumf (ls.take k) = S := ⟨_, rfl⟩
          rw [hS] at hrow hsl hfull
          rw [← adj_zero N S p] at hrow
          have HFULL := Lib.hid hfull
          have HSL := Lib.hid hsl
          have HQ8 := Lib.hid hq8
          have HQL := Lib.hid hql
          have HQW : Hid (w.heap.size ≤ w.heap.size) := Lib.hid (Nat.le_refl _)
          have R0 := Lib.hid hrow
          have B0 := Lib.hid hbw
          by_cases hp0 : p.length = 0
          · have hDi : (N : Int) - (p.length : Int) = (N : Int) := by omega
            have hDN : N - N = p.length := by omega
            have hm3 : (p.length : Int) ≤ 5000 := by omega
            have hp1 : (p.length : Int) = 0 := by omega
            clear hcl hrow hbw hbb ht  hq8 hql hsl hfull hpe hS
            go_wp2
            go_loopw [43] (fun i wr => i = .int .i64 0 ∧ Row wr g 5 (u8s (tab N (adj N S p p.length))) ∧ Below w.heap.size w wr) (fun i _ => p.length - (intOf i).toNat)
            case atStart => exact ⟨rfl, by rw [hp0]; exact R0.out, B0.out⟩
            case round =>
              clear R0 B0
              obtain ⟨rfl, hrow, hbw⟩ := hrel
              have HROW : Hid (Row wr g 5 (u8s (hi N (sumf (ls.take (k + 1)))))) := Lib.hid (by rw [← HFULL.out]; exact hrow)
              have HBW := Lib.hid hbw
              clear hrow hbw
              go_wp2
              go_roundw
              case rel => exact ⟨k + 1, by omega, by go_num, HROW.out, HBW.out⟩
              case measure => simp [intOf]; omega
          · obtain ⟨D, hD⟩ : ∃ D, N - p.length = D := ⟨_, rfl⟩
            have HD := Lib.hid hD
            have hND : ¬ N = D := by omega
            have hDi : (N : Int) - (p.length : Int) = (D : Int) := by omega
            have hDN : N - D = p.length := by omega
            have hDl : (D : Int) ≤ N := by omega
            have hD0 : 0 ≤ (D : Int) := by omega
            have hm3 : (p.length : Int) ≤ 5000 := by omega
            clear hcl hrow hbw hbb ht  hq8 hql hsl hfull hpe hS hD
            go_wp2
            go_loopw [43] (fun i wr => ∃ j : Nat, j ≤ p.length ∧ i = .int .i64 j ∧ Row wr g 5 (u8s (tab N (adj N S p j))) ∧ Below w.heap.size w wr) (fun i _ => p.length - (intOf i).toNat)
            case atStart => exact ⟨0, Nat.zero_le _, rfl, R0.out, B0.out⟩
            case round =>
              clear R0 B0
              obtain ⟨j, hj, rfl, hrow, hbw⟩ := hrel
              by_cases hlj : j < p.length
              · have hj1 : (j : Int) < p.length := by omega
                obtain ⟨b3, off3, rfl, hbb3, hcl3⟩ := HQL.out (by rw [u8s_length]; omega)
                have hcell3 : wr.cell? ⟨b3, off3 + j, none⟩ = some (.int .u8 (sq p j : Int)) := by rw [sq_get p j hlj]; exact (hbw.cell (p := ⟨b3, off3 + j, none⟩) hbb3).trans (hcl3 j _ (u8s_get p j hlj))
                have hDj : D + j < N := by omega
                have hcp : wr.cell? ⟨g, D + j, none⟩ = some (.int .u8 (adj N S p j (D + j) : Int)) := by
                  rw [hrow.cell, u8s, List.getElem?_map, tab_get _ _ _ hDj]; rfl
                have hst := adj_step N S p j
                rw [HD.out] at hst
                have hx8 := adj_lt (N := N) HSL.out HQ8.out j (D + j)
                have hy8 := HQ8.out.sq j
                obtain ⟨x, hx⟩ : ∃ x, adj N S p j (D + j) = x := ⟨_, rfl⟩
                obtain ⟨y, hy⟩ : ∃ y, sq p j = y := ⟨_, rfl⟩
                rw [hx, hy] at hst
                rw [hx] at hcp hx8
                rw [hy] at hcell3 hy8
                have HA0 := fun (u : World) => add2 b x y 5 hx8 hy8 u
                obtain ⟨r, hr⟩ : ∃ r, x ^^^ y = r := ⟨_, rfl⟩
                rw [hr] at hst HA0
                have HA := Lib.hid HA0
                have HROW := Lib.hid hrow
                have HBW := Lib.hid hbw
                have HGB : Hid (w.heap.size ≤ g) := Lib.hid (by rw [HG.out]; exact Nat.le_refl _)
                have HLM : Hid (D + j < (u8s (tab N (adj N S p j))).length) := Lib.hid (by rw [u8s_length, tab_length]; exact hDj)
                have HVC : Hid ((Value.int .u8 (r : Int)).cells = #[.int .u8 (r : Int)]) := Lib.hid rfl
                have HVO : Hid ((Value.int .u8 (r : Int)).oneCell' = true) := Lib.hid rfl
                have HST : Hid ((u8s (tab N (adj N S p j))).set (D + j) (.int .u8 (r : Int)) = u8s (tab N (adj N S p (j + 1)))) := Lib.hid (by rw [u8s_set, hst])
                clear HA0 hrow hbw hst hx hy hr hcl3 hbb3 hx8 hy8
                go_wp2_with (first
                  | (go_at_call 40; (with_reducible refine (HA.out wr).mono ?_); rintro e w1 ⟨rfl, b1⟩; have B1 := Lib.hid b1; have R1 := Lib.hid (HROW.out.step b1); clear b1)
                  | ((with_reducible refine R1.out.wpStore1K (D + j) 5 (.int .u8 (r : Int)) HS1.out HLM.out HVC.out HVO.out ?_ ?_); rfl; intro w2 r2 o2 s2; have R2 := Lib.hid r2; have O2 := Lib.hid o2; clear r2 o2 s2))
                go_roundw
                case rel => exact ⟨j + 1, by omega, by go_num, by have h := R2.out; rw [HST.out] at h; exact h, (HBW.out.next B1.out).trans (O2.out.below HGB.out (HBW.out.next B1.out).size)⟩
                case measure => simp [intOf]; omega
              · have ej : j = p.length := by omega
                have HROW : Hid (Row wr g 5 (u8s (hi N (sumf (ls.take (k + 1)))))) := Lib.hid (by rw [← HFULL.out, ← ej]; exact hrow)
                have HBW := Lib.hid hbw
                clear hrow hbw ej
                go_wp2
                go_roundw
                case rel => exact ⟨k + 1, by omega, by go_num, HROW.out, HBW.out⟩
                case measure => simp [intOf]; omega
        · have ek : k = ls.length := by omega
          rw [ek, List.take_of_length_le (Nat.le_refl _)] at hrow
          obtain ⟨T, hT⟩ : ∃ T, hi N (sumf ls) = T := ⟨_, rfl⟩
          have hTl : T.length = N := by rw [← hT, hi_length]
          rw [hT] at hrow
          have HBE : Hid (Calls Try.prog 43 #[.slice (some ⟨g, 0, none⟩) N N] wr fun e w' => (∃ v, e = .returned v ∧ Reads w' v (addl ls)) ∧ wr = w') := Lib.hid (by
            have h := behind_any (some ⟨g, 0, none⟩) N T wr (by omega) (by omega) (row_lies hrow)
            rw [hTl] at h
            exact h.mono fun e w' ⟨⟨v, h1, h2⟩, h3⟩ => ⟨⟨v, h1, by rw [addl, HNE.out, hT, ← h3]; exact h2⟩, h3⟩)
          have HBW := Lib.hid hbw
          clear hrow hbw ek hT hTl
          go_wp2_with (go_at_call 43; (with_reducible refine HBE.out.mono ?_); rintro e w2 ⟨⟨v, rfl, hv⟩, rfl⟩; have HV := Lib.hid hv; clear hv)
          go_ret
          exact ⟨⟨_, rfl, HV.out⟩, HBW.out⟩

theorem two_polz {u : World} {a c : Option Addr} {ca cc : Nat} {A C : List Nat} (hA : By A) (hC : By C) (h1 : A.length ≤ ca) (h2 : C.length ≤ cc)
    (hr : Lies u u.heap.size a (u8s A)) (hs : Lies u u.heap.size c (u8s C)) : Polz u [(a, A.length, ca), (c, C.length, cc)] [A, C] := by
  refine ⟨rfl, fun i hi hi2 => ?_⟩
  match i, hi with
  | 0, _ => exact ⟨rfl, h1, hA, hr⟩
  | 1, _ => exact ⟨rfl, h2, hC, hs⟩
theorem pmul_free (b : Nat) {a c : Option Addr} {ca cc : Nat} {A C : List Nat} (hA : By A) (hC : By C) (h1 : A.length ≤ ca) (h2 : C.length ≤ cc) (h5 : A.length ≤ 5000) (h6 : C.length ≤ 5000)
    (u : World) (hf : Fld u b) (hr : Lies u u.heap.size a (u8s A)) (hs : Lies u u.heap.size c (u8s C)) :
    Calls Try.prog 39 #[.pointer (some ⟨b, 0, none⟩), .slice (some ⟨u.heap.size, 0, none⟩) 2 2] (u.alloc (.cells #[.slice a A.length ca, .slice c C.length cc] 22)) fun e w' => (∃ v, e = .returned v ∧ Reads w' v (pms [A, C])) ∧ Below u.heap.size u w' :=
  (pmulz_any b (some ⟨u.heap.size, 0, none⟩) 2 [(a, A.length, ca), (c, C.length, cc)] [A, C] _ (hf.step (alloc_below _ _)) ((two_polz hA hC h1 h2 hr hs).step (alloc_below _ _)) (by simp) (by intro l hl; simp at hl; rcases hl with rfl | rfl <;> assumption)
    (Lies.new [.slice a A.length ca, .slice c C.length cc] u _)).mono fun e w' ⟨h1, h2⟩ => ⟨h1, (alloc_below _ _).next h2⟩
theorem padd_free (b : Nat) {a c : Option Addr} {ca cc : Nat} {A C : List Nat} (hA : By A) (hC : By C) (h1 : A.length ≤ ca) (h2 : C.length ≤ cc) (h5 : A.length ≤ 5000) (h6 : C.length ≤ 5000)
    (u : World) (hr : Lies u u.heap.size a (u8s A)) (hs : Lies u u.heap.size c (u8s C)) :
    Calls Try.prog 38 #[.pointer (some ⟨b, 0, none⟩), .slice (some ⟨u.heap.size, 0, none⟩) 2 2] (u.alloc (.cells #[.slice a A.length ca, .slice c C.length cc] 22)) fun e w' => (∃ v, e = .returned v ∧ Reads w' v (addl [A, C])) ∧ Below u.heap.size u w' :=
  (paddz_any b (some ⟨u.heap.size, 0, none⟩) 2 [(a, A.length, ca), (c, C.length, cc)] [A, C] _ ((two_polz hA hC h1 h2 hr hs).step (alloc_below _ _)) (by simp) (by intro l hl; simp at hl; rcases hl with rfl | rfl <;> assumption)
    (Lies.new [.slice a A.length ca, .slice c C.length cc] u _)).mono fun e w' ⟨h1, h2⟩ => ⟨h1, (alloc_below _ _).next h2⟩

end Go.Proofs.Ytljhbpbjppmoiaa

/- The contract of poly's product of two, its answer new. -/
namespace Go.Proofs.Ytljhbpbjppmoiaa
open Go.RowKit GfMath PolyMath
set_option linter.unusedVariables false

/-- A slice that lies in new memory, or nowhere. -/
def Fresh (w : World) (v : Value) : Prop := ∀ a n c, v = .slice (some a) n c → w.heap.size ≤ a.block
theorem Fresh.nil (w : World) : Fresh w (.slice none 0 0) := fun a n c h => by cases h

set_option maxHeartbeats 1000000 in
theorem ptimes_somef (b : Nat) (a c : Option Addr) (ca cc : Nat) (A C : List Nat) (w : World) (hf : Fld w b) (hA : By A) (hC : By C) (hla : A.length ≤ 1000000) (hlc : C.length ≤ 1000000) (h0 : 0 < A.length) (h1 : 0 < C.length)
    (hr : Lies w w.heap.size a (u8s A)) (hs : Lies w w.heap.size c (u8s C)) :
    Calls Try.prog 22 #[.pointer (some ⟨b, 0, none⟩), .slice a A.length ca, .slice c C.length cc] w fun e w' => (∃ v, e = .returned v ∧ Reads w' v (pm A C) ∧ Fresh w v) ∧ Below w.heap.size w w' := by
  obtain ⟨L, hL⟩ : ∃ L, A.length + C.length - 1 = L := ⟨_, rfl⟩
  have hLi : (A.length : Int) + (C.length : Int) - 1 = (L : Int) := by omega
  have ha0 : ¬ (A.length : Int) = 0 := by omega
  have hc0 : ¬ (C.length : Int) = 0 := by omega
  have ha1 : ((A.length : Int) == 0) = false := beq_false_of_ne ha0
  have hc1 : ((C.length : Int) == 0) = false := beq_false_of_ne hc0
  have hL0 : 0 < L := by omega
  have hLb : L ≤ 2000000 := by omega
  have hLc : (L : Int) ≤ 2000000 := by omega
  have hpm : pm A C = tab L (cvk (sq A) (sq C) A.length) := by unfold pm; rw [if_neg (by omega), hL]
  obtain ⟨g, hg⟩ : ∃ g, g = w.heap.size := ⟨_, rfl⟩
  have HPM := Lib.hid hpm
  have HL := Lib.hid hL
  have HF := Lib.hid hf
  have HR := Lib.hid hr
  have HS := Lib.hid hs
  have HA := Lib.hid hA
  have HC := Lib.hid hC
  have HG := Lib.hid hg
  have HI8 : Hid ((Try.prog.info? 5).map (fun i => (i.zero, i.size, i.bytes)) = some (some (.int .u8 0), 1, 8) ∨ (Try.prog.info? 5).map (fun i => (i.zero, i.size, i.bytes)) = some (some (.int .u8 0), 1, 1)) := Lib.hid (Or.inr info_byte)
  have HS1 : Hid ((Try.prog.info? 5).map (·.size) = some 1) := Lib.hid (by have h := info_byte; cases hq : Try.prog.info? 5 with | none => rw [hq] at h; cases h | some i => rw [hq] at h; simp only [Option.map_some, Option.some.injEq, Prod.mk.injEq] at h; rw [Option.map_some, h.2.1])
  have HLL : Hid (L ≤ L) := Lib.hid (Nat.le_refl _)
  have HLM0 : Hid (L ≤ 1099511627776) := Lib.hid (by omega)
  have HZC : Hid ((Value.int .u8 0).cells = #[.int .u8 0]) := Lib.hid rfl
  clear hpm hL hf hr hs hA hC hg
  go_enter Try.func22, Try.ntmps22
  go_wp2_with (first
    | ((with_reducible refine wpMakeK 22 5 (.int .u8 0) L L Try.underlying22 HI8.out HZC.out HLL.out HLM0.out ?_ ?_); rfl; intro w1 r1 b1 s1; have R1 := Lib.hid r1; have B1 := Lib.hid b1; clear r1 b1 s1))
  have RG : Hid (Row w1 g 5 (u8s (tab L (cvk (sq A) (sq C) 0)))) := Lib.hid (by
    have h := R1.out
    rw [← HG.out] at h
    have e : u8s (tab L (cvk (sq A) (sq C) 0)) = List.replicate L (.int .u8 0) := by
      rw [show tab L (cvk (sq A) (sq C) 0) = List.replicate L 0 from (tab_zero L).symm, u8s, List.map_replicate]; rfl
    rw [e]; exact h)
  rw [← HG.out]
  clear R1
  go_loopw [29] (fun i wr => ∃ k : Nat, k ≤ A.length ∧ i = .int .i64 k ∧ Row wr g 5 (u8s (tab L (cvk (sq A) (sq C) k))) ∧ Below w.heap.size w wr) (fun i _ => A.length - (intOf i).toNat)
  case atStart => exact ⟨0, Nat.zero_le _, rfl, RG.out, B1.out⟩
  case round =>
    clear RG B1
    obtain ⟨k, hk, rfl, hrow, hbw⟩ := hrel
    by_cases hlt : k < A.length
    · have hk1 : (k : Int) < A.length := by omega
      obtain ⟨b2, off, rfl, hbb, hcl⟩ := HR.out (by rw [u8s_length]; omega)
      have hcell : wr.cell? ⟨b2, off + k, none⟩ = some (.int .u8 (sq A k : Int)) := by rw [sq_get A k hlt]; exact (hbw.cell (p := ⟨b2, off + k, none⟩) hbb).trans (hcl k _ (u8s_get A k hlt))
      obtain ⟨x, hc'⟩ : ∃ x, sq A k = x := ⟨_, rfl⟩
      rw [hc'] at hcell
      have HSA := Lib.hid hc'
      have R0 : Hid (Row wr g 5 (u8s (tab L (cvj A C k 0)))) := Lib.hid (by rw [tab_congr L (fun n _ => cvj_zero A C k n)]; exact hrow)
      have B0 := Lib.hid hbw
      clear hcl hrow hbw hc' hbb
      go_wp2
      go_loopw [36] (fun i wr => ∃ j : Nat, j ≤ C.length ∧ i = .int .i64 j ∧ Row wr g 5 (u8s (tab L (cvj A C k j))) ∧ Below w.heap.size w wr) (fun i _ => C.length - (intOf i).toNat)
      case atStart => exact ⟨0, Nat.zero_le _, rfl, R0.out, B0.out⟩
      case round =>
        clear R0 B0
        obtain ⟨j, hj, rfl, hrow, hbw⟩ := hrel
        by_cases hlj : j < C.length
        · have hj1 : (j : Int) < C.length := by omega
          obtain ⟨b3, off3, rfl, hbb3, hcl3⟩ := HS.out (by rw [u8s_length]; omega)
          have hcell3 : wr.cell? ⟨b3, off3 + j, none⟩ = some (.int .u8 (sq C j : Int)) := by rw [sq_get C j hlj]; exact (hbw.cell (p := ⟨b3, off3 + j, none⟩) hbb3).trans (hcl3 j _ (u8s_get C j hlj))
          obtain ⟨m, hm⟩ : ∃ m, k + j = m := ⟨_, rfl⟩
          have hmi : (k : Int) + (j : Int) = (m : Int) := by omega
          have hmL : m < L := by have := HL.out; omega
          have hm1 : (m : Int) < L := by omega
          have hm0 : 0 ≤ (m : Int) := by omega
          have hmw : IntKind.i64.wrap (m : Int) = (m : Int) := by rw [IntKind.wrap_i64]; omega
          have hst := cvj_step A C L k j
          have hp8 := cvj_lt HA.out HC.out k j m
          have hcp : wr.cell? ⟨g, m, none⟩ = some (.int .u8 (cvj A C k j m : Int)) := by
            rw [hrow.cell, u8s, List.getElem?_map, tab_get _ _ _ hmL]; rfl
          rw [hm, HSA.out] at hst
          have hc8 : x < 256 := by rw [← HSA.out]; exact HA.out.sq k
          have hd8 := HC.out.sq j
          have hq8 := gm_lt hc8 hd8
          obtain ⟨d, hd⟩ : ∃ d, sq C j = d := ⟨_, rfl⟩
          rw [hd] at hst hcell3 hd8 hq8
          obtain ⟨p, hp⟩ : ∃ p, cvj A C k j m = p := ⟨_, rfl⟩
          rw [hp] at hst hp8 hcp
          have HMU0 : ∀ (u : World) (b1 : Nat), Fld u b → Lies u u.heap.size (some ⟨b1, 0, none⟩) [.int .u8 (x : Int), .int .u8 (d : Int)] → Calls Try.prog 41 #[.pointer (some ⟨b, 0, none⟩), .slice (some ⟨b1, 0, none⟩) 2 2] u fun e w' => e = .returned (.int .u8 (gm x d : Int)) ∧ Below u.heap.size u w' := fun u b1 hf hl => mul_two b b1 2 x d u hf hc8 hd8 hl
          obtain ⟨q, hq⟩ : ∃ q, gm x d = q := ⟨_, rfl⟩
          rw [hq] at HMU0 hst hq8
          have HAD0 : ∀ (u : World) (b1 : Nat), Lies u u.heap.size (some ⟨b1, 0, none⟩) [.int .u8 (p : Int), .int .u8 (q : Int)] → Calls Try.prog 40 #[.pointer (some ⟨b, 0, none⟩), .slice (some ⟨b1, 0, none⟩) 2 2] u fun e w' => e = .returned (.int .u8 ((p ^^^ q : Nat) : Int)) ∧ Below u.heap.size u w' := fun u b1 hl => (add_two b b1 2 p q u hp8 hq8 hl).mono fun _ u' h => ⟨h.1, by rw [← h.2]; exact Below.refl _ _⟩
          obtain ⟨r, hr⟩ : ∃ r, p ^^^ q = r := ⟨_, rfl⟩
          rw [hr] at HAD0 hst
          have HMU := Lib.hid HMU0
          have HAD := Lib.hid HAD0
          have HCP := Lib.hid hcp
          have HROW := Lib.hid hrow
          have HBW := Lib.hid hbw
          have HGL : Hid (g < wr.heap.size) := Lib.hid hrow.lt
          have HGB : Hid (w.heap.size ≤ g) := Lib.hid (by rw [HG.out]; exact Nat.le_refl _)
          have HFR : Hid (Fld wr b) := Lib.hid (HF.out.step hbw)
          have HLM : Hid (m < (u8s (tab L (cvj A C k j))).length) := Lib.hid (by rw [u8s_length, tab_length]; exact hmL)
          have HVC : Hid ((Value.int .u8 (r : Int)).cells = #[.int .u8 (r : Int)]) := Lib.hid rfl
          have HVO : Hid ((Value.int .u8 (r : Int)).oneCell' = true) := Lib.hid rfl
          have HST : Hid ((u8s (tab L (cvj A C k j))).set m (.int .u8 (r : Int)) = u8s (tab L (cvj A C k (j + 1)))) := Lib.hid (by rw [u8s_set, hst])
          clear HMU0 HAD0 hcp hrow hbw hst hp hq hr hd hcl3 hbb3 hm hmL hp8 hc8 hd8 hq8 HSA
          go_wp2
          refine region_tail 18 [(0, 41), (1, 42), (2, 43), (3, 44), (4, 45), (5, 46), (6, 47), (7, 48), (8, 49), (9, 50), (10, 51), (11, 52), (12, 53), (13, 54), (14, 55), (15, 56), (16, 57), (17, 58)]
            (fun i => [Is (.slice (some ⟨g, 0, none⟩) L L), Is (.int .i64 (k : Int)), Is (.int .i64 (j : Int)), Is (.int .i64 (m : Int)), Is (.pointer (some ⟨b, 0, none⟩)), Is (.slice (some ⟨g, 0, none⟩) L L), Is (.int .i64 (k : Int)), Is (.int .i64 (j : Int)), Is (.int .i64 (m : Int)), Is (.pointer (some ⟨g, m, none⟩)), Is (.int .u8 (p : Int)), Is (.pointer (some ⟨b, 0, none⟩)), Is (.int .u8 (x : Int)), Is (.int .u8 (d : Int)), New [.int .u8 (x : Int), .int .u8 (d : Int)], Is (.int .u8 (q : Int)), New [.int .u8 (p : Int), .int .u8 (q : Int)], Is (.int .u8 (r : Int))].getD i (Is undef))
            (fun w' => Below wr.heap.size wr w') (by kernel_rfl) (by decide) (by kernel_rfl) (by kernel_rfl) (by kernel_rfl) (by decide) (by decide) (by kernel_rfl) rfl ?mono ((Below.refl _ _).drew) ?step ?fin
          case mono =>
            intro i
            match i with
            | 0 | 1 | 2 | 3 | 4 | 5 | 6 | 7 | 8 | 9 | 10 | 11 | 12 | 13 | 15 | 17 => exact Is.monot _
            | 14 | 16 => exact New.monot _
            | _ + 18 => exact Is.monot _
          case step =>
            refine List.forall_mem_cons.2 ⟨?s0, List.forall_mem_cons.2 ⟨?s1, List.forall_mem_cons.2 ⟨?s2, List.forall_mem_cons.2 ⟨?s3, List.forall_mem_cons.2 ⟨?s4, List.forall_mem_cons.2 ⟨?s5, List.forall_mem_cons.2 ⟨?s6, List.forall_mem_cons.2 ⟨?s7, List.forall_mem_cons.2 ⟨?s8, List.forall_mem_cons.2 ⟨?s9, List.forall_mem_cons.2 ⟨?s10, List.forall_mem_cons.2 ⟨?s11, List.forall_mem_cons.2 ⟨?s12, List.forall_mem_cons.2 ⟨?s13, List.forall_mem_cons.2 ⟨?s14, List.forall_mem_cons.2 ⟨?s15, List.forall_mem_cons.2 ⟨?s16, List.forall_mem_cons.2 ⟨?s17, List.forall_mem_nil _⟩⟩⟩⟩⟩⟩⟩⟩⟩⟩⟩⟩⟩⟩⟩⟩⟩⟩
            case s3 =>
              intro u wx hg hC
              have hJ1 : u 1 = (.int .i64 (k : Int)) := hC.at 1 (by kernel_rfl)
              have hJ2 : u 2 = (.int .i64 (j : Int)) := hC.at 2 (by kernel_rfl)
              clear hC
              refine wpOp_step rfl (fun K hK => ?_)
              simp only [puts, List.foldl]
              go_simp
              exact hK _ _ ⟨rfl, rfl, hg, Below.refl _ _⟩
            case s8 =>
              intro u wx hg hC
              have hJ6 : u 6 = (.int .i64 (k : Int)) := hC.at 6 (by kernel_rfl)
              have hJ7 : u 7 = (.int .i64 (j : Int)) := hC.at 7 (by kernel_rfl)
              clear hC
              refine wpOp_step rfl (fun K hK => ?_)
              simp only [puts, List.foldl]
              go_simp
              exact hK _ _ ⟨rfl, rfl, hg, Below.refl _ _⟩
            case s9 =>
              intro u wx hg hC
              have hJ5 : u 5 = (.slice (some ⟨g, 0, none⟩) L L) := hC.at 5 (by kernel_rfl)
              have hJ8 : u 8 = (.int .i64 (m : Int)) := hC.at 8 (by kernel_rfl)
              clear hC
              refine wpOp_step rfl (fun K hK => ?_)
              simp only [puts, List.foldl]
              go_simp
              exact hK _ _ ⟨rfl, rfl, hg, Below.refl _ _⟩
            case s10 =>
              intro u wx hg hC
              have hJ : u 9 = (.pointer (some ⟨g, m, none⟩)) := hC.at 9 (by kernel_rfl)
              clear hC
              have hcl : wx.cell? ⟨g, m, none⟩ = some (.int .u8 (p : Int)) := (hg.cell (p := ⟨g, m, none⟩) HGL.out).trans HCP.out
              refine wpOp_step rfl (fun K hK => ?_)
              simp only [puts, List.foldl]
              go_simp
              exact hK _ _ ⟨rfl, rfl, hg, Below.refl _ _⟩
            case s14 =>
              intro u wx hg hC
              have hJ12 : u 12 = (.int .u8 (x : Int)) := hC.at 12 (by kernel_rfl)
              have hJ13 : u 13 = (.int .u8 (d : Int)) := hC.at 13 (by kernel_rfl)
              clear hC
              refine wpOp_step rfl (fun K hK => ?_)
              simp only [puts, List.foldl]
              go_simp
              exact hK _ _ ⟨rfl, ⟨wx.heap.size, rfl, Lies.new [_, _] _ _⟩, hg.alloc hg.size _, alloc_below _ _⟩
            case s15 =>
              intro u wx hg hC
              have hJ11 : u 11 = (.pointer (some ⟨b, 0, none⟩)) := hC.at 11 (by kernel_rfl)
              obtain ⟨b1, h2, hl⟩ : New [.int .u8 (x : Int), .int .u8 (d : Int)] (u 14) wx := hC.at 14 (by kernel_rfl)
              clear hC
              simp only [List.length_cons, List.length_nil, Nat.zero_add, Nat.reduceAdd] at h2
              refine wpOp_step rfl (fun K hK => ?_)
              simp only [puts, List.foldl]
              go_simp
              refine (HMU.out wx b1 (HFR.out.step hg) hl).mono ?_
              rintro e w' ⟨rfl, hb'⟩
              exact hK _ _ ⟨rfl, rfl, hg.next hb', hb'⟩
            case s16 =>
              intro u wx hg hC
              have hJ10 : u 10 = (.int .u8 (p : Int)) := hC.at 10 (by kernel_rfl)
              have hJ15 : u 15 = (.int .u8 (q : Int)) := hC.at 15 (by kernel_rfl)
              clear hC
              refine wpOp_step rfl (fun K hK => ?_)
              simp only [puts, List.foldl]
              go_simp
              exact hK _ _ ⟨rfl, ⟨wx.heap.size, rfl, Lies.new [_, _] _ _⟩, hg.alloc hg.size _, alloc_below _ _⟩
            case s17 =>
              intro u wx hg hC
              have hJ4 : u 4 = (.pointer (some ⟨b, 0, none⟩)) := hC.at 4 (by kernel_rfl)
              obtain ⟨b1, h2, hl⟩ : New [.int .u8 (p : Int), .int .u8 (q : Int)] (u 16) wx := hC.at 16 (by kernel_rfl)
              clear hC
              simp only [List.length_cons, List.length_nil, Nat.zero_add, Nat.reduceAdd] at h2
              refine wpOp_step rfl (fun K hK => ?_)
              simp only [puts, List.foldl]
              go_simp
              refine (HAD.out wx b1 hl).mono ?_
              rintro e w' ⟨rfl, hb'⟩
              exact hK _ _ ⟨rfl, rfl, hg.next hb', hb'⟩
            all_goals
              intro u wx hg hC
              clear hC
              refine wpOp_step rfl (fun K hK => ?_)
              simp only [puts, List.foldl]
              go_simp
              refine hK _ _ ?_
              clear hK K
              first
                | (refine ⟨rfl, ?_, hg, Below.refl _ _⟩; rfl)
                | (refine ⟨rfl, ?_, hg.alloc hg.size _, alloc_below _ _⟩; exact ⟨wx.heap.size, rfl, Lies.new [_] _ _⟩)
                | (refine ⟨rfl, ?_, hg.alloc hg.size _, alloc_below _ _⟩; exact ⟨wx.heap.size, rfl, Lies.new [_, _] _ _⟩)
          case fin =>
            intro u w9 hbw9 hφ
            have h0 : u 0 = .slice (some ⟨g, 0, none⟩) L L := hφ (0, 41) (by decide)
            have h3 : u 3 = .int .i64 (m : Int) := hφ (3, 44) (by decide)
            have h17 : u 17 = .int .u8 (r : Int) := hφ (17, 58) (by decide)
            clear hφ
            simp only [puts, List.foldl]
            go_simp
            have R9 := Lib.hid (HROW.out.step hbw9)
            have B9 := Lib.hid hbw9
            clear hbw9
            go_wp2_with (first
              | ((with_reducible refine R9.out.wpStore1K m 5 (.int .u8 (r : Int)) HS1.out HLM.out HVC.out HVO.out ?_ ?_); rfl; intro w2 r2 o2 s2; have R2 := Lib.hid r2; have O2 := Lib.hid o2; clear r2 o2 s2))
            go_roundw
            case rel => exact ⟨j + 1, by omega, by go_num, by have h := R2.out; rw [HST.out] at h; exact h, (HBW.out.next B9.out).trans (O2.out.below HGB.out (HBW.out.next B9.out).size)⟩
            case measure => simp [intOf]; omega
        · have ej : j = C.length := by omega
          have HROW : Hid (Row wr g 5 (u8s (tab L (cvk (sq A) (sq C) (k + 1))))) := Lib.hid (by
            rw [← tab_congr L (fun n _ => cvj_full A C k n), ← ej]; exact hrow)
          have HBW := Lib.hid hbw
          clear hrow hbw ej
          go_wp2
          go_roundw
          case rel => exact ⟨k + 1, by omega, by go_num, HROW.out, HBW.out⟩
          case measure => simp [intOf]; omega
    · have ek : k = A.length := by omega
      have HRD : Hid (Reads wr (.slice (some ⟨g, 0, none⟩) L L) (pm A C)) := Lib.hid (by
        rw [HPM.out]
        refine ⟨_, _, by rw [tab_length], by rw [tab_length]; exact Nat.le_refl _, ?_⟩
        rw [← ek]
        intro _
        exact ⟨g, 0, rfl, hrow.lt, fun j u hu => by rw [Nat.zero_add, hrow.cell]; exact hu⟩)
      have HBW := Lib.hid hbw
      clear hrow hbw ek
      go_wp2
      go_ret
      exact ⟨⟨_, rfl, HRD.out, fun a n c h => by cases h; rw [HG.out]; exact Nat.le_refl _⟩, HBW.out⟩

theorem ptimes_fresh (b : Nat) (a c : Option Addr) (ca cc : Nat) (A C : List Nat) (w : World) (hf : Fld w b) (hA : By A) (hC : By C) (hla : A.length ≤ 1000000) (hlc : C.length ≤ 1000000)
    (hr : Lies w w.heap.size a (u8s A)) (hs : Lies w w.heap.size c (u8s C)) :
    Calls Try.prog 22 #[.pointer (some ⟨b, 0, none⟩), .slice a A.length ca, .slice c C.length cc] w fun e w' => (∃ v, e = .returned v ∧ Reads w' v (pm A C) ∧ Fresh w v) ∧ Below w.heap.size w w' := by
  by_cases h0 : A.length = 0
  · have hi : (A.length : Int) = 0 := by omega
    have hi1 : ((A.length : Int) == 0) = true := beq_iff_eq.2 hi
    have HP : Hid (pm A C = []) := Lib.hid (by unfold pm; rw [if_pos (Or.inl h0)])
    clear h0 hf hr hs
    go_enter Try.func22, Try.ntmps22
    go_wp2
    go_ret
    exact ⟨⟨_, rfl, by rw [HP.out]; exact Reads.nil _, Fresh.nil _⟩, Below.refl _ _⟩
  · by_cases h1 : C.length = 0
    · have ha0 : ¬ (A.length : Int) = 0 := by omega
      have ha1 : ((A.length : Int) == 0) = false := beq_false_of_ne ha0
      have hi : (C.length : Int) = 0 := by omega
      have hi1 : ((C.length : Int) == 0) = true := beq_iff_eq.2 hi
      have HP : Hid (pm A C = []) := Lib.hid (by unfold pm; rw [if_pos (Or.inr h1)])
      clear h0 h1 hf hr hs
      go_enter Try.func22, Try.ntmps22
      go_wp2
      go_ret
      exact ⟨⟨_, rfl, by rw [HP.out]; exact Reads.nil _, Fresh.nil _⟩, Below.refl _ _⟩
    · exact ptimes_somef b a c ca cc A C w hf hA hC hla hlc (by omega) (by omega) hr hs

set_option maxHeartbeats 1000000 in
theorem pmul_fresh (b : Nat) (a : Option Addr) (cap : Nat) (ts : List Hd) (ls : List (List Nat)) (w : World) (hf : Fld w b) (hp : Polys w ts ls) (hn : ls.length ≤ 100) (hl : ∀ l ∈ ls, l.length ≤ 5000) (hr : Lies w w.heap.size a (slvs ts)) :
    Calls Try.prog 39 #[.pointer (some ⟨b, 0, none⟩), .slice a ls.length cap] w fun e w' => (∃ v, e = .returned v ∧ Reads w' v (pms ls) ∧ Fresh w v) ∧ Below w.heap.size w w' := by
  have HF := Lib.hid hf
  have HR := Lib.hid hr
  have HP := Lib.hid hp
  have HL := Lib.hid hl
  have HN : Hid (ls.length ≤ 100) := Lib.hid hn
  have H0 : Hid (Reads (w.alloc (.cells #[.int .u8 1] 5)) (.slice (some ⟨w.heap.size, 0, none⟩) 1 1) (pms [])) := Lib.hid ⟨_, 1, rfl, by decide, Lies.new [.int .u8 1] w _⟩
  clear hf hr hp hl
  go_enter Try.func39, Try.ntmps39
  go_wp2
  go_loopw [5, 13] (fun p i wr => ∃ k : Nat, k ≤ ls.length ∧ i = .int .i64 k ∧ Reads wr p (pms (ls.take k)) ∧ Fresh w p ∧ Below w.heap.size w wr) (fun _ i _ => ls.length - (intOf i).toNat)
  case atStart => exact ⟨0, Nat.zero_le _, rfl, H0.out, (fun a n c h => by cases h; exact Nat.le_refl _), alloc_below _ _⟩
  case round =>
    clear H0
    obtain ⟨k, hk, rfl, ⟨ap, cp, rfl, hcp, hp⟩, hfre, hbw⟩ := hrel
    have HFRE := Lib.hid hfre
    clear hfre
    by_cases hlt : k < ls.length
    · have hk1 : (k : Int) < ls.length := by omega
      obtain ⟨q, c, ht, hqc, hc1, hq8, hql⟩ := HP.out.get k hlt
      have hkt : k < ts.length := by rw [HP.out.len]; exact hlt
      obtain ⟨b2, off, rfl, hbb, hcl⟩ := HR.out (by rw [slvs_length]; omega)
      have hcell : wr.cell? ⟨b2, off + k, none⟩ = some (.slice q ls[k].length c) := by
        have h1 := (hbw.cell (p := ⟨b2, off + k, none⟩) hbb).trans (hcl k _ (slvs_get ts k hkt))
        rw [ht] at h1
        exact h1
      have hst : pms (ls.take (k + 1)) = pm (pms (ls.take k)) (beh ls[k]) := by rw [take_snoc ls k hlt, pms_snoc]
      have hby : ∀ l ∈ ls.take k, By l := fun l h => HP.out.by l (List.mem_of_mem_take h)
      obtain ⟨hP8, _⟩ := pms_all (ls.take k) hby
      have hPl := pms_le (ls.take k) 5000 fun l h => HL.out l (List.mem_of_mem_take h)
      rw [List.length_take] at hPl
      have hPl2 : (pms (ls.take k)).length ≤ 1000000 := by have := HN.out; omega
      have hql5 := HL.out ls[k] (List.getElem_mem hlt)
      obtain ⟨l, hle⟩ : ∃ l, ls[k] = l := ⟨_, rfl⟩
      rw [hle] at hcell hst hqc hq8 hql hql5
      obtain ⟨P, hP⟩ : ∃ P, pms (ls.take k) = P := ⟨_, rfl⟩
      rw [hP] at hst hp hcp hP8 hPl2
      rw [hP]
      have hmb := beh_le l
      have hm8 := hq8.beh
      have HBE := Lib.hid (behind_any q c l wr (by omega) hqc (hql.step hbw))
      obtain ⟨m, hm⟩ : ∃ m, beh l = m := ⟨_, rfl⟩
      rw [hm] at HBE hst hmb hm8
      have HT : Hid (∀ (u : World) (q2 : Option Addr) (c2 : Nat), Fld u b → Lies u u.heap.size ap (u8s P) → Lies u u.heap.size q2 (u8s m) → Calls Try.prog 22 #[.pointer (some ⟨b, 0, none⟩), .slice ap P.length cp, .slice q2 m.length c2] u fun e w' => (∃ v, e = .returned v ∧ Reads w' v (pm P m) ∧ Fresh u v) ∧ Below u.heap.size u w') :=
        Lib.hid fun u q2 c2 h3 h4 h5 => ptimes_fresh b ap q2 cp c2 P m u h3 hP8 hm8 hPl2 (by omega) h4 h5
      have HPP := Lib.hid hp
      have HS := Lib.hid hst
      have HW := Lib.hid hbw
      have HFR : Hid (Fld wr b) := Lib.hid (HF.out.step hbw)
      clear hp hst hbw hcl hbb hP hcp hP8 hPl hPl2 hql hqc hq8 hle hm8 hmb hm ht hql5 hc1
      go_wp2_with (first
        | (go_at_call 43; (with_reducible refine HBE.out.mono ?_); rintro e w1 ⟨⟨v, rfl, q2, c2, rfl, _, hv⟩, rfl⟩; have HV := Lib.hid hv; clear hv)
        | (go_at_call 22; (with_reducible refine (HT.out wr q2 c2 HFR.out HPP.out HV.out).mono ?_); rintro e w2 ⟨⟨v, rfl, hv, hvf⟩, b2⟩; have VF := Lib.hid hvf; clear hvf; have V2 := Lib.hid hv; have B2 := Lib.hid b2; clear hv b2))
      go_roundw
      case rel => exact ⟨k + 1, by omega, by go_num, by rw [HS.out]; exact V2.out, (fun a n c h => Nat.le_trans HW.out.size (VF.out a n c h)), HW.out.next B2.out⟩
      case measure => simp [intOf]; omega
    · have ek : k = ls.length := by omega
      have hfre := HFRE.out
      rw [ek, List.take_of_length_le (Nat.le_refl _)] at hp hcp hfre ⊢
      have HV : Hid (Reads wr (.slice ap (pms ls).length cp) (pms ls)) := Lib.hid ⟨ap, cp, rfl, hcp, hp⟩
      have HFR2 := Lib.hid hfre
      have HW := Lib.hid hbw
      clear hp hbw hcp hfre ek hlt HFRE
      go_wp2
      go_ret
      exact ⟨⟨_, rfl, HV.out, HFR2.out⟩, HW.out⟩

end Go.Proofs.Ytljhbpbjppmoiaa

/- What solve answers, as functions of numbers: marks, what is told, Berlekamp's and Massey's steps, Euclid's, Forney's rule. No program. -/
namespace SolMath
open GfMath PolyMath RsMath
set_option linter.unusedVariables false

def mrk (n i : Nat) : Nat := ex (n - 1 - i)
theorem mrk_lt (n i : Nat) : mrk n i < 256 := ex_lt _
/-- A polynomial without the powers from p on. -/
def lowl (p : Nat) (l : List Nat) : List Nat := l.drop (l.length - p)
theorem lowl_by {l : List Nat} (h : By l) (p : Nat) : By (lowl p l) := fun x hx => h x (List.mem_of_mem_drop hx)
theorem lowl_le (p : Nat) (l : List Nat) : (lowl p l).length ≤ l.length := by rw [lowl, List.length_drop]; omega
theorem lowl_le' (p : Nat) (l : List Nat) : (lowl p l).length ≤ p := by rw [lowl, List.length_drop]; omega
/-- The factor of a power that may be below 0. -/
def fcI (l : List Nat) (z : Int) : Nat := if z < 0 then 0 else cf l z.toNat
theorem fcI_lt {l : List Nat} (h : By l) (z : Int) : fcI l z < 256 := by unfold fcI; split; omega; exact h.cf _

/-- The erased places noted. -/
def setG (G : List Bool) (er : List Int) : List Bool := er.foldl (fun G i => G.set i.toNat true) G
theorem setG_length (G : List Bool) (er : List Int) : (setG G er).length = G.length := by
  unfold setG
  induction er generalizing G with
  | nil => rfl
  | cons a l ih => rw [List.foldl_cons, ih, List.length_set]
def cnt (G : List Bool) : Nat := G.count true
theorem cnt_le (G : List Bool) : cnt G ≤ G.length := List.count_le_length
def gAt (G : List Bool) (i : Nat) : Bool := G.getD i false
def inB (n : Nat) (er : List Int) : Bool := er.all fun i => decide (0 ≤ i) && decide (i < (n : Int))
def noneG (n : Nat) : List Bool := List.replicate n false

theorem cnt_set {G : List Bool} {i : Nat} (hi : i < G.length) (h : gAt G i = false) : cnt (G.set i true) = cnt G + 1 := by
  unfold cnt gAt at *
  induction G generalizing i with
  | nil => simp at hi
  | cons a l ih =>
    cases i with
    | zero =>
      simp only [List.getD_cons_zero] at h
      subst h
      simp
    | succ i =>
      simp only [List.getD_cons_succ] at h
      rw [List.set_cons_succ, List.count_cons, List.count_cons, ih (by simpa using hi) h]
      omega
theorem set_self {G : List Bool} {i : Nat} (h : gAt G i = true) : G.set i true = G := by
  unfold gAt at h
  induction G generalizing i with
  | nil => rfl
  | cons a l ih =>
    cases i with
    | zero =>
      simp only [List.getD_cons_zero] at h
      subst h
      rfl
    | succ i =>
      simp only [List.getD_cons_succ] at h
      rw [List.set_cons_succ, ih h]

/-- What seeks the erased places, the first i looked at. -/
def erF (n : Nat) (G : List Bool) : Nat → List Nat
  | 0 => [1]
  | i + 1 => if gAt G i then pms [erF n G i, [mrk n i, 1]] else erF n G i
theorem erF_all (n : Nat) (G : List Bool) : ∀ i, By (erF n G i) ∧ (erF n G i).length ≤ i + 1
  | 0 => ⟨by_one (by omega), by simp [erF]⟩
  | i + 1 => by
    obtain ⟨h1, h2⟩ := erF_all n G i
    unfold erF
    split
    · have h3 : By [mrk n i, 1] := by_two (mrk_lt _ _) (by omega)
      refine ⟨(pms_all _ (by intro l hl; simp at hl; rcases hl with rfl | rfl <;> assumption)).1, ?_⟩
      rw [show ([erF n G i, [mrk n i, 1]] : List (List Nat)) = [erF n G i] ++ [[mrk n i, 1]] from rfl, pms_snoc]
      rw [show pms [erF n G i] = pm [1] (beh (erF n G i)) from rfl]
      have hb := beh_le (erF n G i)
      have hc := beh_le [mrk n i, 1]
      have hl : ∀ a b : List Nat, (pm a b).length ≤ a.length + b.length - 1 := fun a b => by
        unfold pm; split
        · simp
        · rw [tab_length]; omega
      have h4 := hl [1] (beh (erF n G i))
      have h5 := hl (pm [1] (beh (erF n G i))) (beh [mrk n i, 1])
      simp only [List.length_cons, List.length_nil] at h4 hc
      omega
    · exact ⟨h1, by omega⟩

/-- By how much rule misses the thing i. -/
def missF (T rule : List Nat) (lost : Nat) (i : Nat) : Nat := xs (fun j => gm (cf rule j) (fcI T ((lost : Int) + (i : Int) - (j : Int)))) rule.length
def missK (T rule : List Nat) (lost : Nat) (i k : Nat) : Nat := xs (fun j => gm (cf rule j) (fcI T ((lost : Int) + (i : Int) - (j : Int)))) k
theorem missK_lt {T rule : List Nat} (hT : By T) (hR : By rule) (lost i k : Nat) : missK T rule lost i k < 256 := xs_lt _ fun j _ => gm_lt (hR.cf _) (fcI_lt hT _)

structure BM where
  rule : List Nat
  last : List Nat
  miss : Nat
  since : Nat
  size : Nat
def nextF (s : BM) (d : Nat) : List Nat := addl [s.rule, pms [[gm d (iv s.miss)], shl s.last s.since]]
def bmStep (T : List Nat) (lost i : Nat) (s : BM) : BM :=
  if missF T s.rule lost i = 0 then { s with since := s.since + 1 }
  else if 2 * s.size ≤ i then ⟨nextF s (missF T s.rule lost i), s.rule, missF T s.rule lost i, 1, i + 1 - s.size⟩
  else ⟨nextF s (missF T s.rule lost i), s.last, s.miss, s.since + 1, s.size⟩
def bm (T : List Nat) (lost : Nat) : Nat → BM
  | 0 => ⟨[1], [1], 1, 1, 0⟩
  | i + 1 => bmStep T lost i (bm T lost i)

theorem pm_len (a b : List Nat) : (pm a b).length ≤ a.length + b.length - 1 := by
  unfold pm; split
  · simp
  · rw [tab_length]; omega
theorem pms_two (a b : List Nat) : pms [a, b] = pm (pm [1] (beh a)) (beh b) := rfl
theorem pms_two_by {a b : List Nat} (ha : By a) (hb : By b) : By (pms [a, b]) := (pms_all _ (by intro l hl; simp at hl; rcases hl with rfl | rfl <;> assumption)).1
theorem pms_two_le (a b : List Nat) : (pms [a, b]).length ≤ a.length + b.length - 1 := by
  rw [pms_two]
  have h1 := pm_len [1] (beh a)
  have h2 := pm_len (pm [1] (beh a)) (beh b)
  have h3 := beh_le a
  have h4 := beh_le b
  have h5 : (beh b).length = 0 → (pm (pm [1] (beh a)) (beh b)).length = 0 := fun h => by unfold pm; rw [if_pos (Or.inr h)]; rfl
  simp only [List.length_cons, List.length_nil] at h1
  have h6 : (pm [1] (beh a)).length = 0 → (pm (pm [1] (beh a)) (beh b)).length = 0 := fun h => by rw [List.eq_nil_of_length_eq_zero h, pm_nil_left]; rfl
  omega
theorem addl_two_by {a b : List Nat} (ha : By a) (hb : By b) : By (addl [a, b]) := addl_by _ (by intro l hl; simp at hl; rcases hl with rfl | rfl <;> assumption)
theorem addl_two_le (a b : List Nat) : (addl [a, b]).length ≤ max a.length b.length := by
  have := addl_le [a, b]
  simpa [mx] using this

structure BMok (s : BM) (i : Nat) : Prop where
  r8 : By s.rule
  l8 : By s.last
  m8 : s.miss < 256
  m0 : s.miss ≠ 0
  rl : s.rule.length ≤ i + 1
  ll : s.last.length + s.since ≤ i + 2
  s1 : 1 ≤ s.since
  sz : s.size ≤ i
theorem next_ok {s : BM} {i d : Nat} (h : BMok s i) (hd : d < 256) : By (nextF s d) ∧ (nextF s d).length ≤ i + 2 := by
  have h1 : By [gm d (iv s.miss)] := by_one (gm_lt hd (iv_lt _))
  have h2 := shl_by h.l8 s.since
  refine ⟨addl_two_by h.r8 (pms_two_by h1 h2), ?_⟩
  have h3 := addl_two_le s.rule (pms [[gm d (iv s.miss)], shl s.last s.since])
  have h4 := pms_two_le [gm d (iv s.miss)] (shl s.last s.since)
  have h5 := shl_le s.last s.since
  simp only [List.length_cons, List.length_nil] at h4
  have := h.rl
  have := h.ll
  unfold nextF
  omega
theorem bmStep_ok {T : List Nat} (hT : By T) (lost : Nat) {s : BM} {i : Nat} (h : BMok s i) : BMok (bmStep T lost i s) (i + 1) := by
  have hd : missF T s.rule lost i < 256 := missK_lt hT h.r8 lost i _
  obtain ⟨n1, n2⟩ := next_ok h hd
  obtain ⟨r8, l8, m8, m0, rl, ll, s1, sz⟩ := h
  unfold bmStep
  split
  · exact ⟨r8, l8, m8, m0, by show s.rule.length ≤ _; omega, by show s.last.length + (s.since + 1) ≤ _; omega, by show 1 ≤ s.since + 1; omega, by show s.size ≤ _; omega⟩
  · rename_i h0
    split
    · exact ⟨n1, r8, hd, h0, n2, by show s.rule.length + 1 ≤ _; omega, Nat.le_refl _, by show i + 1 - s.size ≤ _; omega⟩
    · exact ⟨n1, l8, m8, m0, n2, by show s.last.length + (s.since + 1) ≤ _; omega, by show 1 ≤ s.since + 1; omega, by show s.size ≤ _; omega⟩
theorem bm_ok {T : List Nat} (hT : By T) (lost : Nat) : ∀ i, BMok (bm T lost i) i
  | 0 => ⟨by_one (by omega), by_one (by omega), by show 1 < 256; omega, by show 1 ≠ 0; omega, by show 1 ≤ 0 + 1; omega, by show 1 + 1 ≤ 0 + 2; omega, by show 1 ≤ 1; omega, by show 0 ≤ 0; omega⟩
  | i + 1 => bmStep_ok hT lost (bm_ok hT lost i)
def masseyF (p : Nat) (T : List Nat) (lost : Nat) : List Nat := (bm T lost (p - lost)).rule

/-- What the place i is turned by. -/
def dAt (n : Nat) (A S L : List Nat) (i : Nat) : Nat :=
  if ev A (iv (mrk n i)) ≠ 0 then 0 else gm (mrk n i) (gm (ev L (iv (mrk n i))) (iv (ev S (iv (mrk n i)))))
theorem dAt_lt (n : Nat) {A S L : List Nat} (hL : By L) (i : Nat) : dAt n A S L i < 256 := by
  unfold dAt
  split
  · omega
  · exact gm_lt (mrk_lt _ _) (gm_lt (ev_lt hL (iv_lt _)) (iv_lt _))
def allF (R E : List Nat) : List Nat := pms [R, E]
def slopeF (R E : List Nat) : List Nat := beh (dl (allF R E))
def sumsF (p : Nat) (V R E : List Nat) : List Nat := lowl p (pms [V, allF R E])
def dF (n p : Nat) (V R E : List Nat) : Nat → Nat := dAt n (allF R E) (slopeF R E) (sumsF p V R E)
def wordF (W : List Nat) (d : Nat → Nat) (k : Nat) : List Nat := tab W.length fun i => sq W i ^^^ if i < k then d i else 0
def atF (d : Nat → Nat) (k : Nat) : List Nat := (List.range k).filter fun i => decide (d i ≠ 0)
def othF (G : List Bool) (l : List Nat) : Nat := (l.filter fun i => !gAt G i).length

/-- What is mended: nothing of places that aren't there; the word and the places, or none. -/
inductive Md where
  | arg | bad | ok (m at_ : List Nat)
def markE (n : Nat) (er : List Int) : List Bool := setG (noneG n) er
def valsR (W : List Nat) (p : Nat) : List Nat := (vals W p).reverse
def toldF (p : Nat) (V E : List Nat) : List Nat := lowl p (pms [V, E])
def layW (n p : Nat) (W V R E : List Nat) : List Nat := wordF W (dF n p V R E) n
def layP (n p : Nat) (V R E : List Nat) : List Nat := atF (dF n p V R E) n
def mendF (seek : Nat → List Nat → Nat → List Nat) (n p : Nat) (W : List Nat) (er : List Int) : Md :=
  if inB n er = false then .arg
  else
    let G := markE n er
    let V := valsR W p
    let E := erF n G n
    let R := seek p (toldF p V E) (cnt G)
    let m := layW n p W V R E
    let l := layP n p V R E
    if allz (vals m p) = true ∧ cnt G ≤ p ∧ othF G l ≤ (p - cnt G) / 2 then .ok m l else .bad

end SolMath

/- A region that draws its order and writes again a slot that it reads. -/
namespace Go.Proofs.Ytljhbpbjppmoiaa
open Go.RowKit

section
variable {P : Program} {ops : Array Oper} {Q : Exit → Act → World → Prop}

theorem getD_tf' {l : Array Bool} {i : Nat} (h : i < l.size) : l.getD i true = l.getD i false := by simp [Array.getD, h]
/-- As region_invX; what an operation that waits for this one is to write still holds what it held. -/
theorem region_invY {id : Nat} {a : Act} {w : World} (D : List (Nat × Nat)) (φ : Nat → Value → World → Prop) (G : World → Prop) (hm : P.follows .mixedOrders = true)
    (hord : ordX ops = true) (hD1 : D.map (·.1) = List.range ops.size) (hD2 : (D.map (·.2)).Nodup) (hD3 : (D.all fun p => (ops[p.1]?.bind (·.dst)) == some p.2) = true) (hD4 : (D.all fun p => Nat.blt p.2 a.tmps.size) = true)
    (hmono : ∀ i v w w', φ i v w → Below w.heap.size w w' → φ i v w') (hG : G w.drew)
    (step : ∀ p ∈ D, ∀ u w, G w → Came ops φ u w p.1 → (∀ p' ∈ D, reachB ops ops.size p'.1 p.1 = true → u p'.1 = a.tmps.getD p'.2 undef) →
      wpOp P ops Q p.1 (fun a' w' => a'.defers = (puts D a u).defers ∧ φ p.1 (a'.tmps.getD p.2 undef) w' ∧ G w' ∧ Below w.heap.size w w') (puts D a u) w)
    (fin : ∀ u w, G w → (∀ p ∈ D, φ p.1 (u p.1) w) → Q .normal (puts D a u) w) : (Code.region id ops true).wp P Q a w := by
  refine wp_region_any hm ?_
  have hnd1 : (D.map (·.1)).Nodup := by rw [hD1]; exact List.nodup_range
  have key : ∀ (fuel : Nat) (listed : Array Bool) (w : World) (u : Nat → Value) (L : List Nat), listed.size = ops.size → L.length ≤ fuel → (∀ i, listed.getD i true = false → i ∈ L) → Anc ops listed → (∀ p ∈ D, listed.getD p.1 false = false → u p.1 = a.tmps.getD p.2 undef) → G w →
      (∀ i, i < ops.size → listed.getD i true = true → φ i (u i) w) → wpAny P .any ops Q fuel listed (puts D a u) w := by
    intro fuel
    induction fuel with
    | zero =>
      intro listed w u L hs hL hin hanc hold hg hφ
      have hall : ∀ i, listed.getD i true = true := fun i => by
        cases hi : listed.getD i true with
        | true => rfl
        | false => have := hin i hi; rw [List.length_eq_zero_iff.1 (Nat.le_zero.1 hL)] at this; cases this
      refine ⟨?_, fin u w hg fun p hp => hφ p.1 ?_ (hall _)⟩
      · rw [List.eq_nil_iff_forall_not_mem]
        intro i hi
        have := (mem_ready.1 hi).2.1
        rw [hall i] at this
        cases this
      · have : p.1 ∈ D.map (·.1) := List.mem_map.2 ⟨p, hp, rfl⟩
        rw [hD1] at this
        exact List.mem_range.1 this
    | succ fuel ih =>
      intro listed w u L hs hL hin hanc hold hg hφ
      refine ⟨fun hr => fin u w hg fun p hp => hφ p.1 ?_ (all_listedX hord hs hr _), fun i hi => ?_⟩
      · have : p.1 ∈ D.map (·.1) := List.mem_map.2 ⟨p, hp, rfl⟩
        rw [hD1] at this
        exact List.mem_range.1 this
      · obtain ⟨h1, h2, o, ho, h3⟩ := mem_ready.1 hi
        have hiD : i ∈ D.map (·.1) := by rw [hD1]; exact List.mem_range.2 h1
        obtain ⟨⟨i', d⟩, hp, rfl⟩ := List.mem_map.1 hiD
        have hst := step _ hp u w hg (fun o' ho' e he hb => by
          have heq : o' = o := Option.some.inj (ho'.symm.trans ho)
          subst heq
          have hl := h3 e he hb
          have hlt : e.on < ops.size := by
            rw [← hs]
            by_cases hl2 : e.on < listed.size
            · exact hl2
            · simp [Array.getD, hl2] at hl
          refine hφ e.on hlt ?_
          have hl2 : e.on < listed.size := by omega
          simpa [Array.getD, hl2] using hl) (fun p' hp' hr => by
            refine hold p' hp' ?_
            cases hl : listed.getD p'.1 false with
            | false => rfl
            | true =>
              have := reach_listed hanc ops.size p'.1 i' (fun o' ho' e he hb => hanc p'.1 o' ho' hl e he hb) hr
              have hii : i' < listed.size := by omega
              rw [← getD_tf' hii, h2] at this
              cases this)
        have hd3 := List.all_eq_true.1 hD3 _ hp
        have hd4 := List.all_eq_true.1 hD4 _ hp
        simp only [ho, Option.bind_some, beq_iff_eq] at hd3
        have hd5 : d < a.tmps.size := by simp [Nat.blt] at hd4; omega
        have hst2 := wpOp_value (R := fun v w' => φ i' v w' ∧ G w' ∧ Below w.heap.size w w') ho hd3 (by rw [puts_size]; exact hd5) hst
        clear hst
        refine wpOp_mono ?_ hst2
        rintro a' w' ⟨v, rfl, hv, hg', hb'⟩
        rw [puts_put u i' d v D a hnd1 hD2 hp]
        refine ih _ w' (upd u i' v) (L.erase i') (by simpa using hs) ?_ ?_ ?_ ?_ hg' ?_
        · rw [List.length_erase_of_mem (hin i' h2)]
          omega
        · intro j hj
          have hji : j ≠ i' := fun e => by
            subst e
            have : j < listed.size := by omega
            simp [Array.getD, this] at hj
          refine (List.mem_erase_of_ne hji).2 (hin j ?_)
          simp only [Array.getD] at hj ⊢
          split at hj
          · rename_i hl
            rw [Array.size_setIfInBounds] at hl
            rw [dif_pos hl]
            rwa [Array.getInternal_eq_getElem, Array.getElem_setIfInBounds_ne (h := Ne.symm hji)] at hj
          · cases hj
        · intro j o' ho' hl e he hb
          by_cases ej : i' = j
          · subst ej
            obtain rfl := Option.some.inj (ho'.symm.trans ho)
            have := h3 e he hb
            by_cases e2 : i' = e.on
            · rw [← e2, getD_set_self (by omega)]
            · rw [getD_set_other e2]; exact this
          · rw [getD_set_other ej] at hl
            have := hanc j o' ho' hl e he hb
            by_cases e2 : i' = e.on
            · rw [← e2, getD_set_self (by omega)]
            · rw [getD_set_other e2]; exact this
        · intro p' hp' hl
          have hne : i' ≠ p'.1 := fun e => by
            rw [← e, getD_set_self (by omega)] at hl
            cases hl
          rw [getD_set_other hne] at hl
          have e1 : upd u i' v p'.1 = u p'.1 := by simp [upd, Ne.symm hne]
          rw [e1]
          exact hold p' hp' hl
        · intro j hj hl
          by_cases hji : j = i'
          · subst hji
            simpa [upd] using hv
          · have e1 : upd u i' v j = u j := by simp [upd, hji]
            rw [e1]
            refine hmono j _ w w' (hφ j hj ?_) hb'
            have hl2 : j < listed.size := by omega
            simp only [Array.getD, Array.size_setIfInBounds, hl2, dif_pos, Array.getInternal_eq_getElem] at hl ⊢
            rwa [Array.getElem_setIfInBounds_ne (h := Ne.symm hji)] at hl
  have hu : ∃ u : Nat → Value, (∀ p ∈ D, u p.1 = a.tmps.getD p.2 undef) ∧ puts D a u = a := by
    suffices hsf : ∃ u : Nat → Value, ∀ p ∈ D, u p.1 = a.tmps.getD p.2 undef by
      obtain ⟨u, hu⟩ := hsf
      exact ⟨u, hu, puts_self u a D hu⟩
    refine ⟨fun i => ((D.find? fun p => p.1 == i).map fun p => a.tmps.getD p.2 undef).getD undef, fun p hp => ?_⟩
    have : D.find? (fun q => q.1 == p.1) = some p := by
      clear fin step hD2 hD1 hD3 hD4 key
      induction D with
      | nil => cases hp
      | cons q D ih =>
        rw [List.map_cons, List.nodup_cons] at hnd1
        rcases List.mem_cons.1 hp with rfl | hp
        · simp
        · have hne : (q.1 == p.1) = false := by
            rw [beq_eq_false_iff_ne]
            intro e
            exact hnd1.1 (List.mem_map.2 ⟨p, hp, e.symm⟩)
          rw [List.find?_cons, hne]
          exact ih hnd1.2 hp
    simp only [this, Option.map_some, Option.getD_some]
  obtain ⟨u, hu0, hu⟩ := hu
  have := key ops.size (Array.replicate ops.size false) w.drew u (List.range ops.size) (by simp) (by simp) (fun i hi => by
    rw [List.mem_range]
    by_cases hl : i < ops.size
    · exact hl
    · simp [Array.getD, hl] at hi) (fun i o _ hl => by
    have hfF : ∀ i, (Array.replicate ops.size false).getD i false = false := fun i => by
      by_cases h : i < ops.size <;> simp [Array.getD, h]
    rw [hfF] at hl; cases hl) (fun p hp _ => hu0 p hp) hG (fun i hi hl => by simp [Array.getD, hi] at hl)
  rw [hu] at this
  exact this

end

end Go.Proofs.Ytljhbpbjppmoiaa

/- A guarded operation whose guard holds, in a region that draws its order (for region_inv's steps). -/
namespace Go.Proofs.Ytljhbpbjppmoiaa
open Go.RowKit
section
variable {P : Program} {ops : Array Oper} {Q : Exit → Act → World → Prop}
theorem put_get (a : Act) (d : Nat) (v : Value) (hs : d < a.tmps.size) : (a.put (some d) v).tmps.getD d undef = v := by simp [Act.put, hs]
theorem put_get_ne (a : Act) (d e : Nat) (v : Value) (h : e ≠ d) : (a.put (some d) v).tmps.getD e undef = a.tmps.getD e undef := by
  simp only [Act.put, Array.getD_eq_getD_getElem?, Array.getElem?_setIfInBounds]
  rw [if_neg (fun e' => h e'.symm)]
theorem puts_get_out (u : Nat → Value) : ∀ (D : List (Nat × Nat)) (a : Act) (d : Nat), (∀ p ∈ D, p.2 ≠ d) → (puts D a u).tmps.getD d undef = a.tmps.getD d undef
  | [], _, _, _ => rfl
  | p :: D, a, d, h => by
    show (puts D (a.put (some p.2) (u p.1)) u).tmps.getD d undef = _
    rw [puts_get_out u D _ d fun q hq => h q (List.mem_cons_of_mem _ hq), put_get_ne _ _ _ _ (fun e => h p (List.mem_cons_self ..) e.symm)]
theorem puts_get (u : Nat → Value) (i d : Nat) : ∀ (D : List (Nat × Nat)) (a : Act), (D.map (·.2)).Nodup → (i, d) ∈ D → Nat.blt d a.tmps.size = true → (puts D a u).tmps.getD d undef = u i
  | p :: D, a, hn, hm, hs0 => by
    have hs : d < a.tmps.size := Nat.blt_eq ▸ hs0
    rw [List.map_cons, List.nodup_cons] at hn
    show (puts D (a.put (some p.2) (u p.1)) u).tmps.getD d undef = _
    rcases List.mem_cons.1 hm with rfl | hm
    · rw [puts_get_out u D _ d fun q hq e => hn.1 (List.mem_map.2 ⟨q, hq, e⟩), put_get _ _ _ hs]
    · exact puts_get u i d D _ hn.2 hm (by simpa [Act.put] using hs0)
theorem puts_room (u : Nat → Value) {D : List (Nat × Nat)} {a : Act} {d : Nat} (h : Nat.blt d a.tmps.size = true) : d < (puts D a u).tmps.size := by rw [puts_size]; exact Nat.blt_eq ▸ h
theorem wpOp_guard {i : Nat} {o : Oper} {a : Act} {w : World} {K : Act → World → Prop} (ho : ops[i]? = some o) (j d : Nat) (b : Bool) (hgd : o.guard = some (j, b)) (hd : (ops[j]?).bind (·.dst) = some d) (hs : d < a.tmps.size) (hv : a.tmps.getD d undef = .bool b)
    (h : ∀ K' : Act → World → Prop, (∀ a w, K a w → K' a w) → o.wp P a w K' Q) : wpOp P ops Q i K a w := by
  have hy : yielded ops a.tmps j = some b := by
    unfold yielded
    rw [hd]
    have : a.tmps[d]? = some (.bool b) := by
      rw [Array.getD_eq_getD_getElem?] at hv
      rw [Array.getElem?_eq_getElem hs] at hv ⊢
      simpa using hv
    simp [this]
  unfold wpOp
  rw [ho]
  show if Region.wanted o (yielded ops a.tmps) = true then _ else _
  rw [if_pos (by unfold Region.wanted; rw [hgd]; simp [hy])]
  exact .inl (h K fun _ _ h => h)
theorem wpOp_skip {i : Nat} {o : Oper} {a : Act} {w : World} {K : Act → World → Prop} (ho : ops[i]? = some o) (j d : Nat) (b : Bool) (hgd : o.guard = some (j, b)) (hd : (ops[j]?).bind (·.dst) = some d) (hs : d < a.tmps.size) (hv : a.tmps.getD d undef = .bool !b)
    (h : K (a.put o.dst undef) w) : wpOp P ops Q i K a w := by
  have hy : yielded ops a.tmps j = some !b := by
    unfold yielded
    rw [hd]
    have : a.tmps[d]? = some (.bool !b) := by
      rw [Array.getD_eq_getD_getElem?] at hv
      rw [Array.getElem?_eq_getElem hs] at hv ⊢
      simpa using hv
    simp [this]
  unfold wpOp
  rw [ho]
  show if Region.wanted o (yielded ops a.tmps) = true then _ else _
  rw [if_neg (by unfold Region.wanted; rw [hgd]; cases b <;> simp [hy])]
  exact h
end
end Go.Proofs.Ytljhbpbjppmoiaa

/- The contract of the document's Same (triptychref01), for layers beyond num. -/
namespace Go.Proofs.Ytljhbpbjppmoiaa
open Go.RowKit
set_option maxRecDepth 100000

theorem same_ints (a c : Option Addr) (ca cc : Nat) (l m : List Int) (w : World) (hl : l.length ≤ 1152921504606846976) (hm : m.length ≤ 1152921504606846976) (hr : Lies w w.heap.size a (ints l)) (hq : Lies w w.heap.size c (ints m)) :
    Calls Try.prog 11 #[.slice a l.length ca, .slice c m.length cc] w fun e w' => e = .returned (.bool (decide (l = m))) ∧ Below w.heap.size w w' := by
  by_cases hlen : l.length = m.length
  · have hb : ((l.length : Int) != (m.length : Int)) = false := by simp; omega
    have HL := Lib.hid hlen
    clear hlen
    go_enter Try.func11, Try.ntmps11
    go_wp2
    go_loopw [5] (fun i wr => ∃ k : Nat, k ≤ l.length ∧ i = .int .i64 k ∧ l.take k = m.take k ∧ Below w.heap.size w wr) (fun i _ => l.length - (intOf i).toNat)
    case atStart => exact ⟨0, Nat.zero_le _, rfl, rfl, Below.refl _ _⟩
    case round =>
      obtain ⟨k, hk, rfl, htk, hbw⟩ := hrel
      have HTK := Lib.hid htk
      clear htk
      by_cases hlt : k < l.length
      · have hlm : k < m.length := by have := HL.out; omega
        obtain ⟨b, off, rfl, hbb, hc⟩ := hr (by rw [ints_length]; omega)
        obtain ⟨d, of2, rfl, hdd, hd⟩ := hq (by rw [ints_length]; omega)
        have hcell : wr.cell? ⟨b, off + k, none⟩ = some (.int .i64 l[k]) := (hbw.cell (p := ⟨b, off + k, none⟩) hbb).trans <| hc k _ (ints_get l k hlt)
        have hcel2 : wr.cell? ⟨d, of2 + k, none⟩ = some (.int .i64 m[k]) := (hbw.cell (p := ⟨d, of2 + k, none⟩) hdd).trans <| hd k _ (ints_get m k hlm)
        clear hc hd hr hq
        have HT := Lib.hid (take_snoc l k hlt)
        have HT2 := Lib.hid (take_snoc m k hlm)
        by_cases he : l[k] = m[k]
        · have hne : (l[k] != m[k]) = false := by simp [he]
          have HE := Lib.hid he
          clear he
          go_wp2
          go_quiet (fail)
          go_wp2
          go_roundw
          case rel => exact ⟨k + 1, by omega, by go_num, by rw [HT.out, HT2.out, HTK.out, HE.out], hbw.drewN nq⟩
          case measure => simp [intOf]; omega
        · have hne : (l[k] != m[k]) = true := by simpa using he
          have HE : Hid (l ≠ m) := Lib.hid fun h => by subst h; exact he rfl
          clear he
          go_wp2
          go_quiet (fail)
          go_wp2
          go_ret
          exact ⟨ret_bool (decide_eq_false HE.out).symm, hbw.drewN nq⟩
      · have HE : Hid (l = m) := Lib.hid <| by
          have h1 := HTK.out
          rwa [List.take_of_length_le (by omega), List.take_of_length_le (by have := HL.out; omega)] at h1
        go_wp2
        go_ret
        exact ⟨ret_bool (decide_eq_true HE.out).symm, hbw⟩
  · have hb : ((l.length : Int) != (m.length : Int)) = true := by rw [bne_iff_ne]; omega
    have HE : Hid (l ≠ m) := Lib.hid fun h => hlen (by rw [h])
    clear hlen
    go_enter Try.func11, Try.ntmps11
    go_wp2
    go_ret
    exact ⟨ret_bool (decide_eq_false HE.out).symm, Below.refl _ _⟩

end Go.Proofs.Ytljhbpbjppmoiaa

/- The contract of the document's product. -/
namespace Go.Proofs.Ytljhbpbjppmoiaa
open Go.RowKit GfMath PolyMath
set_option linter.unusedVariables false

theorem info_int1 : (Try.prog.info? 3).map (·.size) = some 1 := by kernel_rfl
theorem nats_zero (N : Nat) : nats (List.replicate N 0) = List.replicate N (.int .i64 0) := by rw [nats, List.map_replicate]; rfl

end Go.Proofs.Ytljhbpbjppmoiaa

/- The walk of PolySums. -/
namespace Go.Proofs.Ytljhbpbjppmoiaa
open Go.RowKit GfMath PolyMath
set_option linter.unusedVariables false

def u8l (l : List Nat) : List UInt8 := l.map fun n => UInt8.ofNat n
theorem u8s_bytes {l : List Nat} (h : By l) : u8s l = bytes (u8l l) := by
  simp only [u8s, bytes, u8l, List.map_map]
  refine List.map_congr_left fun x hx => ?_
  have := h x hx
  simp only [Function.comp, UInt8.toNat_ofNat']
  congr 2
  omega
theorem u8l_length (l : List Nat) : (u8l l).length = l.length := by simp [u8l]
theorem conv_u8s {w : World} {B : Nat} {a : Option Addr} {l : List Nat} (hl : By l) (c : Nat) (h : Lies w B a (u8s l)) :
    (convert 22 9 (.slice a l.length c)).run Try.prog w = .ok (.string (str (u8l l))) w := by
  rw [u8s_bytes hl] at h
  cases a with
  | none =>
    by_cases h0 : l.length = 0
    · have : l = [] := List.eq_nil_of_length_eq_zero h0
      subst this
      exact run_convert_bytes_nil w _ _ Try.underlying22 Try.underlying5 _ _ _ Try.underlying9
    · obtain ⟨b, off, e, _⟩ := h (by rw [bytes_length, u8l_length]; omega)
      cases e
  | some ad =>
    have h2 := run_convert_bytes_back (P := Try.prog) w 22 9 5 ad c (u8l l) Try.underlying22 Try.underlying5 Try.underlying9 (fun j hj => by
      obtain ⟨b, off, e, _, h3⟩ := h (by rw [bytes_length]; omega)
      cases e
      rw [Addr.add_lit]
      exact h3 j _ (bytes_get _ j hj))
    rw [u8l_length] at h2
    exact h2
/-- The law's text of all polynomials. -/
def txt (ls : List (List Nat)) : ByteArray := str (ls.flatMap fun l => u8l l ++ [124])
theorem txt_snoc (ls : List (List Nat)) (l : List Nat) : txt (ls ++ [l]) = txt ls ++ (str (u8l l) ++ { data := #[124] }) := by
  have e : ({ data := #[124] } : ByteArray) = str [124] := rfl
  rw [e, str_append, txt, txt, str_append, List.flatMap_append, List.flatMap_cons, List.flatMap_nil, List.append_nil]
theorem txt_le (ls : List (List Nat)) (N : Nat) (h : ∀ l ∈ ls, l.length ≤ N) : (txt ls).size ≤ ls.length * (N + 1) := by
  rw [txt, str_size]
  induction ls with
  | nil => simp
  | cons l ls ih =>
    have h1 := ih fun y hy => h y (by simp [hy])
    have h2 := h l (by simp)
    rw [List.flatMap_cons, List.length_append, List.length_append, u8l_length, List.length_singleton, List.length_cons, Nat.add_mul]
    omega

end Go.Proofs.Ytljhbpbjppmoiaa

/- The document's example (awake); RsNone's walk. -/
namespace Go.Proofs.Ytljhbpbjppmoiaa
open Go.RowKit GfMath PolyMath RsMath
set_option linter.unusedVariables false

theorem code_12 : (code [1, 2] 2).take 2 = [1, 2] := by decide +kernel
theorem wrong_12 : allz (vals [1, 2, 0, 0] 2) = false := by decide +kernel
theorem by_12 : By [1, 2] := by_two (by omega) (by omega)

theorem laid_four (x y z t : Nat) (w : World) (ty : TypeId) : Lies (w.alloc (.cells #[.int .u8 (x : Int), .int .u8 (y : Int), .int .u8 (z : Int), .int .u8 (t : Int)] ty)) (w.alloc (.cells #[.int .u8 (x : Int), .int .u8 (y : Int), .int .u8 (z : Int), .int .u8 (t : Int)] ty)).heap.size (some ⟨w.heap.size, 0, none⟩) (u8s [x, y, z, t]) := Lies.new [_, _, _, _] w ty

end Go.Proofs.Ytljhbpbjppmoiaa

/- Contracts of the document's There, Values, Right. -/
namespace Go.Proofs.Ytljhbpbjppmoiaa
open Go.RowKit GfMath PolyMath RsMath
set_option linter.unusedVariables false

theorem there_yes (n k : Int) (w : World) (h : 1 ≤ k ∧ k < n ∧ n ≤ 255 ∧ n - k ≤ 64) : Calls Try.prog 5 #[.int .i64 n, .int .i64 k] w fun e w' => e = .returned (.bool true) ∧ w = w' := by
  obtain ⟨h1, h2, h3, h4⟩ := h
  have h5 : IntKind.i64.wrap (n - k) = n - k := by rw [IntKind.wrap_i64]; omega
  have h6 : ¬ 255 < n := by omega
  have h7 : ¬ 64 < n - k := by omega
  go_enter Try.func5, Try.ntmps5
  go_wp2
  go_ret
  exact ⟨rfl, rfl⟩
theorem there_no (n k : Int) (w : World) (h : ¬ (1 ≤ k ∧ k < n ∧ n ≤ 255 ∧ n - k ≤ 64)) : Calls Try.prog 5 #[.int .i64 n, .int .i64 k] w fun e w' => e = .returned (.bool false) ∧ w = w' := by
  by_cases h1 : 1 ≤ k
  · by_cases h2 : k < n
    · by_cases h3 : n ≤ 255
      · have h5 : IntKind.i64.wrap (n - k) = n - k := by rw [IntKind.wrap_i64]; omega
        have h7 : ¬ n - k ≤ 64 := by omega
        clear h
        go_enter Try.func5, Try.ntmps5
        go_wp2
        go_ret
        exact ⟨rfl, rfl⟩
      · clear h
        go_enter Try.func5, Try.ntmps5
        go_wp2
        go_ret
        exact ⟨rfl, rfl⟩
    · clear h
      go_enter Try.func5, Try.ntmps5
      go_wp2
      go_ret
      exact ⟨rfl, rfl⟩
  · clear h
    go_enter Try.func5, Try.ntmps5
    go_wp2
    go_ret
    exact ⟨rfl, rfl⟩

theorem ev_lo {l : List Nat} (hl : By l) {x : Nat} (hx : x < 256) : E (sq (lo l)) (lo l).length x = ev l x := by
  rw [← ev_beh hx hl, ev_E hx hl.beh, lo_length]
  exact E_congr fun k _ => by rw [sq_lo, cf_beh]
theorem gm_ex_two (i : Nat) : gm (ex i) 2 = ex (i + 1) := ex_add i 1
theorem vals_by {l : List Nat} (hl : By l) (p : Nat) : By (vals l p) := tab_by _ fun n _ => ev_lt hl (ex_lt n)
theorem vals_snoc (l : List Nat) (p : Nat) : vals l (p + 1) = vals l p ++ [ev l (ex p)] := tab_snoc p _

end Go.Proofs.Ytljhbpbjppmoiaa

/- RsValues' walk. -/
namespace Go.Proofs.Ytljhbpbjppmoiaa
open Go.RowKit GfMath PolyMath RsMath
set_option linter.unusedVariables false

theorem eql_bool_same (z : Bool) : (z == z) = true := by cases z <;> rfl

end Go.Proofs.Ytljhbpbjppmoiaa

/- In how many places two words differ. No program. -/
namespace RsMath
open GfMath PolyMath
set_option linter.unusedVariables false

def dif (A B : List Nat) : Nat → Nat
  | 0 => 0
  | i + 1 => dif A B i + if sq A i = sq B i then 0 else 1
theorem dif_le (A B : List Nat) : ∀ i, dif A B i ≤ i
  | 0 => Nat.le_refl _
  | i + 1 => by have := dif_le A B i; rw [dif]; split <;> omega
theorem dif_filter (A B : List Nat) : ∀ i, dif A B i = ((List.range i).filter fun j => (sq A j ^^^ sq B j) ≠ 0).length
  | 0 => rfl
  | i + 1 => by
    rw [dif, dif_filter A B i, List.range_succ, List.filter_append, List.length_append]
    congr 1
    by_cases h : sq A i = sq B i
    · rw [if_pos h, List.filter_cons, if_neg (by simp [h])]
      rfl
    · rw [if_neg h, List.filter_cons, if_pos (by simpa using xor_ne h)]
      rfl
theorem dif_supp (A B : List Nat) (h : A.length = B.length) : dif A B A.length = (supp (xl A B)).length := by
  rw [dif_filter, supp, xl_length]
  congr 1
  refine List.filter_congr fun j hj => ?_
  rw [xl, sq_tab, if_pos (List.mem_range.1 hj)]
theorem dif_zero (A B : List Nat) : ∀ i, dif A B i = 0 → ∀ j, j < i → sq A j = sq B j
  | 0, _, j, hj => absurd hj (by omega)
  | i + 1, h, j, hj => by
    rw [dif] at h
    by_cases e : sq A i = sq B i
    · rw [if_pos e] at h
      by_cases e2 : j = i
      · rw [e2]; exact e
      · exact dif_zero A B i h j (by omega)
    · rw [if_neg e] at h; omega
theorem dif_same (A : List Nat) : ∀ i, dif A A i = 0
  | 0 => rfl
  | i + 1 => by rw [dif, dif_same A i, if_pos rfl]
theorem sq_set (D : List Nat) (j v q : Nat) (hj : j < D.length) : sq (D.set j v) q = if q = j then v else sq D q := by
  by_cases e : q = j
  · subst e
    rw [if_pos rfl, sq_get _ _ (by simpa using hj)]
    simp
  · rw [if_neg e]
    by_cases hq : q < D.length
    · rw [sq_get _ _ (by simpa using hq), sq_get _ _ hq, List.getElem_set_ne (by omega)]
    · rw [sq_out _ _ (by simp; omega), sq_out _ _ (by omega)]
theorem dif_set_le (D B : List Nat) (j v : Nat) (hj : j < D.length) : ∀ i, i ≤ j → dif (D.set j v) B i = dif D B i
  | 0, _ => rfl
  | i + 1, h => by rw [dif, dif, dif_set_le D B j v hj i (by omega), sq_set D j v i hj, if_neg (show ¬ i = j by omega)]
theorem dif_set (D B : List Nat) (j v : Nat) (hj : j < D.length) (h1 : sq D j = sq B j) (h2 : v ≠ sq B j) : ∀ i, j < i → dif (D.set j v) B i = dif D B i + 1
  | i + 1, h => by
    rw [dif, dif, sq_set D j v i hj]
    by_cases e : i = j
    · subst e
      rw [if_pos (show i = i from rfl), dif_set_le D B i v hj i (Nat.le_refl _), if_pos h1, if_neg h2]
    · rw [if_neg (show ¬ i = j from e), dif_set D B j v hj h1 h2 i (by omega)]
      omega
theorem far_dif {a b : List Nat} {p : Nat} (ha : By a) (hb : By b) (hl : a.length = b.length) (hn : a.length ≤ 255) (hs : dif a b a.length ≤ p) (h0 : allz (vals a p) = true) (h1 : allz (vals b p) = true) : a = b :=
  far_two ha hb hl hn (by rw [← dif_supp a b hl]; exact hs) (allz_zero.1 h0) (allz_zero.1 h1)
theorem xl_right {a b : List Nat} {p : Nat} (ha : By a) (hb : By b) (hl : a.length = b.length) (h0 : allz (vals a p) = true) (h1 : allz (vals b p) = true) : allz (vals (xl a b) p) = true :=
  allz_zero.2 fun i hi => by rw [ev_xl ha hb hl, allz_zero.1 h0 i hi, allz_zero.1 h1 i hi]; rfl
theorem code_inj {X Y : List Nat} (hX : By X) (hY : By Y) {p : Nat} (hl : X.length = Y.length) (h : code X p = code Y p) : X = Y := by
  have h1 := congrArg (List.take X.length) h
  rw [code, code, List.take_left, hl, List.take_left] at h1
  exact h1

end RsMath

/- RsAny's walk. Generated by gen_rs_any.py. -/
namespace Go.Proofs.Ytljhbpbjppmoiaa
open Go.RowKit GfMath PolyMath RsMath
set_option linter.unusedVariables false

theorem reads_two {w : World} {cs : List Value} {x : List (List Int)} (h : Open.Reads w (.arr 2 (.sl 1 (.int .u8))) cs x) :
    ∃ (a : Option Addr) (ca : Nat) (X : List Nat) (c : Option Addr) (cc : Nat) (Y : List Nat), cs = [.slice a X.length ca, .slice c Y.length cc] ∧
      By X ∧ Lies w w.heap.size a (u8s X) ∧ X.length ≤ ca ∧ ca ≤ 140737488351232 ∧ By Y ∧ Lies w w.heap.size c (u8s Y) ∧ Y.length ≤ cc ∧ cc ≤ 140737488351232 := by
  obtain ⟨h1, h2, h3⟩ := h
  have hl : cs.length = 2 := h2
  match cs, hl with
  | [s, t], _ =>
    have q0 := h3 0 (by omega)
    have q1 := h3 1 (by omega)
    obtain ⟨a, ca, X, e1, _, e2, e3, e4, e5⟩ := reads_u8s q0
    obtain ⟨c, cc, Y, g1, _, g2, g3, g4, g5⟩ := reads_u8s q1
    have e1' : s = .slice a X.length ca := by simpa [Open.Ty.size] using e1
    have g1' : t = .slice c Y.length cc := by simpa [Open.Ty.size] using g1
    exact ⟨a, ca, X, c, cc, Y, by rw [e1', g1'], e2, e3, e4, e5 (by omega), g2, g3, g4, g5 (by omega)⟩

/-- The variable that holds the two. -/
theorem pair_laid (w : World) (x y : Value) (t : TypeId) : ∃ u, u = w.alloc (.cells #[x, y] t) ∧ u.cell? ⟨w.heap.size, 0, none⟩ = some x ∧ u.cell? ⟨w.heap.size, 1, none⟩ = some y ∧ Below w.heap.size w u ∧ w.heap.size < u.heap.size := by
  have r1 : Row (w.alloc (.cells #[x, y] t)) w.heap.size t [x, y] := Row.new w t [x, y]
  exact ⟨_, rfl, by rw [r1.cell]; rfl, by rw [r1.cell]; rfl, alloc_below _ _, by simp⟩

theorem enc_row (c b k p : Nat) (a : Option Addr) (cap : Nat) (X : List Nat) (w : World) (h : Cod w c b k p) (hl : X.length = k) (hby : By X) (hcap : X.length ≤ cap) (hcap2 : cap ≤ 140737488351232) (hr : Lies w w.heap.size a (u8s X)) :
    Calls Try.prog 8 #[.pointer (some ⟨c, 0, none⟩), .slice a k cap] w fun e w' =>
      (∃ g c2 ys, e = .returned (.tuple #[.slice (some ⟨g, 0, none⟩) (k + p) c2, .int .i64 0]) ∧ w.heap.size ≤ g ∧ k + p ≤ c2 ∧ Row w' g 5 (u8s (code X p) ++ ys)) ∧ Below w.heap.size w w' :=
  (enc_any c b k p a cap X w h hl hby hcap hcap2 hr).mono fun e w' ⟨⟨g, c2, h1, h2, h3⟩, h4⟩ => by
    obtain ⟨_, ys, h5⟩ := own_row h3
    exact ⟨⟨g, c2, ys, h1, h2, (own_lies h3).2, h5⟩, h4⟩
theorem lies_front {w : World} {g : Nat} {t : TypeId} {xs ys : List Value} (h : Row w g t (xs ++ ys)) : Lies w w.heap.size (some ⟨g, 0, none⟩) xs := fun _ => ⟨g, 0, rfl, h.lt, fun j u hu => by
  rw [Nat.zero_add, h.cell, List.getElem?_append_left (List.getElem?_eq_some_iff.1 hu).1]; exact hu⟩
theorem dec_nat (m : Nat) : decide (m = 0) = ((m : Int) == 0) := by
  cases m with
  | zero => rfl
  | succ m => rw [decide_eq_false (by omega)]; exact (beq_false_of_ne (by omega)).symm
theorem u8_xor {a b : Nat} (ha : a < 256) (hb : b < 256) : bits .xor .u8 (a : Int) (b : Int) = ((a ^^^ b : Nat) : Int) := u8_xor_nat a b ha hb

end Go.Proofs.Ytljhbpbjppmoiaa

/- RsFar's walk. Generated by gen_rs_far.py. -/
namespace Go.Proofs.Ytljhbpbjppmoiaa
open Go.RowKit GfMath PolyMath RsMath
set_option linter.unusedVariables false

/-- Bytes as a string. -/
theorem rs_conv_u8s (a : Option Addr) (cap : Nat) (L : List Nat) (B : Nat) (u : World) (hL : By L) (h0 : 0 < L.length) (hr : Lies u B a (u8s L)) :
    (convert 22 9 (.slice a L.length cap)).run Try.prog u = .ok (.string (str (L.map UInt8.ofNat))) u := by
  obtain ⟨b, o, rfl, _, hc⟩ := hr (by rw [u8s_length]; exact h0)
  refine conv_bytes b o cap (L.map UInt8.ofNat) L.length u (by simp) fun j hj => ?_
  have hj2 : j < L.length := by simpa using hj
  rw [hc j _ (u8s_get L j hj2)]
  have h8 := hL _ (List.getElem_mem hj2)
  simp only [List.getElem_map]
  rw [UInt8.toNat_ofNat', Nat.mod_eq_of_lt (by omega)]

end Go.Proofs.Ytljhbpbjppmoiaa
