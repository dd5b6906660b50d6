/- The texts PolyZC, PolyBF, SolMath, InvY, InvG, Same, PolyU, PolyW, RsI, RsJ, RsK, RsMath2, RsL, RsM, RsMath3, RsMath4, one behind the other. -/
import Derived.Deep.QuietTactic
import Derived.BigQuiet
import Derived.StillTailTactics
import Derived.Test.YtkcnmiaedcenoaaB2
/- Contracts of poly's Mul and Add for lists whose room isn't known. -/
namespace Go.Proofs.Ytkcnmiaedcenoaa
open Go.RowKit GfMath PolyMath
set_option linter.unusedVariables false

theorem Polz.by {w : World} {ts : List Hd} {ls : List (List Nat)} (h : Polz w ts ls) : ∀ l ∈ ls, By l := by
  intro l hl
  obtain ⟨i, hi, rfl⟩ := List.mem_iff_getElem.1 hl
  exact (h.at_ i (by rw [h.len]; exact hi) hi).2.2.1

set_option maxHeartbeats 1000000 in
theorem pmulz_any (b : Nat) (a : Option Addr) (cap : Nat) (ts : List Hd) (ls : List (List Nat)) (w : World) (hf : Fld w b) (hp : Polz w ts ls) (hn : ls.length ≤ 100) (hl : ∀ l ∈ ls, l.length ≤ 5000) (hr : Lies w w.heap.size a (slvs ts)) :
    Calls Try.prog 37 #[.pointer (some ⟨b, 0, none⟩), .slice a ls.length cap] w fun e w' => (∃ v, e = .returned v ∧ Reads w' v (pms ls)) ∧ Below w.heap.size w w' := by
  have HF := Lib.hid hf
  have HR := Lib.hid hr
  have HP := Lib.hid hp
  have HL := Lib.hid hl
  have HN : Hid (ls.length ≤ 100) := Lib.hid hn
  have H0 : Hid (Reads (w.alloc (.cells #[.int .u8 1] 5)) (.slice (some ⟨w.heap.size, 0, none⟩) 1 1) (pms [])) := Lib.hid ⟨_, 1, rfl, by decide, Lies.new [.int .u8 1] w _⟩
  clear hf hr hp hl
  go_enter Try.func37, Try.ntmps37
  go_wp2
  go_loopw [5, 13] (fun p i wr => ∃ k : Nat, k ≤ ls.length ∧ i = .int .i64 k ∧ Reads wr p (pms (ls.take k)) ∧ Below w.heap.size w wr) (fun _ i _ => ls.length - (intOf i).toNat)
  case atStart => exact ⟨0, Nat.zero_le _, rfl, H0.out, alloc_below _ _⟩
  case round =>
    clear H0
    obtain ⟨k, hk, rfl, ⟨ap, cp, rfl, hcp, hp⟩, hbw⟩ := hrel
    by_cases hlt : k < ls.length
    · have hk1 : (k : Int) < ls.length := by omega
      obtain ⟨q, c, ht, hqc, hq8, hql⟩ := HP.out.get k hlt
      have hkt : k < ts.length := by rw [HP.out.len]; exact hlt
      obtain ⟨b2, off, rfl, hbb, hcl⟩ := HR.out (by rw [slvs_length]; omega)
      have hcell : wr.cell? ⟨b2, off + k, none⟩ = some (.slice q ls[k].length c) := by
        have h1 := (hbw.cell (p := ⟨b2, off + k, none⟩) hbb).trans (hcl k _ (slvs_get ts k hkt))
        rw [ht] at h1
        exact h1
      have hst : pms (ls.take (k + 1)) = pm (pms (ls.take k)) (beh ls[k]) := by rw [take_snoc ls k hlt, pms_snoc]
      have hby : ∀ l ∈ ls.take k, By l := fun l h => HP.out.by l (List.mem_of_mem_take h)
      obtain ⟨hP8, _⟩ := pms_all (ls.take k) hby
      have hPl := pms_le (ls.take k) 5000 fun l h => HL.out l (List.mem_of_mem_take h)
      rw [List.length_take] at hPl
      have hPl2 : (pms (ls.take k)).length ≤ 1000000 := by have := HN.out; omega
      have hql5 := HL.out ls[k] (List.getElem_mem hlt)
      obtain ⟨l, hle⟩ : ∃ l, ls[k] = l := ⟨_, rfl⟩
      rw [hle] at hcell hst hqc hq8 hql hql5
      obtain ⟨P, hP⟩ : ∃ P, pms (ls.take k) = P := ⟨_, rfl⟩
      rw [hP] at hst hp hcp hP8 hPl2
      rw [hP]
      have hmb := beh_le l
      have hm8 := hq8.beh
      have HBE := Lib.hid (behind_any q c l wr (by omega) hqc (hql.step hbw))
      obtain ⟨m, hm⟩ : ∃ m, beh l = m := ⟨_, rfl⟩
      rw [hm] at HBE hst hmb hm8
      have HT : Hid (∀ (u : World) (q2 : Option Addr) (c2 : Nat), Fld u b → Lies u u.heap.size ap (u8s P) → Lies u u.heap.size q2 (u8s m) → Calls Try.prog 21 #[.pointer (some ⟨b, 0, none⟩), .slice ap P.length cp, .slice q2 m.length c2] u fun e w' => (∃ v, e = .returned v ∧ Reads w' v (pm P m)) ∧ Below u.heap.size u w') :=
        Lib.hid fun u q2 c2 h3 h4 h5 => ptimes_any b ap q2 cp c2 P m u h3 hP8 hm8 hPl2 (by omega) h4 h5
      have HPP := Lib.hid hp
      have HS := Lib.hid hst
      have HW := Lib.hid hbw
      have HFR : Hid (Fld wr b) := Lib.hid (HF.out.step hbw)
      clear hp hst hbw hcl hbb hP hcp hP8 hPl hPl2 hql hqc hq8 hle hm8 hmb hm ht hql5 
      go_wp2_with (first
        | (go_at_call 57; (with_reducible refine HBE.out.mono ?_); rintro e w1 ⟨⟨v, rfl, q2, c2, rfl, _, hv⟩, rfl⟩; have HV := Lib.hid hv; clear hv)
        | (go_at_call 21; (with_reducible refine (HT.out wr q2 c2 HFR.out HPP.out HV.out).mono ?_); rintro e w2 ⟨⟨v, rfl, hv⟩, b2⟩; have V2 := Lib.hid hv; have B2 := Lib.hid b2; clear hv b2))
      go_roundw
      case rel => exact ⟨k + 1, by omega, by go_num, by rw [HS.out]; exact V2.out, HW.out.next B2.out⟩
      case measure => simp [intOf]; omega
    · have ek : k = ls.length := by omega
      have HV : Hid (Reads wr (.slice ap (pms (ls.take k)).length cp) (pms ls)) := Lib.hid (by
        rw [ek, List.take_of_length_le (Nat.le_refl _)] at hp hcp ⊢
        exact ⟨ap, cp, rfl, hcp, hp⟩)
      have HW := Lib.hid hbw
      clear hp hbw
      go_wp2
      go_ret
      exact ⟨⟨_, rfl, HV.out⟩, HW.out⟩

set_option maxRecDepth 100000 in
set_option maxHeartbeats 1000000 in
theorem paddz_any (b : Nat) (a : Option Addr) (cap : Nat) (ts : List Hd) (ls : List (List Nat)) (w : World) (hp : Polz w ts ls) (hn : ls.length ≤ 100) (hl : ∀ l ∈ ls, l.length ≤ 5000) (hr : Lies w w.heap.size a (slvs ts)) :
    Calls Try.prog 36 #[.pointer (some ⟨b, 0, none⟩), .slice a ls.length cap] w fun e w' => (∃ v, e = .returned v ∧ Reads w' v (addl ls)) ∧ Below w.heap.size w w' := by
  have HR := Lib.hid hr
  have HP := Lib.hid hp
  have HL := Lib.hid hl
  have hN := mx_le ls 5000 hl
  obtain ⟨N, hNe⟩ : ∃ N, mx ls = N := ⟨_, rfl⟩
  rw [hNe] at hN
  have HNE := Lib.hid hNe
  have HI8 : Hid ((Try.prog.info? 5).map (fun i => (i.zero, i.size, i.bytes)) = some (some (.int .u8 0), 1, 8) ∨ (Try.prog.info? 5).map (fun i => (i.zero, i.size, i.bytes)) = some (some (.int .u8 0), 1, 1)) := Lib.hid (Or.inr info_byte)
  have HLL : Hid (N ≤ N) := Lib.hid (Nat.le_refl _)
  have HLM0 : Hid (N ≤ 1099511627776) := Lib.hid (by omega)
  have HZC : Hid ((Value.int .u8 0).cells = #[.int .u8 0]) := Lib.hid rfl
  have HS1 := Lib.hid info_byte1
  have hNi : (N : Int) ≤ 5000 := by omega
  obtain ⟨g, hg⟩ : ∃ g, g = w.heap.size := ⟨_, rfl⟩
  have HG := Lib.hid hg
  clear hr hp hl hNe hg
  go_enter Try.func36, Try.ntmps36
  go_wp2
  go_loop [5, 18] (fun n i => ∃ k : Nat, k ≤ ls.length ∧ i = .int .i64 k ∧ n = .int .i64 (mx (ls.take k) : Int)) (fun _ i => ls.length - (intOf i).toNat)
  case atStart => exact ⟨0, Nat.zero_le _, rfl, rfl⟩
  case round =>
    obtain ⟨k, hk, rfl, rfl⟩ := hrel
    by_cases hlt : k < ls.length
    · have hk1 : (k : Int) < ls.length := by omega
      obtain ⟨q, c, ht, hqc, hq8, hql⟩ := HP.out.get k hlt
      have hkt : k < ts.length := by rw [HP.out.len]; exact hlt
      obtain ⟨b2, off, rfl, hbb, hcl⟩ := HR.out (by rw [slvs_length]; omega)
      have hcell : w.cell? ⟨b2, off + k, none⟩ = some (.slice q ls[k].length c) := by
        have h1 := hcl k _ (slvs_get ts k hkt)
        rw [ht] at h1
        exact h1
      have hst : mx (ls.take (k + 1)) = max (mx (ls.take k)) ls[k].length := by rw [take_snoc ls k hlt, mx_snoc]
      have hm1 := mx_le (ls.take k) 5000 fun l h => HL.out l (List.mem_of_mem_take h)
      have hm2 := HL.out ls[k] (List.getElem_mem hlt)
      obtain ⟨M, hM⟩ : ∃ M, mx (ls.take k) = M := ⟨_, rfl⟩
      obtain ⟨d, hd⟩ : ∃ d, ls[k].length = d := ⟨_, rfl⟩
      rw [hM, hd] at hst
      rw [hM] at hm1 ⊢
      rw [hd] at hm2 hcell
      by_cases hMd : M < d
      · have HS : Hid (mx (ls.take (k + 1)) = d) := Lib.hid (by rw [hst]; omega)
        have h1 : (M : Int) < d := by omega
        have hq : max (M : Int) (d : Int) = (d : Int) := by omega
        clear hst hM hd hcl hbb ht hqc  hq8 hql
        go_wp2
        go_round
        case rel => exact ⟨k + 1, by omega, by go_num, by rw [HS.out]⟩
        case measure => simp [intOf]; omega
      · have HS : Hid (mx (ls.take (k + 1)) = M) := Lib.hid (by rw [hst]; omega)
        have h1 : (d : Int) ≤ M := by omega
        have hq : max (M : Int) (d : Int) = (M : Int) := by omega
        clear hst hM hd hcl hbb ht hqc  hq8 hql
        go_wp2
        go_round
        case rel => exact ⟨k + 1, by omega, by go_num, by rw [HS.out]⟩
        case measure => simp [intOf]; omega
    · have ek : k = ls.length := by omega
      rw [ek, List.take_of_length_le (Nat.le_refl _), HNE.out]
      clear ek hlt
      go_wp2_with (first
        | ((with_reducible refine wpMakeK 22 5 (.int .u8 0) N N Try.underlying22 HI8.out HZC.out HLL.out HLM0.out ?_ ?_); rfl; intro w1 r1 b1 s1; have R1 := Lib.hid r1; have B1 := Lib.hid b1; clear r1 b1 s1))
      have RG : Hid (Row w1 g 5 (u8s (hi N (sumf (ls.take 0))))) := Lib.hid (by
        have h := R1.out
        rw [← HG.out] at h
        rw [List.take_zero, hi_zero, u8s_zero]
        exact h)
      rw [← HG.out]
      clear R1
      go_loopw [31] (fun i wr => ∃ k : Nat, k ≤ ls.length ∧ i = .int .i64 k ∧ Row wr g 5 (u8s (hi N (sumf (ls.take k)))) ∧ Below w.heap.size w wr) (fun i _ => ls.length - (intOf i).toNat)
      case atStart => exact ⟨0, Nat.zero_le _, rfl, RG.out, B1.out⟩
      case round =>
        clear RG B1
        obtain ⟨k, hk, rfl, hrow, hbw⟩ := hrel
        by_cases hlt : k < ls.length
        · have hk1 : (k : Int) < ls.length := by omega
          obtain ⟨q, c, ht, hqc, hq8, hql⟩ := HP.out.get k hlt
          have hkt : k < ts.length := by rw [HP.out.len]; exact hlt
          obtain ⟨b2, off, rfl, hbb, hcl⟩ := HR.out (by rw [slvs_length]; omega)
          have hcell : wr.cell? ⟨b2, off + k, none⟩ = some (.slice q ls[k].length c) := by
            have h1 := (hbw.cell (p := ⟨b2, off + k, none⟩) hbb).trans (hcl k _ (slvs_get ts k hkt))
            rw [ht] at h1
            exact h1
          have hm2 := HL.out ls[k] (List.getElem_mem hlt)
          have hmx := le_mx ls ls[k] (List.getElem_mem hlt)
          rw [HNE.out] at hmx
          have hsl := sumf_lt (ls.take k) fun l h => HP.out.by l (List.mem_of_mem_take h)
          have hfull := adj_full N (ls.take k) ls[k] hmx
          rw [← take_snoc ls k hlt] at hfull
          obtain ⟨p, hpe⟩ : ∃ p, ls[k] = p := ⟨_, rfl⟩
          rw [hpe] at hcell hqc hq8 hql hm2 hmx hfull
          obtain ⟨S, hS⟩ : ∃ S, sumf (ls.take k) = S := ⟨_, rfl⟩
          rw [hS] at hrow hsl hfull
          rw [← adj_zero N S p] at hrow
          have HFULL := Lib.hid hfull
          have HSL := Lib.hid hsl
          have HQ8 := Lib.hid hq8
          have HQL := Lib.hid hql
          have HQW : Hid (w.heap.size ≤ w.heap.size) := Lib.hid (Nat.le_refl _)
          have R0 := Lib.hid hrow
          have B0 := Lib.hid hbw
          by_cases hp0 : p.length = 0
          · have hDi : (N : Int) - (p.length : Int) = (N : Int) := by omega
            have hDN : N - N = p.length := by omega
            have hm3 : (p.length : Int) ≤ 5000 := by omega
            have hp1 : (p.length : Int) = 0 := by omega
            clear hcl hrow hbw hbb ht  hq8 hql hsl hfull hpe hS
            go_wp2
            go_loopw [43] (fun i wr => i = .int .i64 0 ∧ Row wr g 5 (u8s (tab N (adj N S p p.length))) ∧ Below w.heap.size w wr) (fun i _ => p.length - (intOf i).toNat)
            case atStart => exact ⟨rfl, by rw [hp0]; exact R0.out, B0.out⟩
            case round =>
              clear R0 B0
              obtain ⟨rfl, hrow, hbw⟩ := hrel
              have HROW : Hid (Row wr g 5 (u8s (hi N (sumf (ls.take (k + 1)))))) := Lib.hid (by rw [← HFULL.out]; exact hrow)
              have HBW := Lib.hid hbw
              clear hrow hbw
              go_wp2
              go_roundw
              case rel => exact ⟨k + 1, by omega, by go_num, HROW.out, HBW.out⟩
              case measure => simp [intOf]; omega
          · obtain ⟨D, hD⟩ : ∃ D, N - p.length = D := ⟨_, rfl⟩
            have HD := Lib.hid hD
            have hND : ¬ N = D := by omega
            have hDi : (N : Int) - (p.length : Int) = (D : Int) := by omega
            have hDN : N - D = p.length := by omega
            have hDl : (D : Int) ≤ N := by omega
            have hD0 : 0 ≤ (D : Int) := by omega
            have hm3 : (p.length : Int) ≤ 5000 := by omega
            clear hcl hrow hbw hbb ht  hq8 hql hsl hfull hpe hS hD
            go_wp2
            go_loopw [43] (fun i wr => ∃ j : Nat, j ≤ p.length ∧ i = .int .i64 j ∧ Row wr g 5 (u8s (tab N (adj N S p j))) ∧ Below w.heap.size w wr) (fun i _ => p.length - (intOf i).toNat)
            case atStart => exact ⟨0, Nat.zero_le _, rfl, R0.out, B0.out⟩
            case round =>
              clear R0 B0
              obtain ⟨j, hj, rfl, hrow, hbw⟩ := hrel
              by_cases hlj : j < p.length
              · have hj1 : (j : Int) < p.length := by omega
                obtain ⟨b3, off3, rfl, hbb3, hcl3⟩ := HQL.out (by rw [u8s_length]; omega)
                have hcell3 : wr.cell? ⟨b3, off3 + j, none⟩ = some (.int .u8 (sq p j : Int)) := by rw [sq_get p j hlj]; exact (hbw.cell (p := ⟨b3, off3 + j, none⟩) hbb3).trans (hcl3 j _ (u8s_get p j hlj))
                have hDj : D + j < N := by omega
                have hcp : wr.cell? ⟨g, D + j, none⟩ = some (.int .u8 (adj N S p j (D + j) : Int)) := by
                  rw [hrow.cell, u8s, List.getElem?_map, tab_get _ _ _ hDj]; rfl
                have hst := adj_step N S p j
                rw [HD.out] at hst
                have hx8 := adj_lt (N := N) HSL.out HQ8.out j (D + j)
                have hy8 := HQ8.out.sq j
                obtain ⟨x, hx⟩ : ∃ x, adj N S p j (D + j) = x := ⟨_, rfl⟩
                obtain ⟨y, hy⟩ : ∃ y, sq p j = y := ⟨_, rfl⟩
                rw [hx, hy] at hst
                rw [hx] at hcp hx8
                rw [hy] at hcell3 hy8
                have HA0 := fun (u : World) => add2 b x y 5 hx8 hy8 u
                obtain ⟨r, hr⟩ : ∃ r, x ^^^ y = r := ⟨_, rfl⟩
                rw [hr] at hst HA0
                have HA := Lib.hid HA0
                have HROW := Lib.hid hrow
                have HBW := Lib.hid hbw
                have HGB : Hid (w.heap.size ≤ g) := Lib.hid (by rw [HG.out]; exact Nat.le_refl _)
                have HLM : Hid (D + j < (u8s (tab N (adj N S p j))).length) := Lib.hid (by rw [u8s_length, tab_length]; exact hDj)
                have HVC : Hid ((Value.int .u8 (r : Int)).cells = #[.int .u8 (r : Int)]) := Lib.hid rfl
                have HVO : Hid ((Value.int .u8 (r : Int)).oneCell' = true) := Lib.hid rfl
                have HST : Hid ((u8s (tab N (adj N S p j))).set (D + j) (.int .u8 (r : Int)) = u8s (tab N (adj N S p (j + 1)))) := Lib.hid (by rw [u8s_set, hst])
                clear HA0 hrow hbw hst hx hy hr hcl3 hbb3 hx8 hy8
                go_wp2_with (first
                  | (go_at_call 43; (with_reducible refine (HA.out wr).mono ?_); rintro e w1 ⟨rfl, b1⟩; have B1 := Lib.hid b1; have R1 := Lib.hid (HROW.out.step b1); clear b1)
                  | ((with_reducible refine R1.out.wpStore1K (D + j) 5 (.int .u8 (r : Int)) HS1.out HLM.out HVC.out HVO.out ?_ ?_); rfl; intro w2 r2 o2 s2; have R2 := Lib.hid r2; have O2 := Lib.hid o2; clear r2 o2 s2))
                go_roundw
                case rel => exact ⟨j + 1, by omega, by go_num, by have h := R2.out; rw [HST.out] at h; exact h, (HBW.out.next B1.out).trans (O2.out.below HGB.out (HBW.out.next B1.out).size)⟩
                case measure => simp [intOf]; omega
              · have ej : j = p.length := by omega
                have HROW : Hid (Row wr g 5 (u8s (hi N (sumf (ls.take (k + 1)))))) := Lib.hid (by rw [← HFULL.out, ← ej]; exact hrow)
                have HBW := Lib.hid hbw
                clear hrow hbw ej
                go_wp2
                go_roundw
                case rel => exact ⟨k + 1, by omega, by go_num, HROW.out, HBW.out⟩
                case measure => simp [intOf]; omega
        · have ek : k = ls.length := by omega
          rw [ek, List.take_of_length_le (Nat.le_refl _)] at hrow
          obtain ⟨T, hT⟩ : ∃ T, hi N (sumf ls) = T := ⟨_, rfl⟩
          have hTl : T.length = N := by rw [← hT, hi_length]
          rw [hT] at hrow
          have HBE : Hid (Calls Try.prog 57 #[.slice (some ⟨g, 0, none⟩) N N] wr fun e w' => (∃ v, e = .returned v ∧ Reads w' v (addl ls)) ∧ wr = w') := Lib.hid (by
            have h := behind_any (some ⟨g, 0, none⟩) N T wr (by omega) (by omega) (row_lies hrow)
            rw [hTl] at h
            exact h.mono fun e w' ⟨⟨v, h1, h2⟩, h3⟩ => ⟨⟨v, h1, by rw [addl, HNE.out, hT, ← h3]; exact h2⟩, h3⟩)
          have HBW := Lib.hid hbw
          clear hrow hbw ek hT hTl
          go_wp2_with (go_at_call 57; (with_reducible refine HBE.out.mono ?_); rintro e w2 ⟨⟨v, rfl, hv⟩, rfl⟩; have HV := Lib.hid hv; clear hv)
          go_ret
          exact ⟨⟨_, rfl, HV.out⟩, HBW.out⟩

theorem two_polz {u : World} {a c : Option Addr} {ca cc : Nat} {A C : List Nat} (hA : By A) (hC : By C) (h1 : A.length ≤ ca) (h2 : C.length ≤ cc)
    (hr : Lies u u.heap.size a (u8s A)) (hs : Lies u u.heap.size c (u8s C)) : Polz u [(a, A.length, ca), (c, C.length, cc)] [A, C] := by
  refine ⟨rfl, fun i hi hi2 => ?_⟩
  match i, hi with
  | 0, _ => exact ⟨rfl, h1, hA, hr⟩
  | 1, _ => exact ⟨rfl, h2, hC, hs⟩
theorem pmul_free (b : Nat) {a c : Option Addr} {ca cc : Nat} {A C : List Nat} (hA : By A) (hC : By C) (h1 : A.length ≤ ca) (h2 : C.length ≤ cc) (h5 : A.length ≤ 5000) (h6 : C.length ≤ 5000)
    (u : World) (hf : Fld u b) (hr : Lies u u.heap.size a (u8s A)) (hs : Lies u u.heap.size c (u8s C)) :
    Calls Try.prog 37 #[.pointer (some ⟨b, 0, none⟩), .slice (some ⟨u.heap.size, 0, none⟩) 2 2] (u.alloc (.cells #[.slice a A.length ca, .slice c C.length cc] 22)) fun e w' => (∃ v, e = .returned v ∧ Reads w' v (pms [A, C])) ∧ Below u.heap.size u w' :=
  (pmulz_any b (some ⟨u.heap.size, 0, none⟩) 2 [(a, A.length, ca), (c, C.length, cc)] [A, C] _ (hf.step (alloc_below _ _)) ((two_polz hA hC h1 h2 hr hs).step (alloc_below _ _)) (by simp) (by intro l hl; simp at hl; rcases hl with rfl | rfl <;> assumption)
    (Lies.new [.slice a A.length ca, .slice c C.length cc] u _)).mono fun e w' ⟨h1, h2⟩ => ⟨h1, (alloc_below _ _).next h2⟩
theorem padd_free (b : Nat) {a c : Option Addr} {ca cc : Nat} {A C : List Nat} (hA : By A) (hC : By C) (h1 : A.length ≤ ca) (h2 : C.length ≤ cc) (h5 : A.length ≤ 5000) (h6 : C.length ≤ 5000)
    (u : World) (hr : Lies u u.heap.size a (u8s A)) (hs : Lies u u.heap.size c (u8s C)) :
    Calls Try.prog 36 #[.pointer (some ⟨b, 0, none⟩), .slice (some ⟨u.heap.size, 0, none⟩) 2 2] (u.alloc (.cells #[.slice a A.length ca, .slice c C.length cc] 22)) fun e w' => (∃ v, e = .returned v ∧ Reads w' v (addl [A, C])) ∧ Below u.heap.size u w' :=
  (paddz_any b (some ⟨u.heap.size, 0, none⟩) 2 [(a, A.length, ca), (c, C.length, cc)] [A, C] _ ((two_polz hA hC h1 h2 hr hs).step (alloc_below _ _)) (by simp) (by intro l hl; simp at hl; rcases hl with rfl | rfl <;> assumption)
    (Lies.new [.slice a A.length ca, .slice c C.length cc] u _)).mono fun e w' ⟨h1, h2⟩ => ⟨h1, (alloc_below _ _).next h2⟩

end Go.Proofs.Ytkcnmiaedcenoaa

/- The contract of poly's product of two, its answer new. -/
namespace Go.Proofs.Ytkcnmiaedcenoaa
open Go.RowKit GfMath PolyMath
set_option linter.unusedVariables false

/-- A slice that lies in new memory, or nowhere. -/
def Fresh (w : World) (v : Value) : Prop := ∀ a n c, v = .slice (some a) n c → w.heap.size ≤ a.block
theorem Fresh.nil (w : World) : Fresh w (.slice none 0 0) := fun a n c h => by cases h

set_option maxHeartbeats 1000000 in
theorem ptimes_somef (b : Nat) (a c : Option Addr) (ca cc : Nat) (A C : List Nat) (w : World) (hf : Fld w b) (hA : By A) (hC : By C) (hla : A.length ≤ 1000000) (hlc : C.length ≤ 1000000) (h0 : 0 < A.length) (h1 : 0 < C.length)
    (hr : Lies w w.heap.size a (u8s A)) (hs : Lies w w.heap.size c (u8s C)) :
    Calls Try.prog 21 #[.pointer (some ⟨b, 0, none⟩), .slice a A.length ca, .slice c C.length cc] w fun e w' => (∃ v, e = .returned v ∧ Reads w' v (pm A C) ∧ Fresh w v) ∧ Below w.heap.size w w' := by
  obtain ⟨L, hL⟩ : ∃ L, A.length + C.length - 1 = L := ⟨_, rfl⟩
  have hLi : (A.length : Int) + (C.length : Int) - 1 = (L : Int) := by omega
  have ha0 : ¬ (A.length : Int) = 0 := by omega
  have hc0 : ¬ (C.length : Int) = 0 := by omega
  have ha1 : ((A.length : Int) == 0) = false := beq_false_of_ne ha0
  have hc1 : ((C.length : Int) == 0) = false := beq_false_of_ne hc0
  have hL0 : 0 < L := by omega
  have hLb : L ≤ 2000000 := by omega
  have hLc : (L : Int) ≤ 2000000 := by omega
  have hpm : pm A C = tab L (cvk (sq A) (sq C) A.length) := by unfold pm; rw [if_neg (by omega), hL]
  obtain ⟨g, hg⟩ : ∃ g, g = w.heap.size := ⟨_, rfl⟩
  have HPM := Lib.hid hpm
  have HL := Lib.hid hL
  have HF := Lib.hid hf
  have HR := Lib.hid hr
  have HS := Lib.hid hs
  have HA := Lib.hid hA
  have HC := Lib.hid hC
  have HG := Lib.hid hg
  have HI8 : Hid ((Try.prog.info? 5).map (fun i => (i.zero, i.size, i.bytes)) = some (some (.int .u8 0), 1, 8) ∨ (Try.prog.info? 5).map (fun i => (i.zero, i.size, i.bytes)) = some (some (.int .u8 0), 1, 1)) := Lib.hid (Or.inr info_byte)
  have HS1 : Hid ((Try.prog.info? 5).map (·.size) = some 1) := Lib.hid (by have h := info_byte; cases hq : Try.prog.info? 5 with | none => rw [hq] at h; cases h | some i => rw [hq] at h; simp only [Option.map_some, Option.some.injEq, Prod.mk.injEq] at h; rw [Option.map_some, h.2.1])
  have HLL : Hid (L ≤ L) := Lib.hid (Nat.le_refl _)
  have HLM0 : Hid (L ≤ 1099511627776) := Lib.hid (by omega)
  have HZC : Hid ((Value.int .u8 0).cells = #[.int .u8 0]) := Lib.hid rfl
  clear hpm hL hf hr hs hA hC hg
  go_enter Try.func21, Try.ntmps21
  go_wp2_with (first
    | ((with_reducible refine wpMakeK 22 5 (.int .u8 0) L L Try.underlying22 HI8.out HZC.out HLL.out HLM0.out ?_ ?_); rfl; intro w1 r1 b1 s1; have R1 := Lib.hid r1; have B1 := Lib.hid b1; clear r1 b1 s1))
  have RG : Hid (Row w1 g 5 (u8s (tab L (cvk (sq A) (sq C) 0)))) := Lib.hid (by
    have h := R1.out
    rw [← HG.out] at h
    have e : u8s (tab L (cvk (sq A) (sq C) 0)) = List.replicate L (.int .u8 0) := by
      rw [show tab L (cvk (sq A) (sq C) 0) = List.replicate L 0 from (tab_zero L).symm, u8s, List.map_replicate]; rfl
    rw [e]; exact h)
  rw [← HG.out]
  clear R1
  go_loopw [29] (fun i wr => ∃ k : Nat, k ≤ A.length ∧ i = .int .i64 k ∧ Row wr g 5 (u8s (tab L (cvk (sq A) (sq C) k))) ∧ Below w.heap.size w wr) (fun i _ => A.length - (intOf i).toNat)
  case atStart => exact ⟨0, Nat.zero_le _, rfl, RG.out, B1.out⟩
  case round =>
    clear RG B1
    obtain ⟨k, hk, rfl, hrow, hbw⟩ := hrel
    by_cases hlt : k < A.length
    · have hk1 : (k : Int) < A.length := by omega
      obtain ⟨b2, off, rfl, hbb, hcl⟩ := HR.out (by rw [u8s_length]; omega)
      have hcell : wr.cell? ⟨b2, off + k, none⟩ = some (.int .u8 (sq A k : Int)) := by rw [sq_get A k hlt]; exact (hbw.cell (p := ⟨b2, off + k, none⟩) hbb).trans (hcl k _ (u8s_get A k hlt))
      obtain ⟨x, hc'⟩ : ∃ x, sq A k = x := ⟨_, rfl⟩
      rw [hc'] at hcell
      have HSA := Lib.hid hc'
      have R0 : Hid (Row wr g 5 (u8s (tab L (cvj A C k 0)))) := Lib.hid (by rw [tab_congr L (fun n _ => cvj_zero A C k n)]; exact hrow)
      have B0 := Lib.hid hbw
      clear hcl hrow hbw hc' hbb
      go_wp2
      go_loopw [36] (fun i wr => ∃ j : Nat, j ≤ C.length ∧ i = .int .i64 j ∧ Row wr g 5 (u8s (tab L (cvj A C k j))) ∧ Below w.heap.size w wr) (fun i _ => C.length - (intOf i).toNat)
      case atStart => exact ⟨0, Nat.zero_le _, rfl, R0.out, B0.out⟩
      case round =>
        clear R0 B0
        obtain ⟨j, hj, rfl, hrow, hbw⟩ := hrel
        by_cases hlj : j < C.length
        · have hj1 : (j : Int) < C.length := by omega
          obtain ⟨b3, off3, rfl, hbb3, hcl3⟩ := HS.out (by rw [u8s_length]; omega)
          have hcell3 : wr.cell? ⟨b3, off3 + j, none⟩ = some (.int .u8 (sq C j : Int)) := by rw [sq_get C j hlj]; exact (hbw.cell (p := ⟨b3, off3 + j, none⟩) hbb3).trans (hcl3 j _ (u8s_get C j hlj))
          obtain ⟨m, hm⟩ : ∃ m, k + j = m := ⟨_, rfl⟩
          have hmi : (k : Int) + (j : Int) = (m : Int) := by omega
          have hmL : m < L := by have := HL.out; omega
          have hm1 : (m : Int) < L := by omega
          have hm0 : 0 ≤ (m : Int) := by omega
          have hmw : IntKind.i64.wrap (m : Int) = (m : Int) := by rw [IntKind.wrap_i64]; omega
          have hst := cvj_step A C L k j
          have hp8 := cvj_lt HA.out HC.out k j m
          have hcp : wr.cell? ⟨g, m, none⟩ = some (.int .u8 (cvj A C k j m : Int)) := by
            rw [hrow.cell, u8s, List.getElem?_map, tab_get _ _ _ hmL]; rfl
          rw [hm, HSA.out] at hst
          have hc8 : x < 256 := by rw [← HSA.out]; exact HA.out.sq k
          have hd8 := HC.out.sq j
          have hq8 := gm_lt hc8 hd8
          obtain ⟨d, hd⟩ : ∃ d, sq C j = d := ⟨_, rfl⟩
          rw [hd] at hst hcell3 hd8 hq8
          obtain ⟨p, hp⟩ : ∃ p, cvj A C k j m = p := ⟨_, rfl⟩
          rw [hp] at hst hp8 hcp
          have HMU0 : ∀ (u : World) (b1 : Nat), Fld u b → Lies u u.heap.size (some ⟨b1, 0, none⟩) [.int .u8 (x : Int), .int .u8 (d : Int)] → Calls Try.prog 44 #[.pointer (some ⟨b, 0, none⟩), .slice (some ⟨b1, 0, none⟩) 2 2] u fun e w' => e = .returned (.int .u8 (gm x d : Int)) ∧ Below u.heap.size u w' := fun u b1 hf hl => mul_two b b1 2 x d u hf hc8 hd8 hl
          obtain ⟨q, hq⟩ : ∃ q, gm x d = q := ⟨_, rfl⟩
          rw [hq] at HMU0 hst hq8
          have HAD0 : ∀ (u : World) (b1 : Nat), Lies u u.heap.size (some ⟨b1, 0, none⟩) [.int .u8 (p : Int), .int .u8 (q : Int)] → Calls Try.prog 43 #[.pointer (some ⟨b, 0, none⟩), .slice (some ⟨b1, 0, none⟩) 2 2] u fun e w' => e = .returned (.int .u8 ((p ^^^ q : Nat) : Int)) ∧ Below u.heap.size u w' := fun u b1 hl => (add_two b b1 2 p q u hp8 hq8 hl).mono fun _ u' h => ⟨h.1, by rw [← h.2]; exact Below.refl _ _⟩
          obtain ⟨r, hr⟩ : ∃ r, p ^^^ q = r := ⟨_, rfl⟩
          rw [hr] at HAD0 hst
          have HMU := Lib.hid HMU0
          have HAD := Lib.hid HAD0
          have HCP := Lib.hid hcp
          have HROW := Lib.hid hrow
          have HBW := Lib.hid hbw
          have HGL : Hid (g < wr.heap.size) := Lib.hid hrow.lt
          have HGB : Hid (w.heap.size ≤ g) := Lib.hid (by rw [HG.out]; exact Nat.le_refl _)
          have HFR : Hid (Fld wr b) := Lib.hid (HF.out.step hbw)
          have HLM : Hid (m < (u8s (tab L (cvj A C k j))).length) := Lib.hid (by rw [u8s_length, tab_length]; exact hmL)
          have HVC : Hid ((Value.int .u8 (r : Int)).cells = #[.int .u8 (r : Int)]) := Lib.hid rfl
          have HVO : Hid ((Value.int .u8 (r : Int)).oneCell' = true) := Lib.hid rfl
          have HST : Hid ((u8s (tab L (cvj A C k j))).set m (.int .u8 (r : Int)) = u8s (tab L (cvj A C k (j + 1)))) := Lib.hid (by rw [u8s_set, hst])
          clear HMU0 HAD0 hcp hrow hbw hst hp hq hr hd hcl3 hbb3 hm hmL hp8 hc8 hd8 hq8 HSA
          go_wp2
          refine region_tail 18 [(0, 41), (1, 42), (2, 43), (3, 44), (4, 45), (5, 46), (6, 47), (7, 48), (8, 49), (9, 50), (10, 51), (11, 52), (12, 53), (13, 54), (14, 55), (15, 56), (16, 57), (17, 58)]
            (fun i => [Is (.slice (some ⟨g, 0, none⟩) L L), Is (.int .i64 (k : Int)), Is (.int .i64 (j : Int)), Is (.int .i64 (m : Int)), Is (.pointer (some ⟨b, 0, none⟩)), Is (.slice (some ⟨g, 0, none⟩) L L), Is (.int .i64 (k : Int)), Is (.int .i64 (j : Int)), Is (.int .i64 (m : Int)), Is (.pointer (some ⟨g, m, none⟩)), Is (.int .u8 (p : Int)), Is (.pointer (some ⟨b, 0, none⟩)), Is (.int .u8 (x : Int)), Is (.int .u8 (d : Int)), New [.int .u8 (x : Int), .int .u8 (d : Int)], Is (.int .u8 (q : Int)), New [.int .u8 (p : Int), .int .u8 (q : Int)], Is (.int .u8 (r : Int))].getD i (Is undef))
            (fun w' => Below wr.heap.size wr w') (by kernel_rfl) (by decide) (by kernel_rfl) (by kernel_rfl) (by kernel_rfl) (by decide) (by decide) (by kernel_rfl) rfl ?mono ((Below.refl _ _).drew) ?step ?fin
          case mono =>
            intro i
            match i with
            | 0 | 1 | 2 | 3 | 4 | 5 | 6 | 7 | 8 | 9 | 10 | 11 | 12 | 13 | 15 | 17 => exact Is.monot _
            | 14 | 16 => exact New.monot _
            | _ + 18 => exact Is.monot _
          case step =>
            refine List.forall_mem_cons.2 ⟨?s0, List.forall_mem_cons.2 ⟨?s1, List.forall_mem_cons.2 ⟨?s2, List.forall_mem_cons.2 ⟨?s3, List.forall_mem_cons.2 ⟨?s4, List.forall_mem_cons.2 ⟨?s5, List.forall_mem_cons.2 ⟨?s6, List.forall_mem_cons.2 ⟨?s7, List.forall_mem_cons.2 ⟨?s8, List.forall_mem_cons.2 ⟨?s9, List.forall_mem_cons.2 ⟨?s10, List.forall_mem_cons.2 ⟨?s11, List.forall_mem_cons.2 ⟨?s12, List.forall_mem_cons.2 ⟨?s13, List.forall_mem_cons.2 ⟨?s14, List.forall_mem_cons.2 ⟨?s15, List.forall_mem_cons.2 ⟨?s16, List.forall_mem_cons.2 ⟨?s17, List.forall_mem_nil _⟩⟩⟩⟩⟩⟩⟩⟩⟩⟩⟩⟩⟩⟩⟩⟩⟩⟩
            case s3 =>
              intro u wx hg hC
              have hJ1 : u 1 = (.int .i64 (k : Int)) := hC.at 1 (by kernel_rfl)
              have hJ2 : u 2 = (.int .i64 (j : Int)) := hC.at 2 (by kernel_rfl)
              clear hC
              refine wpOp_step rfl (fun K hK => ?_)
              simp only [puts, List.foldl]
              go_simp
              exact hK _ _ ⟨rfl, rfl, hg, Below.refl _ _⟩
            case s8 =>
              intro u wx hg hC
              have hJ6 : u 6 = (.int .i64 (k : Int)) := hC.at 6 (by kernel_rfl)
              have hJ7 : u 7 = (.int .i64 (j : Int)) := hC.at 7 (by kernel_rfl)
              clear hC
              refine wpOp_step rfl (fun K hK => ?_)
              simp only [puts, List.foldl]
              go_simp
              exact hK _ _ ⟨rfl, rfl, hg, Below.refl _ _⟩
            case s9 =>
              intro u wx hg hC
              have hJ5 : u 5 = (.slice (some ⟨g, 0, none⟩) L L) := hC.at 5 (by kernel_rfl)
              have hJ8 : u 8 = (.int .i64 (m : Int)) := hC.at 8 (by kernel_rfl)
              clear hC
              refine wpOp_step rfl (fun K hK => ?_)
              simp only [puts, List.foldl]
              go_simp
              exact hK _ _ ⟨rfl, rfl, hg, Below.refl _ _⟩
            case s10 =>
              intro u wx hg hC
              have hJ : u 9 = (.pointer (some ⟨g, m, none⟩)) := hC.at 9 (by kernel_rfl)
              clear hC
              have hcl : wx.cell? ⟨g, m, none⟩ = some (.int .u8 (p : Int)) := (hg.cell (p := ⟨g, m, none⟩) HGL.out).trans HCP.out
              refine wpOp_step rfl (fun K hK => ?_)
              simp only [puts, List.foldl]
              go_simp
              exact hK _ _ ⟨rfl, rfl, hg, Below.refl _ _⟩
            case s14 =>
              intro u wx hg hC
              have hJ12 : u 12 = (.int .u8 (x : Int)) := hC.at 12 (by kernel_rfl)
              have hJ13 : u 13 = (.int .u8 (d : Int)) := hC.at 13 (by kernel_rfl)
              clear hC
              refine wpOp_step rfl (fun K hK => ?_)
              simp only [puts, List.foldl]
              go_simp
              exact hK _ _ ⟨rfl, ⟨wx.heap.size, rfl, Lies.new [_, _] _ _⟩, hg.alloc hg.size _, alloc_below _ _⟩
            case s15 =>
              intro u wx hg hC
              have hJ11 : u 11 = (.pointer (some ⟨b, 0, none⟩)) := hC.at 11 (by kernel_rfl)
              obtain ⟨b1, h2, hl⟩ : New [.int .u8 (x : Int), .int .u8 (d : Int)] (u 14) wx := hC.at 14 (by kernel_rfl)
              clear hC
              simp only [List.length_cons, List.length_nil, Nat.zero_add, Nat.reduceAdd] at h2
              refine wpOp_step rfl (fun K hK => ?_)
              simp only [puts, List.foldl]
              go_simp
              refine (HMU.out wx b1 (HFR.out.step hg) hl).mono ?_
              rintro e w' ⟨rfl, hb'⟩
              exact hK _ _ ⟨rfl, rfl, hg.next hb', hb'⟩
            case s16 =>
              intro u wx hg hC
              have hJ10 : u 10 = (.int .u8 (p : Int)) := hC.at 10 (by kernel_rfl)
              have hJ15 : u 15 = (.int .u8 (q : Int)) := hC.at 15 (by kernel_rfl)
              clear hC
              refine wpOp_step rfl (fun K hK => ?_)
              simp only [puts, List.foldl]
              go_simp
              exact hK _ _ ⟨rfl, ⟨wx.heap.size, rfl, Lies.new [_, _] _ _⟩, hg.alloc hg.size _, alloc_below _ _⟩
            case s17 =>
              intro u wx hg hC
              have hJ4 : u 4 = (.pointer (some ⟨b, 0, none⟩)) := hC.at 4 (by kernel_rfl)
              obtain ⟨b1, h2, hl⟩ : New [.int .u8 (p : Int), .int .u8 (q : Int)] (u 16) wx := hC.at 16 (by kernel_rfl)
              clear hC
              simp only [List.length_cons, List.length_nil, Nat.zero_add, Nat.reduceAdd] at h2
              refine wpOp_step rfl (fun K hK => ?_)
              simp only [puts, List.foldl]
              go_simp
              refine (HAD.out wx b1 hl).mono ?_
              rintro e w' ⟨rfl, hb'⟩
              exact hK _ _ ⟨rfl, rfl, hg.next hb', hb'⟩
            all_goals
              intro u wx hg hC
              clear hC
              refine wpOp_step rfl (fun K hK => ?_)
              simp only [puts, List.foldl]
              go_simp
              refine hK _ _ ?_
              clear hK K
              first
                | (refine ⟨rfl, ?_, hg, Below.refl _ _⟩; rfl)
                | (refine ⟨rfl, ?_, hg.alloc hg.size _, alloc_below _ _⟩; exact ⟨wx.heap.size, rfl, Lies.new [_] _ _⟩)
                | (refine ⟨rfl, ?_, hg.alloc hg.size _, alloc_below _ _⟩; exact ⟨wx.heap.size, rfl, Lies.new [_, _] _ _⟩)
          case fin =>
            intro u w9 hbw9 hφ
            have h0 : u 0 = .slice (some ⟨g, 0, none⟩) L L := hφ (0, 41) (by decide)
            have h3 : u 3 = .int .i64 (m : Int) := hφ (3, 44) (by decide)
            have h17 : u 17 = .int .u8 (r : Int) := hφ (17, 58) (by decide)
            clear hφ
            simp only [puts, List.foldl]
            go_simp
            have R9 := Lib.hid (HROW.out.step hbw9)
            have B9 := Lib.hid hbw9
            clear hbw9
            go_wp2_with (first
              | ((with_reducible refine R9.out.wpStore1K m 5 (.int .u8 (r : Int)) HS1.out HLM.out HVC.out HVO.out ?_ ?_); rfl; intro w2 r2 o2 s2; have R2 := Lib.hid r2; have O2 := Lib.hid o2; clear r2 o2 s2))
            go_roundw
            case rel => exact ⟨j + 1, by omega, by go_num, by have h := R2.out; rw [HST.out] at h; exact h, (HBW.out.next B9.out).trans (O2.out.below HGB.out (HBW.out.next B9.out).size)⟩
            case measure => simp [intOf]; omega
        · have ej : j = C.length := by omega
          have HROW : Hid (Row wr g 5 (u8s (tab L (cvk (sq A) (sq C) (k + 1))))) := Lib.hid (by
            rw [← tab_congr L (fun n _ => cvj_full A C k n), ← ej]; exact hrow)
          have HBW := Lib.hid hbw
          clear hrow hbw ej
          go_wp2
          go_roundw
          case rel => exact ⟨k + 1, by omega, by go_num, HROW.out, HBW.out⟩
          case measure => simp [intOf]; omega
    · have ek : k = A.length := by omega
      have HRD : Hid (Reads wr (.slice (some ⟨g, 0, none⟩) L L) (pm A C)) := Lib.hid (by
        rw [HPM.out]
        refine ⟨_, _, by rw [tab_length], by rw [tab_length]; exact Nat.le_refl _, ?_⟩
        rw [← ek]
        intro _
        exact ⟨g, 0, rfl, hrow.lt, fun j u hu => by rw [Nat.zero_add, hrow.cell]; exact hu⟩)
      have HBW := Lib.hid hbw
      clear hrow hbw ek
      go_wp2
      go_ret
      exact ⟨⟨_, rfl, HRD.out, fun a n c h => by cases h; rw [HG.out]; exact Nat.le_refl _⟩, HBW.out⟩

theorem ptimes_fresh (b : Nat) (a c : Option Addr) (ca cc : Nat) (A C : List Nat) (w : World) (hf : Fld w b) (hA : By A) (hC : By C) (hla : A.length ≤ 1000000) (hlc : C.length ≤ 1000000)
    (hr : Lies w w.heap.size a (u8s A)) (hs : Lies w w.heap.size c (u8s C)) :
    Calls Try.prog 21 #[.pointer (some ⟨b, 0, none⟩), .slice a A.length ca, .slice c C.length cc] w fun e w' => (∃ v, e = .returned v ∧ Reads w' v (pm A C) ∧ Fresh w v) ∧ Below w.heap.size w w' := by
  by_cases h0 : A.length = 0
  · have hi : (A.length : Int) = 0 := by omega
    have hi1 : ((A.length : Int) == 0) = true := beq_iff_eq.2 hi
    have HP : Hid (pm A C = []) := Lib.hid (by unfold pm; rw [if_pos (Or.inl h0)])
    clear h0 hf hr hs
    go_enter Try.func21, Try.ntmps21
    go_wp2
    go_ret
    exact ⟨⟨_, rfl, by rw [HP.out]; exact Reads.nil _, Fresh.nil _⟩, Below.refl _ _⟩
  · by_cases h1 : C.length = 0
    · have ha0 : ¬ (A.length : Int) = 0 := by omega
      have ha1 : ((A.length : Int) == 0) = false := beq_false_of_ne ha0
      have hi : (C.length : Int) = 0 := by omega
      have hi1 : ((C.length : Int) == 0) = true := beq_iff_eq.2 hi
      have HP : Hid (pm A C = []) := Lib.hid (by unfold pm; rw [if_pos (Or.inr h1)])
      clear h0 h1 hf hr hs
      go_enter Try.func21, Try.ntmps21
      go_wp2
      go_ret
      exact ⟨⟨_, rfl, by rw [HP.out]; exact Reads.nil _, Fresh.nil _⟩, Below.refl _ _⟩
    · exact ptimes_somef b a c ca cc A C w hf hA hC hla hlc (by omega) (by omega) hr hs

set_option maxHeartbeats 1000000 in
theorem pmul_fresh (b : Nat) (a : Option Addr) (cap : Nat) (ts : List Hd) (ls : List (List Nat)) (w : World) (hf : Fld w b) (hp : Polys w ts ls) (hn : ls.length ≤ 100) (hl : ∀ l ∈ ls, l.length ≤ 5000) (hr : Lies w w.heap.size a (slvs ts)) :
    Calls Try.prog 37 #[.pointer (some ⟨b, 0, none⟩), .slice a ls.length cap] w fun e w' => (∃ v, e = .returned v ∧ Reads w' v (pms ls) ∧ Fresh w v) ∧ Below w.heap.size w w' := by
  have HF := Lib.hid hf
  have HR := Lib.hid hr
  have HP := Lib.hid hp
  have HL := Lib.hid hl
  have HN : Hid (ls.length ≤ 100) := Lib.hid hn
  have H0 : Hid (Reads (w.alloc (.cells #[.int .u8 1] 5)) (.slice (some ⟨w.heap.size, 0, none⟩) 1 1) (pms [])) := Lib.hid ⟨_, 1, rfl, by decide, Lies.new [.int .u8 1] w _⟩
  clear hf hr hp hl
  go_enter Try.func37, Try.ntmps37
  go_wp2
  go_loopw [5, 13] (fun p i wr => ∃ k : Nat, k ≤ ls.length ∧ i = .int .i64 k ∧ Reads wr p (pms (ls.take k)) ∧ Fresh w p ∧ Below w.heap.size w wr) (fun _ i _ => ls.length - (intOf i).toNat)
  case atStart => exact ⟨0, Nat.zero_le _, rfl, H0.out, (fun a n c h => by cases h; exact Nat.le_refl _), alloc_below _ _⟩
  case round =>
    clear H0
    obtain ⟨k, hk, rfl, ⟨ap, cp, rfl, hcp, hp⟩, hfre, hbw⟩ := hrel
    have HFRE := Lib.hid hfre
    clear hfre
    by_cases hlt : k < ls.length
    · have hk1 : (k : Int) < ls.length := by omega
      obtain ⟨q, c, ht, hqc, hc1, hq8, hql⟩ := HP.out.get k hlt
      have hkt : k < ts.length := by rw [HP.out.len]; exact hlt
      obtain ⟨b2, off, rfl, hbb, hcl⟩ := HR.out (by rw [slvs_length]; omega)
      have hcell : wr.cell? ⟨b2, off + k, none⟩ = some (.slice q ls[k].length c) := by
        have h1 := (hbw.cell (p := ⟨b2, off + k, none⟩) hbb).trans (hcl k _ (slvs_get ts k hkt))
        rw [ht] at h1
        exact h1
      have hst : pms (ls.take (k + 1)) = pm (pms (ls.take k)) (beh ls[k]) := by rw [take_snoc ls k hlt, pms_snoc]
      have hby : ∀ l ∈ ls.take k, By l := fun l h => HP.out.by l (List.mem_of_mem_take h)
      obtain ⟨hP8, _⟩ := pms_all (ls.take k) hby
      have hPl := pms_le (ls.take k) 5000 fun l h => HL.out l (List.mem_of_mem_take h)
      rw [List.length_take] at hPl
      have hPl2 : (pms (ls.take k)).length ≤ 1000000 := by have := HN.out; omega
      have hql5 := HL.out ls[k] (List.getElem_mem hlt)
      obtain ⟨l, hle⟩ : ∃ l, ls[k] = l := ⟨_, rfl⟩
      rw [hle] at hcell hst hqc hq8 hql hql5
      obtain ⟨P, hP⟩ : ∃ P, pms (ls.take k) = P := ⟨_, rfl⟩
      rw [hP] at hst hp hcp hP8 hPl2
      rw [hP]
      have hmb := beh_le l
      have hm8 := hq8.beh
      have HBE := Lib.hid (behind_any q c l wr (by omega) hqc (hql.step hbw))
      obtain ⟨m, hm⟩ : ∃ m, beh l = m := ⟨_, rfl⟩
      rw [hm] at HBE hst hmb hm8
      have HT : Hid (∀ (u : World) (q2 : Option Addr) (c2 : Nat), Fld u b → Lies u u.heap.size ap (u8s P) → Lies u u.heap.size q2 (u8s m) → Calls Try.prog 21 #[.pointer (some ⟨b, 0, none⟩), .slice ap P.length cp, .slice q2 m.length c2] u fun e w' => (∃ v, e = .returned v ∧ Reads w' v (pm P m) ∧ Fresh u v) ∧ Below u.heap.size u w') :=
        Lib.hid fun u q2 c2 h3 h4 h5 => ptimes_fresh b ap q2 cp c2 P m u h3 hP8 hm8 hPl2 (by omega) h4 h5
      have HPP := Lib.hid hp
      have HS := Lib.hid hst
      have HW := Lib.hid hbw
      have HFR : Hid (Fld wr b) := Lib.hid (HF.out.step hbw)
      clear hp hst hbw hcl hbb hP hcp hP8 hPl hPl2 hql hqc hq8 hle hm8 hmb hm ht hql5 hc1
      go_wp2_with (first
        | (go_at_call 57; (with_reducible refine HBE.out.mono ?_); rintro e w1 ⟨⟨v, rfl, q2, c2, rfl, _, hv⟩, rfl⟩; have HV := Lib.hid hv; clear hv)
        | (go_at_call 21; (with_reducible refine (HT.out wr q2 c2 HFR.out HPP.out HV.out).mono ?_); rintro e w2 ⟨⟨v, rfl, hv, hvf⟩, b2⟩; have VF := Lib.hid hvf; clear hvf; have V2 := Lib.hid hv; have B2 := Lib.hid b2; clear hv b2))
      go_roundw
      case rel => exact ⟨k + 1, by omega, by go_num, by rw [HS.out]; exact V2.out, (fun a n c h => Nat.le_trans HW.out.size (VF.out a n c h)), HW.out.next B2.out⟩
      case measure => simp [intOf]; omega
    · have ek : k = ls.length := by omega
      have hfre := HFRE.out
      rw [ek, List.take_of_length_le (Nat.le_refl _)] at hp hcp hfre ⊢
      have HV : Hid (Reads wr (.slice ap (pms ls).length cp) (pms ls)) := Lib.hid ⟨ap, cp, rfl, hcp, hp⟩
      have HFR2 := Lib.hid hfre
      have HW := Lib.hid hbw
      clear hp hbw hcp hfre ek hlt HFRE
      go_wp2
      go_ret
      exact ⟨⟨_, rfl, HV.out, HFR2.out⟩, HW.out⟩

end Go.Proofs.Ytkcnmiaedcenoaa

/- What solve answers, as functions of numbers: marks, what is told, Berlekamp's and Massey's steps, Euclid's, Forney's rule. No program. -/
namespace SolMath
open GfMath PolyMath RsMath
set_option linter.unusedVariables false

def mrk (n i : Nat) : Nat := ex (n - 1 - i)
theorem mrk_lt (n i : Nat) : mrk n i < 256 := ex_lt _
/-- A polynomial without the powers from p on. -/
def lowl (p : Nat) (l : List Nat) : List Nat := l.drop (l.length - p)
theorem lowl_by {l : List Nat} (h : By l) (p : Nat) : By (lowl p l) := fun x hx => h x (List.mem_of_mem_drop hx)
theorem lowl_le (p : Nat) (l : List Nat) : (lowl p l).length ≤ l.length := by rw [lowl, List.length_drop]; omega
theorem lowl_le' (p : Nat) (l : List Nat) : (lowl p l).length ≤ p := by rw [lowl, List.length_drop]; omega
/-- The factor of a power that may be below 0. -/
def fcI (l : List Nat) (z : Int) : Nat := if z < 0 then 0 else cf l z.toNat
theorem fcI_lt {l : List Nat} (h : By l) (z : Int) : fcI l z < 256 := by unfold fcI; split; omega; exact h.cf _

/-- The erased places noted. -/
def setG (G : List Bool) (er : List Int) : List Bool := er.foldl (fun G i => G.set i.toNat true) G
theorem setG_length (G : List Bool) (er : List Int) : (setG G er).length = G.length := by
  unfold setG
  induction er generalizing G with
  | nil => rfl
  | cons a l ih => rw [List.foldl_cons, ih, List.length_set]
def cnt (G : List Bool) : Nat := G.count true
theorem cnt_le (G : List Bool) : cnt G ≤ G.length := List.count_le_length
def gAt (G : List Bool) (i : Nat) : Bool := G.getD i false
def inB (n : Nat) (er : List Int) : Bool := er.all fun i => decide (0 ≤ i) && decide (i < (n : Int))
def noneG (n : Nat) : List Bool := List.replicate n false

theorem cnt_set {G : List Bool} {i : Nat} (hi : i < G.length) (h : gAt G i = false) : cnt (G.set i true) = cnt G + 1 := by
  unfold cnt gAt at *
  induction G generalizing i with
  | nil => simp at hi
  | cons a l ih =>
    cases i with
    | zero =>
      simp only [List.getD_cons_zero] at h
      subst h
      simp
    | succ i =>
      simp only [List.getD_cons_succ] at h
      rw [List.set_cons_succ, List.count_cons, List.count_cons, ih (by simpa using hi) h]
      omega
theorem set_self {G : List Bool} {i : Nat} (h : gAt G i = true) : G.set i true = G := by
  unfold gAt at h
  induction G generalizing i with
  | nil => rfl
  | cons a l ih =>
    cases i with
    | zero =>
      simp only [List.getD_cons_zero] at h
      subst h
      rfl
    | succ i =>
      simp only [List.getD_cons_succ] at h
      rw [List.set_cons_succ, ih h]

/-- What seeks the erased places, the first i looked at. -/
def erF (n : Nat) (G : List Bool) : Nat → List Nat
  | 0 => [1]
  | i + 1 => if gAt G i then pms [erF n G i, [mrk n i, 1]] else erF n G i
theorem erF_all (n : Nat) (G : List Bool) : ∀ i, By (erF n G i) ∧ (erF n G i).length ≤ i + 1
  | 0 => ⟨by_one (by omega), by simp [erF]⟩
  | i + 1 => by
    obtain ⟨h1, h2⟩ := erF_all n G i
    unfold erF
    split
    · have h3 : By [mrk n i, 1] := by_two (mrk_lt _ _) (by omega)
      refine ⟨(pms_all _ (by intro l hl; simp at hl; rcases hl with rfl | rfl <;> assumption)).1, ?_⟩
      rw [show ([erF n G i, [mrk n i, 1]] : List (List Nat)) = [erF n G i] ++ [[mrk n i, 1]] from rfl, pms_snoc]
      rw [show pms [erF n G i] = pm [1] (beh (erF n G i)) from rfl]
      have hb := beh_le (erF n G i)
      have hc := beh_le [mrk n i, 1]
      have hl : ∀ a b : List Nat, (pm a b).length ≤ a.length + b.length - 1 := fun a b => by
        unfold pm; split
        · simp
        · rw [tab_length]; omega
      have h4 := hl [1] (beh (erF n G i))
      have h5 := hl (pm [1] (beh (erF n G i))) (beh [mrk n i, 1])
      simp only [List.length_cons, List.length_nil] at h4 hc
      omega
    · exact ⟨h1, by omega⟩

/-- By how much rule misses the thing i. -/
def missF (T rule : List Nat) (lost : Nat) (i : Nat) : Nat := xs (fun j => gm (cf rule j) (fcI T ((lost : Int) + (i : Int) - (j : Int)))) rule.length
def missK (T rule : List Nat) (lost : Nat) (i k : Nat) : Nat := xs (fun j => gm (cf rule j) (fcI T ((lost : Int) + (i : Int) - (j : Int)))) k
theorem missK_lt {T rule : List Nat} (hT : By T) (hR : By rule) (lost i k : Nat) : missK T rule lost i k < 256 := xs_lt _ fun j _ => gm_lt (hR.cf _) (fcI_lt hT _)

structure BM where
  rule : List Nat
  last : List Nat
  miss : Nat
  since : Nat
  size : Nat
def nextF (s : BM) (d : Nat) : List Nat := addl [s.rule, pms [[gm d (iv s.miss)], shl s.last s.since]]
def bmStep (T : List Nat) (lost i : Nat) (s : BM) : BM :=
  if missF T s.rule lost i = 0 then { s with since := s.since + 1 }
  else if 2 * s.size ≤ i then ⟨nextF s (missF T s.rule lost i), s.rule, missF T s.rule lost i, 1, i + 1 - s.size⟩
  else ⟨nextF s (missF T s.rule lost i), s.last, s.miss, s.since + 1, s.size⟩
def bm (T : List Nat) (lost : Nat) : Nat → BM
  | 0 => ⟨[1], [1], 1, 1, 0⟩
  | i + 1 => bmStep T lost i (bm T lost i)

theorem pm_len (a b : List Nat) : (pm a b).length ≤ a.length + b.length - 1 := by
  unfold pm; split
  · simp
  · rw [tab_length]; omega
theorem pms_two (a b : List Nat) : pms [a, b] = pm (pm [1] (beh a)) (beh b) := rfl
theorem pms_two_by {a b : List Nat} (ha : By a) (hb : By b) : By (pms [a, b]) := (pms_all _ (by intro l hl; simp at hl; rcases hl with rfl | rfl <;> assumption)).1
theorem pms_two_le (a b : List Nat) : (pms [a, b]).length ≤ a.length + b.length - 1 := by
  rw [pms_two]
  have h1 := pm_len [1] (beh a)
  have h2 := pm_len (pm [1] (beh a)) (beh b)
  have h3 := beh_le a
  have h4 := beh_le b
  have h5 : (beh b).length = 0 → (pm (pm [1] (beh a)) (beh b)).length = 0 := fun h => by unfold pm; rw [if_pos (Or.inr h)]; rfl
  simp only [List.length_cons, List.length_nil] at h1
  have h6 : (pm [1] (beh a)).length = 0 → (pm (pm [1] (beh a)) (beh b)).length = 0 := fun h => by rw [List.eq_nil_of_length_eq_zero h, pm_nil_left]; rfl
  omega
theorem addl_two_by {a b : List Nat} (ha : By a) (hb : By b) : By (addl [a, b]) := addl_by _ (by intro l hl; simp at hl; rcases hl with rfl | rfl <;> assumption)
theorem addl_two_le (a b : List Nat) : (addl [a, b]).length ≤ max a.length b.length := by
  have := addl_le [a, b]
  simpa [mx] using this

structure BMok (s : BM) (i : Nat) : Prop where
  r8 : By s.rule
  l8 : By s.last
  m8 : s.miss < 256
  m0 : s.miss ≠ 0
  rl : s.rule.length ≤ i + 1
  ll : s.last.length + s.since ≤ i + 2
  s1 : 1 ≤ s.since
  sz : s.size ≤ i
theorem next_ok {s : BM} {i d : Nat} (h : BMok s i) (hd : d < 256) : By (nextF s d) ∧ (nextF s d).length ≤ i + 2 := by
  have h1 : By [gm d (iv s.miss)] := by_one (gm_lt hd (iv_lt _))
  have h2 := shl_by h.l8 s.since
  refine ⟨addl_two_by h.r8 (pms_two_by h1 h2), ?_⟩
  have h3 := addl_two_le s.rule (pms [[gm d (iv s.miss)], shl s.last s.since])
  have h4 := pms_two_le [gm d (iv s.miss)] (shl s.last s.since)
  have h5 := shl_le s.last s.since
  simp only [List.length_cons, List.length_nil] at h4
  have := h.rl
  have := h.ll
  unfold nextF
  omega
theorem bmStep_ok {T : List Nat} (hT : By T) (lost : Nat) {s : BM} {i : Nat} (h : BMok s i) : BMok (bmStep T lost i s) (i + 1) := by
  have hd : missF T s.rule lost i < 256 := missK_lt hT h.r8 lost i _
  obtain ⟨n1, n2⟩ := next_ok h hd
  obtain ⟨r8, l8, m8, m0, rl, ll, s1, sz⟩ := h
  unfold bmStep
  split
  · exact ⟨r8, l8, m8, m0, by show s.rule.length ≤ _; omega, by show s.last.length + (s.since + 1) ≤ _; omega, by show 1 ≤ s.since + 1; omega, by show s.size ≤ _; omega⟩
  · rename_i h0
    split
    · exact ⟨n1, r8, hd, h0, n2, by show s.rule.length + 1 ≤ _; omega, Nat.le_refl _, by show i + 1 - s.size ≤ _; omega⟩
    · exact ⟨n1, l8, m8, m0, n2, by show s.last.length + (s.since + 1) ≤ _; omega, by show 1 ≤ s.since + 1; omega, by show s.size ≤ _; omega⟩
theorem bm_ok {T : List Nat} (hT : By T) (lost : Nat) : ∀ i, BMok (bm T lost i) i
  | 0 => ⟨by_one (by omega), by_one (by omega), by show 1 < 256; omega, by show 1 ≠ 0; omega, by show 1 ≤ 0 + 1; omega, by show 1 + 1 ≤ 0 + 2; omega, by show 1 ≤ 1; omega, by show 0 ≤ 0; omega⟩
  | i + 1 => bmStep_ok hT lost (bm_ok hT lost i)
def masseyF (p : Nat) (T : List Nat) (lost : Nat) : List Nat := (bm T lost (p - lost)).rule

/-- What the place i is turned by. -/
def dAt (n : Nat) (A S L : List Nat) (i : Nat) : Nat :=
  if ev A (iv (mrk n i)) ≠ 0 then 0 else gm (mrk n i) (gm (ev L (iv (mrk n i))) (iv (ev S (iv (mrk n i)))))
theorem dAt_lt (n : Nat) {A S L : List Nat} (hL : By L) (i : Nat) : dAt n A S L i < 256 := by
  unfold dAt
  split
  · omega
  · exact gm_lt (mrk_lt _ _) (gm_lt (ev_lt hL (iv_lt _)) (iv_lt _))
def allF (R E : List Nat) : List Nat := pms [R, E]
def slopeF (R E : List Nat) : List Nat := beh (dl (allF R E))
def sumsF (p : Nat) (V R E : List Nat) : List Nat := lowl p (pms [V, allF R E])
def dF (n p : Nat) (V R E : List Nat) : Nat → Nat := dAt n (allF R E) (slopeF R E) (sumsF p V R E)
def wordF (W : List Nat) (d : Nat → Nat) (k : Nat) : List Nat := tab W.length fun i => sq W i ^^^ if i < k then d i else 0
def atF (d : Nat → Nat) (k : Nat) : List Nat := (List.range k).filter fun i => decide (d i ≠ 0)
def othF (G : List Bool) (l : List Nat) : Nat := (l.filter fun i => !gAt G i).length

/-- What is mended: nothing of places that aren't there; the word and the places, or none. -/
inductive Md where
  | arg | bad | ok (m at_ : List Nat)
def markE (n : Nat) (er : List Int) : List Bool := setG (noneG n) er
def valsR (W : List Nat) (p : Nat) : List Nat := (vals W p).reverse
def toldF (p : Nat) (V E : List Nat) : List Nat := lowl p (pms [V, E])
def layW (n p : Nat) (W V R E : List Nat) : List Nat := wordF W (dF n p V R E) n
def layP (n p : Nat) (V R E : List Nat) : List Nat := atF (dF n p V R E) n
def mendF (seek : Nat → List Nat → Nat → List Nat) (n p : Nat) (W : List Nat) (er : List Int) : Md :=
  if inB n er = false then .arg
  else
    let G := markE n er
    let V := valsR W p
    let E := erF n G n
    let R := seek p (toldF p V E) (cnt G)
    let m := layW n p W V R E
    let l := layP n p V R E
    if allz (vals m p) = true ∧ cnt G ≤ p ∧ othF G l ≤ (p - cnt G) / 2 then .ok m l else .bad

end SolMath

/- A region that draws its order and writes again a slot that it reads. -/
namespace Go.Proofs.Ytkcnmiaedcenoaa
open Go.RowKit

section
variable {P : Program} {ops : Array Oper} {Q : Exit → Act → World → Prop}

theorem getD_tf' {l : Array Bool} {i : Nat} (h : i < l.size) : l.getD i true = l.getD i false := by simp [Array.getD, h]
/-- As region_invX; what an operation that waits for this one is to write still holds what it held. -/
theorem region_invY {id : Nat} {a : Act} {w : World} (D : List (Nat × Nat)) (φ : Nat → Value → World → Prop) (G : World → Prop) (hm : P.follows .mixedOrders = true)
    (hord : ordX ops = true) (hD1 : D.map (·.1) = List.range ops.size) (hD2 : (D.map (·.2)).Nodup) (hD3 : (D.all fun p => (ops[p.1]?.bind (·.dst)) == some p.2) = true) (hD4 : (D.all fun p => Nat.blt p.2 a.tmps.size) = true)
    (hmono : ∀ i v w w', φ i v w → Below w.heap.size w w' → φ i v w') (hG : G w.drew)
    (step : ∀ p ∈ D, ∀ u w, G w → Came ops φ u w p.1 → (∀ p' ∈ D, reachB ops ops.size p'.1 p.1 = true → u p'.1 = a.tmps.getD p'.2 undef) →
      wpOp P ops Q p.1 (fun a' w' => a'.defers = (puts D a u).defers ∧ φ p.1 (a'.tmps.getD p.2 undef) w' ∧ G w' ∧ Below w.heap.size w w') (puts D a u) w)
    (fin : ∀ u w, G w → (∀ p ∈ D, φ p.1 (u p.1) w) → Q .normal (puts D a u) w) : (Code.region id ops true).wp P Q a w := by
  refine wp_region_any hm ?_
  have hnd1 : (D.map (·.1)).Nodup := by rw [hD1]; exact List.nodup_range
  have key : ∀ (fuel : Nat) (listed : Array Bool) (w : World) (u : Nat → Value) (L : List Nat), listed.size = ops.size → L.length ≤ fuel → (∀ i, listed.getD i true = false → i ∈ L) → Anc ops listed → (∀ p ∈ D, listed.getD p.1 false = false → u p.1 = a.tmps.getD p.2 undef) → G w →
      (∀ i, i < ops.size → listed.getD i true = true → φ i (u i) w) → wpAny P .any ops Q fuel listed (puts D a u) w := by
    intro fuel
    induction fuel with
    | zero =>
      intro listed w u L hs hL hin hanc hold hg hφ
      have hall : ∀ i, listed.getD i true = true := fun i => by
        cases hi : listed.getD i true with
        | true => rfl
        | false => have := hin i hi; rw [List.length_eq_zero_iff.1 (Nat.le_zero.1 hL)] at this; cases this
      refine ⟨?_, fin u w hg fun p hp => hφ p.1 ?_ (hall _)⟩
      · rw [List.eq_nil_iff_forall_not_mem]
        intro i hi
        have := (mem_ready.1 hi).2.1
        rw [hall i] at this
        cases this
      · have : p.1 ∈ D.map (·.1) := List.mem_map.2 ⟨p, hp, rfl⟩
        rw [hD1] at this
        exact List.mem_range.1 this
    | succ fuel ih =>
      intro listed w u L hs hL hin hanc hold hg hφ
      refine ⟨fun hr => fin u w hg fun p hp => hφ p.1 ?_ (all_listedX hord hs hr _), fun i hi => ?_⟩
      · have : p.1 ∈ D.map (·.1) := List.mem_map.2 ⟨p, hp, rfl⟩
        rw [hD1] at this
        exact List.mem_range.1 this
      · obtain ⟨h1, h2, o, ho, h3⟩ := mem_ready.1 hi
        have hiD : i ∈ D.map (·.1) := by rw [hD1]; exact List.mem_range.2 h1
        obtain ⟨⟨i', d⟩, hp, rfl⟩ := List.mem_map.1 hiD
        have hst := step _ hp u w hg (fun o' ho' e he hb => by
          have heq : o' = o := Option.some.inj (ho'.symm.trans ho)
          subst heq
          have hl := h3 e he hb
          have hlt : e.on < ops.size := by
            rw [← hs]
            by_cases hl2 : e.on < listed.size
            · exact hl2
            · simp [Array.getD, hl2] at hl
          refine hφ e.on hlt ?_
          have hl2 : e.on < listed.size := by omega
          simpa [Array.getD, hl2] using hl) (fun p' hp' hr => by
            refine hold p' hp' ?_
            cases hl : listed.getD p'.1 false with
            | false => rfl
            | true =>
              have := reach_listed hanc ops.size p'.1 i' (fun o' ho' e he hb => hanc p'.1 o' ho' hl e he hb) hr
              have hii : i' < listed.size := by omega
              rw [← getD_tf' hii, h2] at this
              cases this)
        have hd3 := List.all_eq_true.1 hD3 _ hp
        have hd4 := List.all_eq_true.1 hD4 _ hp
        simp only [ho, Option.bind_some, beq_iff_eq] at hd3
        have hd5 : d < a.tmps.size := by simp [Nat.blt] at hd4; omega
        have hst2 := wpOp_value (R := fun v w' => φ i' v w' ∧ G w' ∧ Below w.heap.size w w') ho hd3 (by rw [puts_size]; exact hd5) hst
        clear hst
        refine wpOp_mono ?_ hst2
        rintro a' w' ⟨v, rfl, hv, hg', hb'⟩
        rw [puts_put u i' d v D a hnd1 hD2 hp]
        refine ih _ w' (upd u i' v) (L.erase i') (by simpa using hs) ?_ ?_ ?_ ?_ hg' ?_
        · rw [List.length_erase_of_mem (hin i' h2)]
          omega
        · intro j hj
          have hji : j ≠ i' := fun e => by
            subst e
            have : j < listed.size := by omega
            simp [Array.getD, this] at hj
          refine (List.mem_erase_of_ne hji).2 (hin j ?_)
          simp only [Array.getD] at hj ⊢
          split at hj
          · rename_i hl
            rw [Array.size_setIfInBounds] at hl
            rw [dif_pos hl]
            rwa [Array.getInternal_eq_getElem, Array.getElem_setIfInBounds_ne (h := Ne.symm hji)] at hj
          · cases hj
        · intro j o' ho' hl e he hb
          by_cases ej : i' = j
          · subst ej
            obtain rfl := Option.some.inj (ho'.symm.trans ho)
            have := h3 e he hb
            by_cases e2 : i' = e.on
            · rw [← e2, getD_set_self (by omega)]
            · rw [getD_set_other e2]; exact this
          · rw [getD_set_other ej] at hl
            have := hanc j o' ho' hl e he hb
            by_cases e2 : i' = e.on
            · rw [← e2, getD_set_self (by omega)]
            · rw [getD_set_other e2]; exact this
        · intro p' hp' hl
          have hne : i' ≠ p'.1 := fun e => by
            rw [← e, getD_set_self (by omega)] at hl
            cases hl
          rw [getD_set_other hne] at hl
          have e1 : upd u i' v p'.1 = u p'.1 := by simp [upd, Ne.symm hne]
          rw [e1]
          exact hold p' hp' hl
        · intro j hj hl
          by_cases hji : j = i'
          · subst hji
            simpa [upd] using hv
          · have e1 : upd u i' v j = u j := by simp [upd, hji]
            rw [e1]
            refine hmono j _ w w' (hφ j hj ?_) hb'
            have hl2 : j < listed.size := by omega
            simp only [Array.getD, Array.size_setIfInBounds, hl2, dif_pos, Array.getInternal_eq_getElem] at hl ⊢
            rwa [Array.getElem_setIfInBounds_ne (h := Ne.symm hji)] at hl
  have hu : ∃ u : Nat → Value, (∀ p ∈ D, u p.1 = a.tmps.getD p.2 undef) ∧ puts D a u = a := by
    suffices hsf : ∃ u : Nat → Value, ∀ p ∈ D, u p.1 = a.tmps.getD p.2 undef by
      obtain ⟨u, hu⟩ := hsf
      exact ⟨u, hu, puts_self u a D hu⟩
    refine ⟨fun i => ((D.find? fun p => p.1 == i).map fun p => a.tmps.getD p.2 undef).getD undef, fun p hp => ?_⟩
    have : D.find? (fun q => q.1 == p.1) = some p := by
      clear fin step hD2 hD1 hD3 hD4 key
      induction D with
      | nil => cases hp
      | cons q D ih =>
        rw [List.map_cons, List.nodup_cons] at hnd1
        rcases List.mem_cons.1 hp with rfl | hp
        · simp
        · have hne : (q.1 == p.1) = false := by
            rw [beq_eq_false_iff_ne]
            intro e
            exact hnd1.1 (List.mem_map.2 ⟨p, hp, e.symm⟩)
          rw [List.find?_cons, hne]
          exact ih hnd1.2 hp
    simp only [this, Option.map_some, Option.getD_some]
  obtain ⟨u, hu0, hu⟩ := hu
  have := key ops.size (Array.replicate ops.size false) w.drew u (List.range ops.size) (by simp) (by simp) (fun i hi => by
    rw [List.mem_range]
    by_cases hl : i < ops.size
    · exact hl
    · simp [Array.getD, hl] at hi) (fun i o _ hl => by
    have hfF : ∀ i, (Array.replicate ops.size false).getD i false = false := fun i => by
      by_cases h : i < ops.size <;> simp [Array.getD, h]
    rw [hfF] at hl; cases hl) (fun p hp _ => hu0 p hp) hG (fun i hi hl => by simp [Array.getD, hi] at hl)
  rw [hu] at this
  exact this

end

end Go.Proofs.Ytkcnmiaedcenoaa

/- A guarded operation whose guard holds, in a region that draws its order (for region_inv's steps). -/
namespace Go.Proofs.Ytkcnmiaedcenoaa
open Go.RowKit
section
variable {P : Program} {ops : Array Oper} {Q : Exit → Act → World → Prop}
theorem put_get (a : Act) (d : Nat) (v : Value) (hs : d < a.tmps.size) : (a.put (some d) v).tmps.getD d undef = v := by simp [Act.put, hs]
theorem put_get_ne (a : Act) (d e : Nat) (v : Value) (h : e ≠ d) : (a.put (some d) v).tmps.getD e undef = a.tmps.getD e undef := by
  simp only [Act.put, Array.getD_eq_getD_getElem?, Array.getElem?_setIfInBounds]
  rw [if_neg (fun e' => h e'.symm)]
theorem puts_get_out (u : Nat → Value) : ∀ (D : List (Nat × Nat)) (a : Act) (d : Nat), (∀ p ∈ D, p.2 ≠ d) → (puts D a u).tmps.getD d undef = a.tmps.getD d undef
  | [], _, _, _ => rfl
  | p :: D, a, d, h => by
    show (puts D (a.put (some p.2) (u p.1)) u).tmps.getD d undef = _
    rw [puts_get_out u D _ d fun q hq => h q (List.mem_cons_of_mem _ hq), put_get_ne _ _ _ _ (fun e => h p (List.mem_cons_self ..) e.symm)]
theorem puts_get (u : Nat → Value) (i d : Nat) : ∀ (D : List (Nat × Nat)) (a : Act), (D.map (·.2)).Nodup → (i, d) ∈ D → Nat.blt d a.tmps.size = true → (puts D a u).tmps.getD d undef = u i
  | p :: D, a, hn, hm, hs0 => by
    have hs : d < a.tmps.size := Nat.blt_eq ▸ hs0
    rw [List.map_cons, List.nodup_cons] at hn
    show (puts D (a.put (some p.2) (u p.1)) u).tmps.getD d undef = _
    rcases List.mem_cons.1 hm with rfl | hm
    · rw [puts_get_out u D _ d fun q hq e => hn.1 (List.mem_map.2 ⟨q, hq, e⟩), put_get _ _ _ hs]
    · exact puts_get u i d D _ hn.2 hm (by simpa [Act.put] using hs0)
theorem puts_room (u : Nat → Value) {D : List (Nat × Nat)} {a : Act} {d : Nat} (h : Nat.blt d a.tmps.size = true) : d < (puts D a u).tmps.size := by rw [puts_size]; exact Nat.blt_eq ▸ h
theorem wpOp_guard {i : Nat} {o : Oper} {a : Act} {w : World} {K : Act → World → Prop} (ho : ops[i]? = some o) (j d : Nat) (b : Bool) (hgd : o.guard = some (j, b)) (hd : (ops[j]?).bind (·.dst) = some d) (hs : d < a.tmps.size) (hv : a.tmps.getD d undef = .bool b)
    (h : ∀ K' : Act → World → Prop, (∀ a w, K a w → K' a w) → o.wp P a w K' Q) : wpOp P ops Q i K a w := by
  have hy : yielded ops a.tmps j = some b := by
    unfold yielded
    rw [hd]
    have : a.tmps[d]? = some (.bool b) := by
      rw [Array.getD_eq_getD_getElem?] at hv
      rw [Array.getElem?_eq_getElem hs] at hv ⊢
      simpa using hv
    simp [this]
  unfold wpOp
  rw [ho]
  show if Region.wanted o (yielded ops a.tmps) = true then _ else _
  rw [if_pos (by unfold Region.wanted; rw [hgd]; simp [hy])]
  exact .inl (h K fun _ _ h => h)
theorem wpOp_skip {i : Nat} {o : Oper} {a : Act} {w : World} {K : Act → World → Prop} (ho : ops[i]? = some o) (j d : Nat) (b : Bool) (hgd : o.guard = some (j, b)) (hd : (ops[j]?).bind (·.dst) = some d) (hs : d < a.tmps.size) (hv : a.tmps.getD d undef = .bool !b)
    (h : K (a.put o.dst undef) w) : wpOp P ops Q i K a w := by
  have hy : yielded ops a.tmps j = some !b := by
    unfold yielded
    rw [hd]
    have : a.tmps[d]? = some (.bool !b) := by
      rw [Array.getD_eq_getD_getElem?] at hv
      rw [Array.getElem?_eq_getElem hs] at hv ⊢
      simpa using hv
    simp [this]
  unfold wpOp
  rw [ho]
  show if Region.wanted o (yielded ops a.tmps) = true then _ else _
  rw [if_neg (by unfold Region.wanted; rw [hgd]; cases b <;> simp [hy])]
  exact h
end
end Go.Proofs.Ytkcnmiaedcenoaa

/- The contract of the document's Same (triptychref01), for layers beyond num. -/
namespace Go.Proofs.Ytkcnmiaedcenoaa
open Go.RowKit
set_option maxRecDepth 100000

theorem same_ints (a c : Option Addr) (ca cc : Nat) (l m : List Int) (w : World) (hl : l.length ≤ 1152921504606846976) (hm : m.length ≤ 1152921504606846976) (hr : Lies w w.heap.size a (ints l)) (hq : Lies w w.heap.size c (ints m)) :
    Calls Try.prog 10 #[.slice a l.length ca, .slice c m.length cc] w fun e w' => e = .returned (.bool (decide (l = m))) ∧ Below w.heap.size w w' := by
  by_cases hlen : l.length = m.length
  · have hb : ((l.length : Int) != (m.length : Int)) = false := by simp; omega
    have HL := Lib.hid hlen
    clear hlen
    go_enter Try.func10, Try.ntmps10
    go_wp2
    go_loopw [5] (fun i wr => ∃ k : Nat, k ≤ l.length ∧ i = .int .i64 k ∧ l.take k = m.take k ∧ Below w.heap.size w wr) (fun i _ => l.length - (intOf i).toNat)
    case atStart => exact ⟨0, Nat.zero_le _, rfl, rfl, Below.refl _ _⟩
    case round =>
      obtain ⟨k, hk, rfl, htk, hbw⟩ := hrel
      have HTK := Lib.hid htk
      clear htk
      by_cases hlt : k < l.length
      · have hlm : k < m.length := by have := HL.out; omega
        obtain ⟨b, off, rfl, hbb, hc⟩ := hr (by rw [ints_length]; omega)
        obtain ⟨d, of2, rfl, hdd, hd⟩ := hq (by rw [ints_length]; omega)
        have hcell : wr.cell? ⟨b, off + k, none⟩ = some (.int .i64 l[k]) := (hbw.cell (p := ⟨b, off + k, none⟩) hbb).trans <| hc k _ (ints_get l k hlt)
        have hcel2 : wr.cell? ⟨d, of2 + k, none⟩ = some (.int .i64 m[k]) := (hbw.cell (p := ⟨d, of2 + k, none⟩) hdd).trans <| hd k _ (ints_get m k hlm)
        clear hc hd hr hq
        have HT := Lib.hid (take_snoc l k hlt)
        have HT2 := Lib.hid (take_snoc m k hlm)
        by_cases he : l[k] = m[k]
        · have hne : (l[k] != m[k]) = false := by simp [he]
          have HE := Lib.hid he
          clear he
          go_wp2
          go_quiet (fail)
          go_wp2
          go_roundw
          case rel => exact ⟨k + 1, by omega, by go_num, by rw [HT.out, HT2.out, HTK.out, HE.out], hbw.drewN nq⟩
          case measure => simp [intOf]; omega
        · have hne : (l[k] != m[k]) = true := by simpa using he
          have HE : Hid (l ≠ m) := Lib.hid fun h => by subst h; exact he rfl
          clear he
          go_wp2
          go_quiet (fail)
          go_wp2
          go_ret
          exact ⟨ret_bool (decide_eq_false HE.out).symm, hbw.drewN nq⟩
      · have HE : Hid (l = m) := Lib.hid <| by
          have h1 := HTK.out
          rwa [List.take_of_length_le (by omega), List.take_of_length_le (by have := HL.out; omega)] at h1
        go_wp2
        go_ret
        exact ⟨ret_bool (decide_eq_true HE.out).symm, hbw⟩
  · have hb : ((l.length : Int) != (m.length : Int)) = true := by rw [bne_iff_ne]; omega
    have HE : Hid (l ≠ m) := Lib.hid fun h => hlen (by rw [h])
    clear hlen
    go_enter Try.func10, Try.ntmps10
    go_wp2
    go_ret
    exact ⟨ret_bool (decide_eq_false HE.out).symm, Below.refl _ _⟩

end Go.Proofs.Ytkcnmiaedcenoaa

/- The contract of the document's product. -/
namespace Go.Proofs.Ytkcnmiaedcenoaa
open Go.RowKit GfMath PolyMath
set_option linter.unusedVariables false

theorem info_int1 : (Try.prog.info? 3).map (·.size) = some 1 := by kernel_rfl
theorem nats_zero (N : Nat) : nats (List.replicate N 0) = List.replicate N (.int .i64 0) := by rw [nats, List.map_replicate]; rfl

end Go.Proofs.Ytkcnmiaedcenoaa

/- The walk of PolySums. -/
namespace Go.Proofs.Ytkcnmiaedcenoaa
open Go.RowKit GfMath PolyMath
set_option linter.unusedVariables false

def u8l (l : List Nat) : List UInt8 := l.map fun n => UInt8.ofNat n
theorem u8s_bytes {l : List Nat} (h : By l) : u8s l = bytes (u8l l) := by
  simp only [u8s, bytes, u8l, List.map_map]
  refine List.map_congr_left fun x hx => ?_
  have := h x hx
  simp only [Function.comp, UInt8.toNat_ofNat']
  congr 2
  omega
theorem u8l_length (l : List Nat) : (u8l l).length = l.length := by simp [u8l]
theorem conv_u8s {w : World} {B : Nat} {a : Option Addr} {l : List Nat} (hl : By l) (c : Nat) (h : Lies w B a (u8s l)) :
    (convert 22 9 (.slice a l.length c)).run Try.prog w = .ok (.string (str (u8l l))) w := by
  rw [u8s_bytes hl] at h
  cases a with
  | none =>
    by_cases h0 : l.length = 0
    · have : l = [] := List.eq_nil_of_length_eq_zero h0
      subst this
      exact run_convert_bytes_nil w _ _ Try.underlying22 Try.underlying5 _ _ _ Try.underlying9
    · obtain ⟨b, off, e, _⟩ := h (by rw [bytes_length, u8l_length]; omega)
      cases e
  | some ad =>
    have h2 := run_convert_bytes_back (P := Try.prog) w 22 9 5 ad c (u8l l) Try.underlying22 Try.underlying5 Try.underlying9 (fun j hj => by
      obtain ⟨b, off, e, _, h3⟩ := h (by rw [bytes_length]; omega)
      cases e
      rw [Addr.add_lit]
      exact h3 j _ (bytes_get _ j hj))
    rw [u8l_length] at h2
    exact h2
/-- The law's text of all polynomials. -/
def txt (ls : List (List Nat)) : ByteArray := str (ls.flatMap fun l => u8l l ++ [124])
theorem txt_snoc (ls : List (List Nat)) (l : List Nat) : txt (ls ++ [l]) = txt ls ++ (str (u8l l) ++ { data := #[124] }) := by
  have e : ({ data := #[124] } : ByteArray) = str [124] := rfl
  rw [e, str_append, txt, txt, str_append, List.flatMap_append, List.flatMap_cons, List.flatMap_nil, List.append_nil]
theorem txt_le (ls : List (List Nat)) (N : Nat) (h : ∀ l ∈ ls, l.length ≤ N) : (txt ls).size ≤ ls.length * (N + 1) := by
  rw [txt, str_size]
  induction ls with
  | nil => simp
  | cons l ls ih =>
    have h1 := ih fun y hy => h y (by simp [hy])
    have h2 := h l (by simp)
    rw [List.flatMap_cons, List.length_append, List.length_append, u8l_length, List.length_singleton, List.length_cons, Nat.add_mul]
    omega

end Go.Proofs.Ytkcnmiaedcenoaa

/- The document's example (awake); RsNone's walk. -/
namespace Go.Proofs.Ytkcnmiaedcenoaa
open Go.RowKit GfMath PolyMath RsMath
set_option linter.unusedVariables false

theorem code_12 : (code [1, 2] 2).take 2 = [1, 2] := by decide +kernel
theorem wrong_12 : allz (vals [1, 2, 0, 0] 2) = false := by decide +kernel
theorem by_12 : By [1, 2] := by_two (by omega) (by omega)

theorem laid_four (x y z t : Nat) (w : World) (ty : TypeId) : Lies (w.alloc (.cells #[.int .u8 (x : Int), .int .u8 (y : Int), .int .u8 (z : Int), .int .u8 (t : Int)] ty)) (w.alloc (.cells #[.int .u8 (x : Int), .int .u8 (y : Int), .int .u8 (z : Int), .int .u8 (t : Int)] ty)).heap.size (some ⟨w.heap.size, 0, none⟩) (u8s [x, y, z, t]) := Lies.new [_, _, _, _] w ty

end Go.Proofs.Ytkcnmiaedcenoaa

/- Contracts of the document's There, Values, Right. -/
namespace Go.Proofs.Ytkcnmiaedcenoaa
open Go.RowKit GfMath PolyMath RsMath
set_option linter.unusedVariables false

theorem there_yes (n k : Int) (w : World) (h : 1 ≤ k ∧ k < n ∧ n ≤ 255 ∧ n - k ≤ 64) : Calls Try.prog 5 #[.int .i64 n, .int .i64 k] w fun e w' => e = .returned (.bool true) ∧ w = w' := by
  obtain ⟨h1, h2, h3, h4⟩ := h
  have h5 : IntKind.i64.wrap (n - k) = n - k := by rw [IntKind.wrap_i64]; omega
  have h6 : ¬ 255 < n := by omega
  have h7 : ¬ 64 < n - k := by omega
  go_enter Try.func5, Try.ntmps5
  go_wp2
  go_ret
  exact ⟨rfl, rfl⟩
theorem there_no (n k : Int) (w : World) (h : ¬ (1 ≤ k ∧ k < n ∧ n ≤ 255 ∧ n - k ≤ 64)) : Calls Try.prog 5 #[.int .i64 n, .int .i64 k] w fun e w' => e = .returned (.bool false) ∧ w = w' := by
  by_cases h1 : 1 ≤ k
  · by_cases h2 : k < n
    · by_cases h3 : n ≤ 255
      · have h5 : IntKind.i64.wrap (n - k) = n - k := by rw [IntKind.wrap_i64]; omega
        have h7 : ¬ n - k ≤ 64 := by omega
        clear h
        go_enter Try.func5, Try.ntmps5
        go_wp2
        go_ret
        exact ⟨rfl, rfl⟩
      · clear h
        go_enter Try.func5, Try.ntmps5
        go_wp2
        go_ret
        exact ⟨rfl, rfl⟩
    · clear h
      go_enter Try.func5, Try.ntmps5
      go_wp2
      go_ret
      exact ⟨rfl, rfl⟩
  · clear h
    go_enter Try.func5, Try.ntmps5
    go_wp2
    go_ret
    exact ⟨rfl, rfl⟩

theorem ev_lo {l : List Nat} (hl : By l) {x : Nat} (hx : x < 256) : E (sq (lo l)) (lo l).length x = ev l x := by
  rw [← ev_beh hx hl, ev_E hx hl.beh, lo_length]
  exact E_congr fun k _ => by rw [sq_lo, cf_beh]
theorem gm_ex_two (i : Nat) : gm (ex i) 2 = ex (i + 1) := ex_add i 1
theorem vals_by {l : List Nat} (hl : By l) (p : Nat) : By (vals l p) := tab_by _ fun n _ => ev_lt hl (ex_lt n)
theorem vals_snoc (l : List Nat) (p : Nat) : vals l (p + 1) = vals l p ++ [ev l (ex p)] := tab_snoc p _

end Go.Proofs.Ytkcnmiaedcenoaa

/- RsValues' walk. -/
namespace Go.Proofs.Ytkcnmiaedcenoaa
open Go.RowKit GfMath PolyMath RsMath
set_option linter.unusedVariables false

theorem eql_bool_same (z : Bool) : (z == z) = true := by cases z <;> rfl

end Go.Proofs.Ytkcnmiaedcenoaa

/- In how many places two words differ. No program. -/
namespace RsMath
open GfMath PolyMath
set_option linter.unusedVariables false

def dif (A B : List Nat) : Nat → Nat
  | 0 => 0
  | i + 1 => dif A B i + if sq A i = sq B i then 0 else 1
theorem dif_le (A B : List Nat) : ∀ i, dif A B i ≤ i
  | 0 => Nat.le_refl _
  | i + 1 => by have := dif_le A B i; rw [dif]; split <;> omega
theorem dif_filter (A B : List Nat) : ∀ i, dif A B i = ((List.range i).filter fun j => (sq A j ^^^ sq B j) ≠ 0).length
  | 0 => rfl
  | i + 1 => by
    rw [dif, dif_filter A B i, List.range_succ, List.filter_append, List.length_append]
    congr 1
    by_cases h : sq A i = sq B i
    · rw [if_pos h, List.filter_cons, if_neg (by simp [h])]
      rfl
    · rw [if_neg h, List.filter_cons, if_pos (by simpa using xor_ne h)]
      rfl
theorem dif_supp (A B : List Nat) (h : A.length = B.length) : dif A B A.length = (supp (xl A B)).length := by
  rw [dif_filter, supp, xl_length]
  congr 1
  refine List.filter_congr fun j hj => ?_
  rw [xl, sq_tab, if_pos (List.mem_range.1 hj)]
theorem dif_zero (A B : List Nat) : ∀ i, dif A B i = 0 → ∀ j, j < i → sq A j = sq B j
  | 0, _, j, hj => absurd hj (by omega)
  | i + 1, h, j, hj => by
    rw [dif] at h
    by_cases e : sq A i = sq B i
    · rw [if_pos e] at h
      by_cases e2 : j = i
      · rw [e2]; exact e
      · exact dif_zero A B i h j (by omega)
    · rw [if_neg e] at h; omega
theorem dif_same (A : List Nat) : ∀ i, dif A A i = 0
  | 0 => rfl
  | i + 1 => by rw [dif, dif_same A i, if_pos rfl]
theorem sq_set (D : List Nat) (j v q : Nat) (hj : j < D.length) : sq (D.set j v) q = if q = j then v else sq D q := by
  by_cases e : q = j
  · subst e
    rw [if_pos rfl, sq_get _ _ (by simpa using hj)]
    simp
  · rw [if_neg e]
    by_cases hq : q < D.length
    · rw [sq_get _ _ (by simpa using hq), sq_get _ _ hq, List.getElem_set_ne (by omega)]
    · rw [sq_out _ _ (by simp; omega), sq_out _ _ (by omega)]
theorem dif_set_le (D B : List Nat) (j v : Nat) (hj : j < D.length) : ∀ i, i ≤ j → dif (D.set j v) B i = dif D B i
  | 0, _ => rfl
  | i + 1, h => by rw [dif, dif, dif_set_le D B j v hj i (by omega), sq_set D j v i hj, if_neg (show ¬ i = j by omega)]
theorem dif_set (D B : List Nat) (j v : Nat) (hj : j < D.length) (h1 : sq D j = sq B j) (h2 : v ≠ sq B j) : ∀ i, j < i → dif (D.set j v) B i = dif D B i + 1
  | i + 1, h => by
    rw [dif, dif, sq_set D j v i hj]
    by_cases e : i = j
    · subst e
      rw [if_pos (show i = i from rfl), dif_set_le D B i v hj i (Nat.le_refl _), if_pos h1, if_neg h2]
    · rw [if_neg (show ¬ i = j from e), dif_set D B j v hj h1 h2 i (by omega)]
      omega
theorem far_dif {a b : List Nat} {p : Nat} (ha : By a) (hb : By b) (hl : a.length = b.length) (hn : a.length ≤ 255) (hs : dif a b a.length ≤ p) (h0 : allz (vals a p) = true) (h1 : allz (vals b p) = true) : a = b :=
  far_two ha hb hl hn (by rw [← dif_supp a b hl]; exact hs) (allz_zero.1 h0) (allz_zero.1 h1)
theorem xl_right {a b : List Nat} {p : Nat} (ha : By a) (hb : By b) (hl : a.length = b.length) (h0 : allz (vals a p) = true) (h1 : allz (vals b p) = true) : allz (vals (xl a b) p) = true :=
  allz_zero.2 fun i hi => by rw [ev_xl ha hb hl, allz_zero.1 h0 i hi, allz_zero.1 h1 i hi]; rfl
theorem code_inj {X Y : List Nat} (hX : By X) (hY : By Y) {p : Nat} (hl : X.length = Y.length) (h : code X p = code Y p) : X = Y := by
  have h1 := congrArg (List.take X.length) h
  rw [code, code, List.take_left, hl, List.take_left] at h1
  exact h1

end RsMath

/- RsAny's walk. Generated by gen_rs_any.py. -/
namespace Go.Proofs.Ytkcnmiaedcenoaa
open Go.RowKit GfMath PolyMath RsMath
set_option linter.unusedVariables false

theorem reads_two {w : World} {cs : List Value} {x : List (List Int)} (h : Open.Reads w (.arr 2 (.sl 1 (.int .u8))) cs x) :
    ∃ (a : Option Addr) (ca : Nat) (X : List Nat) (c : Option Addr) (cc : Nat) (Y : List Nat), cs = [.slice a X.length ca, .slice c Y.length cc] ∧
      By X ∧ Lies w w.heap.size a (u8s X) ∧ X.length ≤ ca ∧ ca ≤ 140737488351232 ∧ By Y ∧ Lies w w.heap.size c (u8s Y) ∧ Y.length ≤ cc ∧ cc ≤ 140737488351232 := by
  obtain ⟨h1, h2, h3⟩ := h
  have hl : cs.length = 2 := h2
  match cs, hl with
  | [s, t], _ =>
    have q0 := h3 0 (by omega)
    have q1 := h3 1 (by omega)
    obtain ⟨a, ca, X, e1, _, e2, e3, e4, e5⟩ := reads_u8s q0
    obtain ⟨c, cc, Y, g1, _, g2, g3, g4, g5⟩ := reads_u8s q1
    have e1' : s = .slice a X.length ca := by simpa [Open.Ty.size] using e1
    have g1' : t = .slice c Y.length cc := by simpa [Open.Ty.size] using g1
    exact ⟨a, ca, X, c, cc, Y, by rw [e1', g1'], e2, e3, e4, e5 (by omega), g2, g3, g4, g5 (by omega)⟩

/-- The variable that holds the two. -/
theorem pair_laid (w : World) (x y : Value) (t : TypeId) : ∃ u, u = w.alloc (.cells #[x, y] t) ∧ u.cell? ⟨w.heap.size, 0, none⟩ = some x ∧ u.cell? ⟨w.heap.size, 1, none⟩ = some y ∧ Below w.heap.size w u ∧ w.heap.size < u.heap.size := by
  have r1 : Row (w.alloc (.cells #[x, y] t)) w.heap.size t [x, y] := Row.new w t [x, y]
  exact ⟨_, rfl, by rw [r1.cell]; rfl, by rw [r1.cell]; rfl, alloc_below _ _, by simp⟩

theorem enc_row (c b k p : Nat) (a : Option Addr) (cap : Nat) (X : List Nat) (w : World) (h : Cod w c b k p) (hl : X.length = k) (hby : By X) (hcap : X.length ≤ cap) (hcap2 : cap ≤ 140737488351232) (hr : Lies w w.heap.size a (u8s X)) :
    Calls Try.prog 11 #[.pointer (some ⟨c, 0, none⟩), .slice a k cap] w fun e w' =>
      (∃ g c2 ys, e = .returned (.tuple #[.slice (some ⟨g, 0, none⟩) (k + p) c2, .int .i64 0]) ∧ w.heap.size ≤ g ∧ k + p ≤ c2 ∧ Row w' g 5 (u8s (code X p) ++ ys)) ∧ Below w.heap.size w w' :=
  (enc_any c b k p a cap X w h hl hby hcap hcap2 hr).mono fun e w' ⟨⟨g, c2, h1, h2, h3⟩, h4⟩ => by
    obtain ⟨_, ys, h5⟩ := own_row h3
    exact ⟨⟨g, c2, ys, h1, h2, (own_lies h3).2, h5⟩, h4⟩
theorem lies_front {w : World} {g : Nat} {t : TypeId} {xs ys : List Value} (h : Row w g t (xs ++ ys)) : Lies w w.heap.size (some ⟨g, 0, none⟩) xs := fun _ => ⟨g, 0, rfl, h.lt, fun j u hu => by
  rw [Nat.zero_add, h.cell, List.getElem?_append_left (List.getElem?_eq_some_iff.1 hu).1]; exact hu⟩
theorem dec_nat (m : Nat) : decide (m = 0) = ((m : Int) == 0) := by
  cases m with
  | zero => rfl
  | succ m => rw [decide_eq_false (by omega)]; exact (beq_false_of_ne (by omega)).symm
theorem u8_xor {a b : Nat} (ha : a < 256) (hb : b < 256) : bits .xor .u8 (a : Int) (b : Int) = ((a ^^^ b : Nat) : Int) := u8_xor_nat a b ha hb

end Go.Proofs.Ytkcnmiaedcenoaa

/- RsFar's walk. Generated by gen_rs_far.py. -/
namespace Go.Proofs.Ytkcnmiaedcenoaa
open Go.RowKit GfMath PolyMath RsMath
set_option linter.unusedVariables false

/-- Bytes as a string. -/
theorem rs_conv_u8s (a : Option Addr) (cap : Nat) (L : List Nat) (B : Nat) (u : World) (hL : By L) (h0 : 0 < L.length) (hr : Lies u B a (u8s L)) :
    (convert 22 9 (.slice a L.length cap)).run Try.prog u = .ok (.string (str (L.map UInt8.ofNat))) u := by
  obtain ⟨b, o, rfl, _, hc⟩ := hr (by rw [u8s_length]; exact h0)
  refine conv_bytes b o cap (L.map UInt8.ofNat) L.length u (by simp) fun j hj => ?_
  have hj2 : j < L.length := by simpa using hj
  rw [hc j _ (u8s_get L j hj2)]
  have h8 := hL _ (List.getElem_mem hj2)
  simp only [List.getElem_map]
  rw [UInt8.toNat_ofNat', Nat.mod_eq_of_lt (by omega)]

end Go.Proofs.Ytkcnmiaedcenoaa

/- Equations over the field, solved step by step: rows as functions of the column, the right side in column m. No program. -/
namespace RsMath
open GfMath PolyMath
set_option linter.unusedVariables false

def dotf (r v : Nat → Nat) (m : Nat) : Nat := xs (fun c => gm (r c) (v c)) m
def Solf (F : Nat → Nat → Nat) (H m : Nat) (v : Nat → Nat) : Prop := ∀ i, i < H → dotf (F i) v m = F i m
def swapf (F : Nat → Nat → Nat) (a b : Nat) : Nat → Nat → Nat := fun i => if i = a then F b else if i = b then F a else F i
def scalef (F : Nat → Nat → Nat) (j : Nat) : Nat → Nat → Nat := fun i c => if i = j then gm (F j c) (iv (F j j)) else F i c
def elimf (F : Nat → Nat → Nat) (j : Nat) : Nat → Nat → Nat := fun i c => if i = j then F j c else F i c ^^^ gm (F i j) (F j c)
def Byf (F : Nat → Nat → Nat) : Prop := ∀ i c, F i c < 256
def Uni (F : Nat → Nat → Nat) (H j : Nat) : Prop := ∀ c, c < j → ∀ i, i < H → F i c = if i = c then 1 else 0

theorem byf_swap {F : Nat → Nat → Nat} (h : Byf F) (a b : Nat) : Byf (swapf F a b) := fun i c => by unfold swapf; split; exact h _ _; split; exact h _ _; exact h _ _
theorem byf_scale {F : Nat → Nat → Nat} (h : Byf F) (j : Nat) : Byf (scalef F j) := fun i c => by unfold scalef; split; exact gm_lt (h _ _) (iv_lt _); exact h _ _
theorem byf_elim {F : Nat → Nat → Nat} (h : Byf F) (j : Nat) : Byf (elimf F j) := fun i c => by unfold elimf; split; exact h _ _; exact xor_lt (h _ _) (gm_lt (h _ _) (h _ _))
theorem dotf_lt {r v : Nat → Nat} (hr : ∀ c, r c < 256) (hv : ∀ c, v c < 256) (m : Nat) : dotf r v m < 256 := xs_lt m fun i _ => gm_lt (hr i) (hv i)

theorem sol_swap {F : Nat → Nat → Nat} {H m a b : Nat} (ha : a < H) (hb : b < H) (v : Nat → Nat) : Solf (swapf F a b) H m v ↔ Solf F H m v := by
  constructor
  · intro h i hi
    by_cases h1 : i = a
    · have := h b hb
      unfold swapf at this
      by_cases h2 : b = a
      · rw [if_pos h2, h2, ← h1] at this; exact this
      · rw [if_neg h2, if_pos rfl] at this; rw [h1]; exact this
    · by_cases h2 : i = b
      · have := h a ha
        unfold swapf at this
        rw [if_pos rfl] at this
        rw [h2]; exact this
      · have := h i hi
        unfold swapf at this
        rw [if_neg h1, if_neg h2] at this
        exact this
  · intro h i hi
    unfold swapf
    by_cases h1 : i = a
    · rw [if_pos h1]; exact h b hb
    · rw [if_neg h1]
      by_cases h2 : i = b
      · rw [if_pos h2]; exact h a ha
      · rw [if_neg h2]; exact h i hi

theorem dot_scale {F : Nat → Nat → Nat} (hF : Byf F) {v : Nat → Nat} (hv : ∀ c, v c < 256) (j m : Nat) (s : Nat) (hs : s < 256) : dotf (fun c => gm (F j c) s) v m = gm (dotf (F j) v m) s := by
  unfold dotf
  rw [xs_gm_right]
  refine xs_congr m fun c _ => ?_
  rw [gm_assoc (hF _ _) hs (hv c), gm_comm hs (hv c), ← gm_assoc (hF _ _) (hv c) hs]
theorem gm_right_cancel {a b c : Nat} (ha : a < 256) (hb : b < 256) (hc : c < 256) (h0 : c ≠ 0) (h : gm a c = gm b c) : a = b := by
  rw [gm_comm ha hc, gm_comm hb hc] at h
  exact gm_cancel hc ha hb h0 h
theorem iv_ne {a : Nat} (ha : a < 256) (h0 : a ≠ 0) : iv a ≠ 0 := fun e => by
  have := gm_iv ha h0
  rw [e, gm_zero_right] at this
  cases this
theorem sol_scale {F : Nat → Nat → Nat} (hF : Byf F) {H m j : Nat} (hj : j < H) (h0 : F j j ≠ 0) {v : Nat → Nat} (hv : ∀ c, v c < 256) : Solf (scalef F j) H m v ↔ Solf F H m v := by
  have hs : iv (F j j) < 256 := iv_lt _
  have key : dotf (scalef F j j) v m = gm (dotf (F j) v m) (iv (F j j)) := by
    rw [← dot_scale hF hv j m _ hs]
    exact xs_congr m fun c _ => by unfold scalef; rw [if_pos rfl]
  have other : ∀ i, i ≠ j → scalef F j i = F i := fun i hi => funext fun c => by unfold scalef; rw [if_neg hi]
  have rhs : scalef F j j m = gm (F j m) (iv (F j j)) := by unfold scalef; rw [if_pos rfl]
  constructor
  · intro h i hi
    by_cases e : i = j
    · subst e
      have := h i hi
      rw [key, rhs] at this
      exact gm_right_cancel (dotf_lt (hF i) hv m) (hF i m) hs (iv_ne (hF i i) h0) this
    · have := h i hi
      rw [other i e] at this
      exact this
  · intro h i hi
    by_cases e : i = j
    · subst e
      rw [key, rhs, h i hi]
    · rw [other i e]; exact h i hi

theorem sol_elim {F : Nat → Nat → Nat} (hF : Byf F) {H m j : Nat} (hj : j < H) {v : Nat → Nat} (hv : ∀ c, v c < 256) : Solf (elimf F j) H m v ↔ Solf F H m v := by
  have self : elimf F j j = F j := funext fun c => by unfold elimf; rw [if_pos rfl]
  have key : ∀ i, i ≠ j → dotf (elimf F j i) v m = dotf (F i) v m ^^^ gm (F i j) (dotf (F j) v m) := fun i hi => by
    unfold dotf
    rw [xs_gm, ← xs_xor]
    refine xs_congr m fun c _ => ?_
    unfold elimf
    rw [if_neg hi, gm_add_left, gm_assoc (hF _ _) (hF _ _) (hv c)]
  have rhs : ∀ i, i ≠ j → elimf F j i m = F i m ^^^ gm (F i j) (F j m) := fun i hi => by unfold elimf; rw [if_neg hi]
  have back : ∀ a b c : Nat, a ^^^ c = b ^^^ c → a = b := fun a b c h => by
    have := congrArg (· ^^^ c) h
    simpa [Nat.xor_assoc] using this
  constructor
  · intro h
    have hjj : dotf (F j) v m = F j m := by have := h j hj; rw [self] at this; exact this
    intro i hi
    by_cases e : i = j
    · rw [e]; exact hjj
    · have := h i hi
      rw [key i e, rhs i e, hjj] at this
      exact back _ _ _ this
  · intro h i hi
    by_cases e : i = j
    · rw [e, self]; exact h j hj
    · rw [key i e, rhs i e, h i hi, h j hj]

/-- One column: the pivot's row comes to its place, is scaled, and the column is cleared. -/
def stepf (F : Nat → Nat → Nat) (j at_ : Nat) : Nat → Nat → Nat := elimf (scalef (swapf F j at_) j) j
theorem byf_step {F : Nat → Nat → Nat} (h : Byf F) (j a : Nat) : Byf (stepf F j a) := byf_elim (byf_scale (byf_swap h _ _) _) _
theorem swap_at (F : Nat → Nat → Nat) (j a : Nat) : swapf F j a j = F a := by unfold swapf; rw [if_pos rfl]
theorem sol_step {F : Nat → Nat → Nat} (hF : Byf F) {H m j a : Nat} (hj : j < H) (ha : a < H) (h0 : F a j ≠ 0) {v : Nat → Nat} (hv : ∀ c, v c < 256) : Solf (stepf F j a) H m v ↔ Solf F H m v := by
  have hS := byf_swap hF j a
  rw [stepf, sol_elim (byf_scale hS j) hj hv, sol_scale hS hj (by rw [swap_at]; exact h0) hv, sol_swap hj ha]
theorem uni_step {F : Nat → Nat → Nat} (hF : Byf F) {H j a : Nat} (hj : j < H) (hja : j ≤ a) (ha : a < H) (h0 : F a j ≠ 0) (hU : Uni F H j) : Uni (stepf F j a) H (j + 1) := by
  have hS := byf_swap hF j a
  intro c hc i hi
  by_cases hcj : c = j
  · subst hcj
    have hp : scalef (swapf F c a) c c c = 1 := by
      unfold scalef
      rw [if_pos rfl, swap_at]
      exact gm_iv (hF a c) h0
    unfold stepf elimf
    by_cases e : i = c
    · subst e
      rw [if_pos rfl, if_pos rfl, hp]
    · rw [if_neg e, if_neg e, hp, gm_one (byf_scale hS c i c), Nat.xor_self]
  · have hc2 : c < j := by omega
    have hz : scalef (swapf F j a) j j c = 0 := by
      unfold scalef
      rw [if_pos rfl, swap_at, hU c hc2 a ha, if_neg (by omega), gm_zero_left]
    have hsame : swapf F j a i c = if i = c then 1 else 0 := by
      unfold swapf
      by_cases h1 : i = j
      · rw [if_pos h1, hU c hc2 a ha, if_neg (by omega), if_neg (by omega)]
      · rw [if_neg h1]
        by_cases h2 : i = a
        · rw [if_pos h2, hU c hc2 j hj, if_neg (by omega), if_neg (by omega)]
        · rw [if_neg h2]; exact hU c hc2 i hi
    unfold stepf elimf
    by_cases e : i = j
    · rw [if_pos e, hz, if_neg (by omega)]
    · rw [if_neg e, hz, gm_zero_right, Nat.xor_zero]
      unfold scalef
      rw [if_neg e]
      exact hsame

theorem xs_one (f : Nat → Nat) (m i : Nat) (hi : i < m) (h0 : ∀ c, c < m → c ≠ i → f c = 0) : xs f m = f i := by
  rw [show m = i + (1 + (m - i - 1)) by omega, xs_split, xs_zero i fun c hc => h0 c (by omega) (by omega), Nat.zero_xor, xs_split, xs_zero (m - i - 1) fun c hc => h0 (i + (1 + c)) (by omega) (by omega), Nat.xor_zero]
  show 0 ^^^ f (i + 0) = f i
  rw [Nat.zero_xor]
  rfl
/-- All columns cleared: the solution is the right side. -/
theorem uni_end {F : Nat → Nat → Nat} {H m : Nat} (hU : Uni F H m) (hm : m ≤ H) {v : Nat → Nat} (hv : ∀ c, v c < 256) :
    Solf F H m v ↔ (∀ i, i < m → v i = F i m) ∧ ∀ i, m ≤ i → i < H → F i m = 0 := by
  have hlow : ∀ i, i < m → dotf (F i) v m = v i := fun i hi => by
    unfold dotf
    rw [xs_one _ m i hi fun c hc hne => by rw [hU c hc i (by omega), if_neg (fun e => hne e.symm), gm_zero_left], hU i hi i (by omega), if_pos rfl, gm_one_left (hv i)]
  have hhigh : ∀ i, m ≤ i → i < H → dotf (F i) v m = 0 := fun i hi hi2 => xs_zero m fun c hc => by rw [hU c hc i hi2, if_neg (by omega), gm_zero_left]
  constructor
  · intro h
    exact ⟨fun i hi => by rw [← h i (by omega), hlow i hi], fun i hi hi2 => by rw [← h i hi2, hhigh i hi hi2]⟩
  · intro h i hi
    by_cases hc : i < m
    · rw [hlow i hc]; exact h.1 i hc
    · rw [hhigh i (by omega) hi, h.2 i (by omega) hi]
/-- A column without a pivot: each solution has another one beside it. -/
theorem uni_none {F : Nat → Nat → Nat} (hF : Byf F) {H m j : Nat} (hU : Uni F H j) (hj : j < m) (h0 : ∀ i, j ≤ i → i < H → F i j = 0) {v : Nat → Nat} (hv : ∀ c, v c < 256) (hs : Solf F H m v) :
    ∃ v' : Nat → Nat, (∀ c, v' c < 256) ∧ Solf F H m v' ∧ v' j ≠ v j := by
  let d : Nat → Nat := fun c => if c = j then 1 else if c < j ∧ c < H then F c j else 0
  have hd8 : ∀ c, d c < 256 := fun c => by show (if c = j then 1 else if c < j ∧ c < H then F c j else 0) < 256; split; omega; split; exact hF _ _; omega
  have hd : ∀ i, i < H → dotf (F i) d m = 0 := fun i hi => by
    unfold dotf
    rw [show m = j + (1 + (m - j - 1)) by omega, xs_split, xs_split]
    have e3 : xs (fun i_1 => gm (F i (j + (1 + i_1))) (d (j + (1 + i_1)))) (m - j - 1) = 0 := xs_zero _ fun c _ => by
      have : d (j + (1 + c)) = 0 := by show (if j + (1 + c) = j then 1 else if j + (1 + c) < j ∧ _ then _ else 0) = 0; rw [if_neg (by omega), if_neg (by omega)]
      rw [this, gm_zero_right]
    have e2 : xs (fun i_1 => gm (F i (j + i_1)) (d (j + i_1))) 1 = F i j := by
      show 0 ^^^ gm (F i (j + 0)) (d (j + 0)) = _
      have : d (j + 0) = 1 := by show (if j + 0 = j then 1 else _) = 1; rw [if_pos (show j + 0 = j from rfl)]
      rw [this, Nat.zero_xor, gm_one (hF _ _)]
      rfl
    rw [e3, Nat.xor_zero, e2]
    by_cases hij : i < j
    · have e1 : xs (fun c => gm (F i c) (d c)) j = F i j := by
        rw [xs_one _ j i hij fun c hc hne => by rw [hU c hc i hi, if_neg (fun e => hne e.symm), gm_zero_left], hU i hij i hi, if_pos rfl]
        have : d i = F i j := by show (if i = j then 1 else if i < j ∧ i < H then F i j else 0) = _; rw [if_neg (by omega), if_pos ⟨hij, hi⟩]
        rw [this, gm_one_left (hF _ _)]
      rw [e1, Nat.xor_self]
    · have e1 : xs (fun c => gm (F i c) (d c)) j = 0 := xs_zero _ fun c hc => by rw [hU c hc i hi, if_neg (by omega), gm_zero_left]
      rw [e1, h0 i (by omega) hi]
      rfl
  refine ⟨fun c => v c ^^^ d c, fun c => xor_lt (hv c) (hd8 c), fun i hi => ?_, ?_⟩
  · have : dotf (F i) (fun c => v c ^^^ d c) m = dotf (F i) v m ^^^ dotf (F i) d m := by
      unfold dotf
      rw [← xs_xor]
      exact xs_congr m fun c _ => gm_add_right _ _ _
    rw [this, hd i hi, Nat.xor_zero, hs i hi]
  · show v j ^^^ d j ≠ v j
    have : d j = 1 := by show (if j = j then 1 else _) = 1; rw [if_pos rfl]
    rw [this]
    intro e
    have h5 : v j ^^^ (v j ^^^ 1) = 0 := by rw [e, Nat.xor_self]
    rw [← Nat.xor_assoc, Nat.xor_self, Nat.zero_xor] at h5
    cases h5

/-- The first row from j on whose factor in column j isn't 0; H: there is none. -/
def pivf (F : Nat → Nat → Nat) (H j : Nat) : Nat → Nat
  | 0 => H
  | n + 1 => if F (H - (n + 1)) j ≠ 0 then H - (n + 1) else pivf F H j n
theorem pivf_spec (F : Nat → Nat → Nat) (H j : Nat) : ∀ n, n ≤ H → (pivf F H j n = H ∧ ∀ i, H - n ≤ i → i < H → F i j = 0) ∨ (H - n ≤ pivf F H j n ∧ pivf F H j n < H ∧ F (pivf F H j n) j ≠ 0 ∧ ∀ i, H - n ≤ i → i < pivf F H j n → F i j = 0)
  | 0, _ => Or.inl ⟨rfl, fun i h1 h2 => by omega⟩
  | n + 1, hn => by
    unfold pivf
    by_cases h : F (H - (n + 1)) j ≠ 0
    · rw [if_pos h]
      exact Or.inr ⟨by omega, by omega, h, fun i h1 h2 => by omega⟩
    · rw [if_neg h]
      have hz : F (H - (n + 1)) j = 0 := Classical.not_not.1 h
      have ext : ∀ b, (∀ i, H - n ≤ i → i < b → F i j = 0) → ∀ i, H - (n + 1) ≤ i → i < b → F i j = 0 := fun b hb i h1 h2 => by
        by_cases e : i = H - (n + 1)
        · rw [e]; exact hz
        · exact hb i (by omega) h2
      rcases pivf_spec F H j n (by omega) with h1 | h1
      · exact Or.inl ⟨h1.1, ext H h1.2⟩
      · exact Or.inr ⟨by omega, h1.2.1, h1.2.2.1, ext _ h1.2.2.2⟩
/-- The first j columns. -/
def gs (F : Nat → Nat → Nat) (H : Nat) : Nat → Option (Nat → Nat → Nat)
  | 0 => some F
  | j + 1 => (gs F H j).bind fun G => if pivf G H j (H - j) < H then some (stepf G j (pivf G H j (H - j))) else none
theorem gs_some {F : Nat → Nat → Nat} (hF : Byf F) {H : Nat} : ∀ (j : Nat) (G : Nat → Nat → Nat), gs F H j = some G → j ≤ H ∧ Byf G ∧ Uni G H j ∧ ∀ m v, (∀ c, v c < 256) → (Solf G H m v ↔ Solf F H m v)
  | 0, G, h => by
    cases h
    exact ⟨Nat.zero_le _, hF, fun c hc => absurd hc (by omega), fun _ _ _ => Iff.rfl⟩
  | j + 1, G, h => by
    unfold gs at h
    cases hq : gs F H j with
    | none => rw [hq] at h; cases h
    | some E =>
      rw [hq] at h
      obtain ⟨h1, h2, h3, h4⟩ := gs_some hF j E hq
      simp only [Option.bind_some] at h
      by_cases hp : pivf E H j (H - j) < H
      · rw [if_pos hp] at h
        cases h
        have hj : j < H := by
          rcases pivf_spec E H j (H - j) (by omega) with q | q
          · omega
          · omega
        rcases pivf_spec E H j (H - j) (by omega) with q | q
        · omega
        · exact ⟨by omega, byf_step h2 _ _, uni_step h2 hj (by omega) q.2.1 q.2.2.1 h3, fun m v hv => by rw [sol_step h2 hj q.2.1 q.2.2.1 hv]; exact h4 m v hv⟩
      · rw [if_neg hp] at h; cases h
/-- No way on: each solution has another one. -/
theorem gs_none {F : Nat → Nat → Nat} (hF : Byf F) {H m : Nat} : ∀ j, j ≤ m → gs F H j = none → ∀ v : Nat → Nat, (∀ c, v c < 256) → Solf F H m v → ∃ v' : Nat → Nat, (∀ c, v' c < 256) ∧ Solf F H m v' ∧ ∃ c, c < m ∧ v' c ≠ v c
  | 0, _, h => by cases h
  | j + 1, hjm, h => fun v hv hs => by
    cases hq : gs F H j with
    | none => exact gs_none hF j (by omega) hq v hv hs
    | some E =>
      obtain ⟨h1, h2, h3, h4⟩ := gs_some hF j E hq
      unfold gs at h
      rw [hq] at h
      simp only [Option.bind_some] at h
      by_cases hp : pivf E H j (H - j) < H
      · rw [if_pos hp] at h; cases h
      · have hz : ∀ i, j ≤ i → i < H → E i j = 0 := by
          rcases pivf_spec E H j (H - j) (by omega) with q | q
          · intro i hi hi2; exact q.2 i (by omega) hi2
          · omega
        obtain ⟨v', g1, g2, g3⟩ := uni_none h2 h3 (by omega) hz hv ((h4 m v hv).2 hs)
        exact ⟨v', g1, (h4 m v' g1).1 g2, j, by omega, g3⟩

end RsMath

/- The bytes at some places that make a word right: the document's Solve, as a function. No program. -/
namespace RsMath
open GfMath PolyMath
set_option linter.unusedVariables false

theorem ev_set {D : List Nat} (hD : By D) {q x : Nat} (hq : q < D.length) (hx : x < 256) (h0 : sq D q = 0) (i : Nat) : ev (D.set q x) (ex i) = ev D (ex i) ^^^ gm x (ex (i * (D.length - 1 - q))) := by
  have hS : By (D.set q x) := fun z hz => by
    rcases List.mem_or_eq_of_mem_set hz with h | h
    · exact hD z h
    · rw [h]; exact hx
  rw [ev_places hS, ev_places hD, List.length_set]
  have h1 : gm x (ex (i * (D.length - 1 - q))) = xs (fun j => gm (if j = q then x else 0) (ex (i * (D.length - 1 - j)))) D.length := by
    rw [xs_one _ D.length q hq fun c _ hne => by rw [if_neg hne, gm_zero_left], if_pos rfl]
  rw [h1, ← xs_xor]
  refine xs_congr _ fun j hj => ?_
  rw [← gm_add_left, sq_set D q x j hq]
  by_cases e : j = q
  · rw [if_pos e, if_pos e, e, h0, Nat.zero_xor]
  · rw [if_neg e, if_neg e, Nat.xor_zero]

/-- The first j places filled. -/
def fillk (R Pl : List Nat) (v : Nat → Nat) : Nat → List Nat
  | 0 => R
  | j + 1 => (fillk R Pl v j).set (sq Pl j) (v j)
theorem fillk_length (R Pl : List Nat) (v : Nat → Nat) : ∀ j, (fillk R Pl v j).length = R.length
  | 0 => rfl
  | j + 1 => by rw [fillk, List.length_set, fillk_length R Pl v j]
theorem fillk_by {R : List Nat} (Pl : List Nat) {v : Nat → Nat} (hR : By R) (hv : ∀ c, v c < 256) : ∀ j, By (fillk R Pl v j)
  | 0 => hR
  | j + 1 => fun z hz => by
    rcases List.mem_or_eq_of_mem_set hz with h | h
    · exact fillk_by Pl hR hv j z h
    · rw [h]; exact hv j
theorem fillk_out (R Pl : List Nat) (v : Nat → Nat) (q : Nat) : ∀ j, (∀ c, c < j → sq Pl c ≠ q) → (∀ c, c < j → sq Pl c < R.length) → sq (fillk R Pl v j) q = sq R q
  | 0, _, _ => rfl
  | j + 1, h, hl => by
    rw [fillk, sq_set _ _ _ _ (by rw [fillk_length]; exact hl j (by omega)), if_neg (fun e => h j (by omega) e.symm)]
    exact fillk_out R Pl v q j (fun c hc => h c (by omega)) fun c hc => hl c (by omega)
theorem fillk_in (R Pl : List Nat) (v : Nat → Nat) : ∀ j, (∀ a b, a < b → b < j → sq Pl a ≠ sq Pl b) → (∀ c, c < j → sq Pl c < R.length) → ∀ c, c < j → sq (fillk R Pl v j) (sq Pl c) = v c
  | 0, _, _, c, hc => absurd hc (by omega)
  | j + 1, h, hl, c, hc => by
    rw [fillk, sq_set _ _ _ _ (by rw [fillk_length]; exact hl j (by omega))]
    by_cases e : c = j
    · rw [e, if_pos rfl]
    · rw [if_neg (h c j (by omega) (by omega))]
      exact fillk_in R Pl v j (fun a b hab hb => h a b hab (by omega)) (fun c hc => hl c (by omega)) c (by omega)
theorem ev_fill {R Pl : List Nat} {v : Nat → Nat} (hR : By R) (hv : ∀ c, v c < 256) (i : Nat) : ∀ j, (∀ a b, a < b → b < j → sq Pl a ≠ sq Pl b) → (∀ c, c < j → sq Pl c < R.length ∧ sq R (sq Pl c) = 0) →
    ev (fillk R Pl v j) (ex i) = ev R (ex i) ^^^ xs (fun c => gm (ex (i * (R.length - 1 - sq Pl c))) (v c)) j
  | 0, _, _ => by rw [fillk]; exact (Nat.xor_zero _).symm
  | j + 1, h, hl => by
    have hz : sq (fillk R Pl v j) (sq Pl j) = 0 := by
      rw [fillk_out R Pl v _ j (fun c hc => h c j hc (by omega)) fun c hc => (hl c (by omega)).1]
      exact (hl j (by omega)).2
    rw [fillk, ev_set (fillk_by Pl hR hv j) (by rw [fillk_length]; exact (hl j (by omega)).1) (hv j) hz, ev_fill hR hv i j (fun a b hab hb => h a b hab (by omega)) (fun c hc => hl c (by omega)), fillk_length, Nat.xor_assoc, gm_comm (hv j) (ex_lt _)]
    rfl

/-- Unlike places of a word. -/
structure Plc (Pl : List Nat) (n : Nat) : Prop where
  lt : ∀ c, c < Pl.length → sq Pl c < n
  ne : ∀ a b, a < b → b < Pl.length → sq Pl a ≠ sq Pl b
/-- A word, 0 at some places. -/
def zerow (W Pl : List Nat) : List Nat := fillk W Pl (fun _ => 0) Pl.length
theorem zerow_length (W Pl : List Nat) : (zerow W Pl).length = W.length := fillk_length _ _ _ _
theorem zerow_by {W : List Nat} (Pl : List Nat) (hW : By W) : By (zerow W Pl) := fillk_by Pl hW (fun _ => by omega) _
/-- The equations: a row for each value that must be 0. -/
def mat (R Pl : List Nat) : Nat → Nat → Nat := fun i c => if c = Pl.length then ev R (ex i) else ex (i * (R.length - 1 - sq Pl c))
theorem mat_by {R : List Nat} (Pl : List Nat) (hR : By R) : Byf (mat R Pl) := fun i c => by unfold mat; split; exact ev_lt hR (ex_lt i); exact ex_lt _
theorem xor_zero_iff {a b : Nat} : a ^^^ b = 0 ↔ b = a := by
  constructor
  · intro h
    by_cases e : a = b
    · exact e.symm
    · exact absurd h (xor_ne e)
  · intro h; rw [h, Nat.xor_self]
theorem mat_sol {W Pl : List Nat} (hW : By W) (hP : Plc Pl W.length) {p : Nat} {v : Nat → Nat} (hv : ∀ c, v c < 256) :
    Solf (mat (zerow W Pl) Pl) p Pl.length v ↔ ∀ i, i < p → ev (fillk (zerow W Pl) Pl v Pl.length) (ex i) = 0 := by
  have hz : ∀ c, c < Pl.length → sq Pl c < (zerow W Pl).length ∧ sq (zerow W Pl) (sq Pl c) = 0 := fun c hc => by
    rw [zerow_length]
    exact ⟨hP.lt c hc, fillk_in W Pl _ Pl.length hP.ne hP.lt c hc⟩
  have key : ∀ i, ev (fillk (zerow W Pl) Pl v Pl.length) (ex i) = mat (zerow W Pl) Pl i Pl.length ^^^ dotf (mat (zerow W Pl) Pl i) v Pl.length := fun i => by
    rw [ev_fill (zerow_by Pl hW) hv i Pl.length hP.ne hz]
    unfold dotf
    congr 1
    · unfold mat; rw [if_pos rfl]
    · refine xs_congr _ fun c hc => ?_
      unfold mat
      rw [if_neg (by omega)]
  unfold Solf
  constructor
  · intro h i hi
    rw [key i, h i hi, Nat.xor_self]
  · intro h i hi
    have := h i hi
    rw [key i] at this
    exact xor_zero_iff.1 this

theorem sub_length : ∀ (L P : List Nat), L.Nodup → (∀ x ∈ L, x ∈ P) → L.length ≤ P.length
  | [], _, _, _ => Nat.zero_le _
  | a :: t, P, hn, h => by
    rw [List.nodup_cons] at hn
    have ha := h a (by simp)
    have := sub_length t (P.erase a) hn.2 fun x hx => by
      have hne : x ≠ a := fun e => hn.1 (e ▸ hx)
      exact (List.mem_erase_of_ne hne).2 (h x (by simp [hx]))
    rw [List.length_erase_of_mem ha] at this
    have := List.length_pos_of_mem ha
    simp only [List.length_cons]
    omega
/-- Two words that differ at some places alone. -/
theorem dif_places {A B Pl : List Nat} {n : Nat} (h : ∀ q, q < n → (∀ c, c < Pl.length → sq Pl c ≠ q) → sq A q = sq B q) : dif A B n ≤ Pl.length := by
  rw [dif_filter]
  refine sub_length _ _ (List.Pairwise.filter _ List.nodup_range) fun x hx => ?_
  rw [List.mem_filter, List.mem_range] at hx
  obtain ⟨hx1, hx2⟩ := hx
  by_cases hm : x ∈ Pl
  · exact hm
  · exfalso
    have := h x hx1 fun c hc e => hm (by rw [← e, sq_get Pl c hc]; exact List.getElem_mem hc)
    simp [this] at hx2

def gone (G : Nat → Nat → Nat) (m : Nat) : Nat → Bool
  | 0 => true
  | i + 1 => gone G m i && (decide (i < m) || decide (G i m = 0))
theorem gone_iff (G : Nat → Nat → Nat) (m : Nat) : ∀ H, gone G m H = true ↔ ∀ i, m ≤ i → i < H → G i m = 0
  | 0 => ⟨fun _ i _ h => absurd h (by omega), fun _ => rfl⟩
  | H + 1 => by
    rw [gone, Bool.and_eq_true, gone_iff G m H, Bool.or_eq_true, decide_eq_true_iff, decide_eq_true_iff]
    constructor
    · rintro ⟨h1, h2⟩ i hi hi2
      by_cases e : i = H
      · rw [e]
        rcases h2 with h2 | h2
        · omega
        · exact h2
      · exact h1 i hi (by omega)
    · intro h
      refine ⟨fun i hi hi2 => h i hi (by omega), ?_⟩
      by_cases e : H < m
      · exact Or.inl e
      · exact Or.inr (h H (by omega) (by omega))
/-- The document's Solve. -/
def solveF (W Pl : List Nat) (p : Nat) : Option (List Nat) :=
  (gs (mat (zerow W Pl) Pl) p Pl.length).bind fun G => if gone G Pl.length p then some (fillk (zerow W Pl) Pl (fun c => G c Pl.length) Pl.length) else none
/-- A word that is W but for some places. -/
def Agree (W Pl D : List Nat) : Prop := D.length = W.length ∧ By D ∧ ∀ q, (∀ c, c < Pl.length → sq Pl c ≠ q) → sq D q = sq W q
theorem fill_agree {W Pl : List Nat} (hW : By W) (hP : Plc Pl W.length) {v : Nat → Nat} (hv : ∀ c, v c < 256) : Agree W Pl (fillk (zerow W Pl) Pl v Pl.length) :=
  ⟨by rw [fillk_length, zerow_length], fillk_by Pl (zerow_by Pl hW) hv _, fun q hq => by
    rw [fillk_out _ Pl v q Pl.length hq fun c hc => by rw [zerow_length]; exact hP.lt c hc, zerow, fillk_out W Pl _ q Pl.length hq hP.lt]⟩
theorem fill_of {W Pl D : List Nat} (hP : Plc Pl W.length) (hD : Agree W Pl D) : fillk (zerow W Pl) Pl (fun c => sq D (sq Pl c)) Pl.length = D := by
  refine list_eq (by rw [fillk_length, zerow_length, hD.1]) fun q hq => ?_
  have hz : ∀ c, c < Pl.length → sq Pl c < (zerow W Pl).length := fun c hc => by rw [zerow_length]; exact hP.lt c hc
  by_cases h : ∃ c, c < Pl.length ∧ sq Pl c = q
  · obtain ⟨c, hc, rfl⟩ := h
    rw [fillk_in _ Pl _ Pl.length hP.ne hz c hc]
  · have h2 : ∀ c, c < Pl.length → sq Pl c ≠ q := fun c hc e => h ⟨c, hc, e⟩
    rw [fillk_out _ Pl _ q Pl.length h2 hz, zerow, fillk_out W Pl _ q Pl.length h2 hP.lt, hD.2.2 q h2]
/-- Of right words that are W but for at most p places there is at most one. -/
theorem agree_one {W Pl D D' : List Nat} {p : Nat} (hn : W.length ≤ 255) (hm : Pl.length ≤ p) (h1 : Agree W Pl D) (h2 : Agree W Pl D') (r1 : allz (vals D p) = true) (r2 : allz (vals D' p) = true) : D = D' :=
  far_dif h1.2.1 h2.2.1 (by rw [h1.1, h2.1]) (by rw [h1.1]; exact hn) (Nat.le_trans (dif_places fun q _ hq => by rw [h1.2.2 q hq, h2.2.2 q hq]) hm) r1 r2
theorem solveF_some {W Pl D : List Nat} {p : Nat} (hW : By W) (hP : Plc Pl W.length) (hm : Pl.length ≤ p) (h : solveF W Pl p = some D) : Agree W Pl D ∧ allz (vals D p) = true := by
  unfold solveF at h
  cases hg : gs (mat (zerow W Pl) Pl) p Pl.length with
  | none => rw [hg] at h; cases h
  | some G =>
    rw [hg] at h
    simp only [Option.bind_some] at h
    obtain ⟨h1, h2, h3, h4⟩ := gs_some (mat_by Pl (zerow_by Pl hW)) _ G hg
    by_cases hz : gone G Pl.length p = true
    · rw [if_pos hz] at h
      cases h
      have hv : ∀ c, (fun c => G c Pl.length) c < 256 := fun c => h2 c _
      refine ⟨fill_agree hW hP hv, allz_zero.2 ?_⟩
      exact (mat_sol hW hP hv).1 ((h4 _ _ hv).1 ((uni_end h3 hm hv).2 ⟨fun _ _ => rfl, (gone_iff G _ p).1 hz⟩))
    · rw [if_neg hz] at h; cases h
theorem solveF_none {W Pl : List Nat} {p : Nat} (hW : By W) (hn : W.length ≤ 255) (hP : Plc Pl W.length) (hm : Pl.length ≤ p) (h : solveF W Pl p = none) {D : List Nat} (hD : Agree W Pl D) : allz (vals D p) = false := by
  cases hr : allz (vals D p) with
  | false => rfl
  | true =>
    exfalso
    have hv : ∀ c, (fun c => sq D (sq Pl c)) c < 256 := fun c => hD.2.1.sq _
    have hs : Solf (mat (zerow W Pl) Pl) p Pl.length fun c => sq D (sq Pl c) := (mat_sol hW hP hv).2 (by rw [fill_of hP hD]; exact allz_zero.1 hr)
    unfold solveF at h
    cases hg : gs (mat (zerow W Pl) Pl) p Pl.length with
    | none =>
      obtain ⟨v', q1, q2, c, hc, q3⟩ := gs_none (mat_by Pl (zerow_by Pl hW)) Pl.length (Nat.le_refl _) hg _ hv hs
      have e := agree_one hn hm (fill_agree hW hP q1) hD (allz_zero.2 ((mat_sol hW hP q1).1 q2)) hr
      have hz : ∀ c, c < Pl.length → sq Pl c < (zerow W Pl).length := fun c hc => by rw [zerow_length]; exact hP.lt c hc
      have := fillk_in (zerow W Pl) Pl v' Pl.length hP.ne hz c hc
      rw [e] at this
      exact q3 this.symm
    | some G =>
      rw [hg] at h
      simp only [Option.bind_some] at h
      obtain ⟨h1, h2, h3, h4⟩ := gs_some (mat_by Pl (zerow_by Pl hW)) _ G hg
      have hz := ((uni_end h3 hm hv).1 ((h4 _ _ hv).2 hs)).2
      rw [if_pos ((gone_iff G _ p).2 hz)] at h
      cases h
/-- The document's Encode. -/
theorem solveF_code {X : List Nat} (hX : By X) {p : Nat} (hn : X.length + p ≤ 255) : solveF (X ++ List.replicate p 0) (tab p fun c => X.length + c) p = some (code X p) := by
  have hW : By (X ++ List.replicate p 0) := fun x hx => by
    rcases List.mem_append.1 hx with h | h
    · exact hX x h
    · rw [(List.mem_replicate.1 h).2]; omega
  have hWl : (X ++ List.replicate p 0).length = X.length + p := by simp
  have hs : ∀ c, c < p → sq (tab p fun c => X.length + c) c = X.length + c := fun c hc => by rw [sq_tab, if_pos hc]
  have hP : Plc (tab p fun c => X.length + c) (X ++ List.replicate p 0).length := ⟨fun c hc => by rw [tab_length] at hc; rw [hs c hc, hWl]; omega, fun a b hab hb => by rw [tab_length] at hb; rw [hs a (by omega), hs b hb]; omega⟩
  have hA : Agree (X ++ List.replicate p 0) (tab p fun c => X.length + c) (code X p) := by
    refine ⟨by rw [code_length X hX, hWl], code_by X hX p, fun q hq => ?_⟩
    by_cases h : q < X.length
    · rw [code, sq_append _ _ _ h, sq_append _ _ _ h]
    · by_cases h2 : q < X.length + p
      · exact absurd (hs (q - X.length) (by omega)) (by rw [show X.length + (q - X.length) = q by omega]; exact hq _ (by rw [tab_length]; omega))
      · rw [sq_out _ _ (by rw [code_length X hX]; omega), sq_out _ _ (by rw [hWl]; omega)]
  have hm : (tab p fun c => X.length + c).length ≤ p := by rw [tab_length]; exact Nat.le_refl _
  cases h : solveF (X ++ List.replicate p 0) (tab p fun c => X.length + c) p with
  | none =>
    have := solveF_none hW (by rw [hWl]; exact hn) hP hm h hA
    rw [code_right hX] at this
    cases this
  | some D =>
    obtain ⟨h1, h2⟩ := solveF_some hW hP hm h
    rw [agree_one (by rw [hWl]; exact hn) hm h1 hA h2 (code_right hX p)]

end RsMath
