/- The contract of the document's product. -/
import Derived.Test.YtligaipkdabmoaaPolyT
namespace Go.Proofs.Ytligaipkdabmoaa
open Go.RowKit GfMath PolyMath
set_option linter.unusedVariables false

theorem info_int1 : (Try.prog.info? 3).map (·.size) = some 1 := by kernel_rfl
theorem nats_zero (N : Nat) : nats (List.replicate N 0) = List.replicate N (.int .i64 0) := by rw [nats, List.map_replicate]; rfl

set_option maxRecDepth 100000 in
set_option maxHeartbeats 2000000 in
theorem rmulp_any (a c : Option Addr) (ca cc : Nat) (A C : List Nat) (w : World) (hA : By A) (hC : By C) (hla : A.length ≤ 400000) (hlc : C.length ≤ 400000) (hr : Lies w w.heap.size a (nats A)) (hs : Lies w w.heap.size c (nats C)) :
    Calls Try.prog 16 #[.slice a A.length ca, .slice c C.length cc] w fun e w' => (∃ v, e = .returned v ∧ IReads w' v (rmul A C)) ∧ Below w.heap.size w w' := by
  obtain ⟨L, hL⟩ : ∃ L, A.length + C.length + 1 = L := ⟨_, rfl⟩
  have hLi : (A.length : Int) + (C.length : Int) + 1 = (L : Int) := by omega
  have hLc : (L : Int) ≤ 1000000 := by omega
  have hLw : IntKind.i64.wrap (L : Int) = (L : Int) := by rw [IntKind.wrap_i64]; omega
  obtain ⟨g, hg⟩ : ∃ g, g = w.heap.size := ⟨_, rfl⟩
  have HLC : Hid (L ≤ 1000000) := Lib.hid (by omega)
  have HT8 : Hid (By (tab L (cvk (sq A) (sq C) A.length))) := Lib.hid (tab_by _ fun n _ => cvk_lt (fun i => hA.sq i) (fun i => hC.sq i) _ _)
  have HRD : Hid (cut (tab L (cvk (sq A) (sq C) A.length)) = rmul A C) := Lib.hid (by rw [rmul, hL])
  have HL := Lib.hid hL
  have HR := Lib.hid hr
  have HS := Lib.hid hs
  have HA := Lib.hid hA
  have HC := Lib.hid hC
  have HG := Lib.hid hg
  have HI8 : Hid ((Try.prog.info? 3).map (fun i => (i.zero, i.size, i.bytes)) = some (some (.int .i64 0), 1, 8) ∨ (Try.prog.info? 3).map (fun i => (i.zero, i.size, i.bytes)) = some (some (.int .i64 0), 1, 1)) := Lib.hid (Or.inl info_int)
  have HS1 := Lib.hid info_int1
  have HLL : Hid (L ≤ L) := Lib.hid (Nat.le_refl _)
  have HLM0 : Hid (L ≤ 1099511627776) := Lib.hid (by omega)
  have HZC : Hid ((Value.int .i64 0).cells = #[.int .i64 0]) := Lib.hid rfl
  clear hL hr hs hA hC hg
  go_enter Try.func16, Try.ntmps16
  go_wp2_with (first
    | ((with_reducible refine wpMakeK 27 3 (.int .i64 0) L L Try.underlying27 HI8.out HZC.out HLL.out HLM0.out ?_ ?_); rfl; intro w1 r1 b1 s1; have R1 := Lib.hid r1; have B1 := Lib.hid b1; clear r1 b1 s1))
  have RG : Hid (Row w1 g 3 (nats (tab L (cvk (sq A) (sq C) 0)))) := Lib.hid (by
    have h := R1.out
    rw [← HG.out] at h
    rw [show tab L (cvk (sq A) (sq C) 0) = List.replicate L 0 from (tab_zero L).symm, nats_zero]; exact h)
  rw [← HG.out]
  clear R1
  go_loopw [6] (fun i wr => ∃ k : Nat, k ≤ A.length ∧ i = .int .i64 k ∧ Row wr g 3 (nats (tab L (cvk (sq A) (sq C) k))) ∧ Below w.heap.size w wr) (fun i _ => A.length - (intOf i).toNat)
  case atStart => exact ⟨0, Nat.zero_le _, rfl, RG.out, B1.out⟩
  case round =>
    clear RG B1
    obtain ⟨k, hk, rfl, hrow, hbw⟩ := hrel
    by_cases hlt : k < A.length
    · have hk1 : (k : Int) < A.length := by omega
      have hk0 : 0 ≤ (k : Int) := by omega
      have R0 : Hid (Row wr g 3 (nats (tab L (cvj A C k 0)))) := Lib.hid (by rw [tab_congr L (fun n _ => cvj_zero A C k n)]; exact hrow)
      have B0 := Lib.hid hbw
      clear hrow hbw
      go_wp2
      go_loopw [7] (fun i wr => ∃ j : Nat, j ≤ C.length ∧ i = .int .i64 j ∧ Row wr g 3 (nats (tab L (cvj A C k j))) ∧ Below w.heap.size w wr) (fun i _ => C.length - (intOf i).toNat)
      case atStart => exact ⟨0, Nat.zero_le _, rfl, R0.out, B0.out⟩
      case round =>
        clear R0 B0
        obtain ⟨j, hj, rfl, hrow, hbw⟩ := hrel
        by_cases hlj : j < C.length
        · have hj1 : (j : Int) < C.length := by omega
          have hj0 : 0 ≤ (j : Int) := by omega
          obtain ⟨b2, off, rfl, hbb, hcl⟩ := HR.out (by rw [nats_length]; omega)
          obtain ⟨b3, off3, rfl, hbb3, hcl3⟩ := HS.out (by rw [nats_length]; omega)
          have hcell : wr.cell? ⟨b2, off + k, none⟩ = some (.int .i64 (sq A k : Int)) := (hbw.cell (p := ⟨b2, off + k, none⟩) hbb).trans (nats_sq (B := 0) hcl k hlt)
          have hcell3 : wr.cell? ⟨b3, off3 + j, none⟩ = some (.int .i64 (sq C j : Int)) := (hbw.cell (p := ⟨b3, off3 + j, none⟩) hbb3).trans (nats_sq (B := 0) hcl3 j hlj)
          have hgb : w.heap.size ≤ wr.heap.size := hbw.size
          obtain ⟨m, hm⟩ : ∃ m, k + j = m := ⟨_, rfl⟩
          have hmi : (k : Int) + (j : Int) = (m : Int) := by omega
          have hmL : m < L := by have := HL.out; omega
          have hm1 : (m : Int) < L := by omega
          have hm0 : 0 ≤ (m : Int) := by omega
          have hmb := HLC.out
          have hmw : IntKind.i64.wrap (m : Int) = (m : Int) := by rw [IntKind.wrap_i64]; omega
          have hst := cvj_step A C L k j
          have hp8 := cvj_lt HA.out HC.out k j m
          have hcp : wr.cell? ⟨g, m, none⟩ = some (.int .i64 (cvj A C k j m : Int)) := by
            rw [hrow.cell, nats, List.getElem?_map, tab_get _ _ _ hmL]; rfl
          rw [hm] at hst
          have hc8 := HA.out.sq k
          have hd8 := HC.out.sq j
          obtain ⟨x, hx⟩ : ∃ x, sq A k = x := ⟨_, rfl⟩
          obtain ⟨d, hd⟩ : ∃ d, sq C j = d := ⟨_, rfl⟩
          rw [hx, hd] at hst
          rw [hx] at hcell hc8
          rw [hd] at hcell3 hd8
          have hq8 := gm_lt hc8 hd8
          obtain ⟨p, hp⟩ : ∃ p, cvj A C k j m = p := ⟨_, rfl⟩
          rw [hp] at hst hp8 hcp
          have HMU0 : ∀ u, Calls Try.prog 37 #[.int .i64 (x : Int), .int .i64 (d : Int)] u fun e w' => e = .returned (.int .i64 (gm x d : Int)) ∧ u = w' := fun u => rmul_any x d u hc8
          obtain ⟨q, hq⟩ : ∃ q, gm x d = q := ⟨_, rfl⟩
          rw [hq] at HMU0 hst hq8
          have hxr := xor_i64 p q (by omega) (by omega)
          obtain ⟨r, hr⟩ : ∃ r, p ^^^ q = r := ⟨_, rfl⟩
          rw [hr] at hxr hst
          have HMU := Lib.hid HMU0
          have HCP := Lib.hid hcp
          have HCA := Lib.hid hcell
          have HCD := Lib.hid hcell3
          have HROW := Lib.hid hrow
          have HBW := Lib.hid hbw
          have HGL : Hid (g < wr.heap.size) := Lib.hid hrow.lt
          have HAL : Hid (b2 < wr.heap.size) := Lib.hid (by omega)
          have HDL : Hid (b3 < wr.heap.size) := Lib.hid (by omega)
          have HGB : Hid (w.heap.size ≤ g) := Lib.hid (by rw [HG.out]; exact Nat.le_refl _)
          have HLM : Hid (m < (nats (tab L (cvj A C k j))).length) := Lib.hid (by rw [nats_length, tab_length]; exact hmL)
          have HVC : Hid ((Value.int .i64 (r : Int)).cells = #[.int .i64 (r : Int)]) := Lib.hid rfl
          have HVO : Hid ((Value.int .i64 (r : Int)).oneCell' = true) := Lib.hid rfl
          have HST : Hid ((nats (tab L (cvj A C k j))).set m (.int .i64 (r : Int)) = nats (tab L (cvj A C k (j + 1)))) := Lib.hid (by rw [nats_set, hst])
          clear HMU0 hcp hrow hbw hst hp hq hr hd hcl hcl3 hbb hbb3 hm hmL hp8 hc8 hd8 hq8 hx hcell hcell3 hgb hmb
          go_wp2
          refine region_tail 20 [(0, 27), (1, 28), (2, 29), (3, 30), (4, 31), (5, 32), (6, 33), (7, 34), (8, 35), (9, 36), (10, 37), (11, 38), (12, 39), (13, 40), (14, 41), (15, 42), (16, 43), (17, 44), (18, 45), (19, 46)]
            (fun i => [Is (.slice (some ⟨g, 0, none⟩) L L), Is (.int .i64 (k : Int)), Is (.int .i64 (j : Int)), Is (.int .i64 (m : Int)), Is (.slice (some ⟨g, 0, none⟩) L L), Is (.int .i64 (k : Int)), Is (.int .i64 (j : Int)), Is (.int .i64 (m : Int)), Is (.pointer (some ⟨g, m, none⟩)), Is (.int .i64 (p : Int)), Is (.slice (some ⟨b2, off, none⟩) A.length ca), Is (.int .i64 (k : Int)), Is (.pointer (some ⟨b2, off + k, none⟩)), Is (.int .i64 (x : Int)), Is (.slice (some ⟨b3, off3, none⟩) C.length cc), Is (.int .i64 (j : Int)), Is (.pointer (some ⟨b3, off3 + j, none⟩)), Is (.int .i64 (d : Int)), Is (.int .i64 (q : Int)), Is (.int .i64 (r : Int))].getD i (Is undef))
            (fun w' => Below wr.heap.size wr w') (by kernel_rfl) (by decide) (by kernel_rfl) (by kernel_rfl) (by kernel_rfl) (by decide) (by decide) (by kernel_rfl) rfl ?mono ((Below.refl _ _).drew) ?step ?fin
          case mono =>
            intro i
            match i with
            | 0 | 1 | 2 | 3 | 4 | 5 | 6 | 7 | 8 | 9 | 10 | 11 | 12 | 13 | 14 | 15 | 16 | 17 | 18 | 19 => exact Is.monot _
            | _ + 20 => exact Is.monot _
          case step =>
            refine List.forall_mem_cons.2 ⟨?s0, List.forall_mem_cons.2 ⟨?s1, List.forall_mem_cons.2 ⟨?s2, List.forall_mem_cons.2 ⟨?s3, List.forall_mem_cons.2 ⟨?s4, List.forall_mem_cons.2 ⟨?s5, List.forall_mem_cons.2 ⟨?s6, List.forall_mem_cons.2 ⟨?s7, List.forall_mem_cons.2 ⟨?s8, List.forall_mem_cons.2 ⟨?s9, List.forall_mem_cons.2 ⟨?s10, List.forall_mem_cons.2 ⟨?s11, List.forall_mem_cons.2 ⟨?s12, List.forall_mem_cons.2 ⟨?s13, List.forall_mem_cons.2 ⟨?s14, List.forall_mem_cons.2 ⟨?s15, List.forall_mem_cons.2 ⟨?s16, List.forall_mem_cons.2 ⟨?s17, List.forall_mem_cons.2 ⟨?s18, List.forall_mem_cons.2 ⟨?s19, List.forall_mem_nil _⟩⟩⟩⟩⟩⟩⟩⟩⟩⟩⟩⟩⟩⟩⟩⟩⟩⟩⟩⟩
            case s3 =>
              intro u wx hg hC
              have hJ1 : u 1 = (.int .i64 (k : Int)) := hC.at 1 (by kernel_rfl)
              have hJ2 : u 2 = (.int .i64 (j : Int)) := hC.at 2 (by kernel_rfl)
              clear hC
              refine wpOp_step rfl (fun K hK => ?_)
              simp only [puts, List.foldl]
              go_simp
              exact hK _ _ ⟨rfl, rfl, hg, Below.refl _ _⟩
            case s7 =>
              intro u wx hg hC
              have hJ5 : u 5 = (.int .i64 (k : Int)) := hC.at 5 (by kernel_rfl)
              have hJ6 : u 6 = (.int .i64 (j : Int)) := hC.at 6 (by kernel_rfl)
              clear hC
              refine wpOp_step rfl (fun K hK => ?_)
              simp only [puts, List.foldl]
              go_simp
              exact hK _ _ ⟨rfl, rfl, hg, Below.refl _ _⟩
            case s8 =>
              intro u wx hg hC
              have hJ4 : u 4 = (.slice (some ⟨g, 0, none⟩) L L) := hC.at 4 (by kernel_rfl)
              have hJ7 : u 7 = (.int .i64 (m : Int)) := hC.at 7 (by kernel_rfl)
              clear hC
              refine wpOp_step rfl (fun K hK => ?_)
              simp only [puts, List.foldl]
              go_simp
              exact hK _ _ ⟨rfl, rfl, hg, Below.refl _ _⟩
            case s9 =>
              intro u wx hg hC
              have hJ : u 8 = (.pointer (some ⟨g, m, none⟩)) := hC.at 8 (by kernel_rfl)
              clear hC
              have hcl : wx.cell? ⟨g, m, none⟩ = some (.int .i64 (p : Int)) := (hg.cell (p := ⟨g, m, none⟩) HGL.out).trans HCP.out
              refine wpOp_step rfl (fun K hK => ?_)
              simp only [puts, List.foldl]
              go_simp
              exact hK _ _ ⟨rfl, rfl, hg, Below.refl _ _⟩
            case s12 =>
              intro u wx hg hC
              have hJ10 : u 10 = (.slice (some ⟨b2, off, none⟩) A.length ca) := hC.at 10 (by kernel_rfl)
              have hJ11 : u 11 = (.int .i64 (k : Int)) := hC.at 11 (by kernel_rfl)
              clear hC
              refine wpOp_step rfl (fun K hK => ?_)
              simp only [puts, List.foldl]
              go_simp
              exact hK _ _ ⟨rfl, rfl, hg, Below.refl _ _⟩
            case s13 =>
              intro u wx hg hC
              have hJ : u 12 = (.pointer (some ⟨b2, off + k, none⟩)) := hC.at 12 (by kernel_rfl)
              clear hC
              have hcl : wx.cell? ⟨b2, off + k, none⟩ = some (.int .i64 (x : Int)) := (hg.cell (p := ⟨b2, off + k, none⟩) HAL.out).trans HCA.out
              refine wpOp_step rfl (fun K hK => ?_)
              simp only [puts, List.foldl]
              go_simp
              exact hK _ _ ⟨rfl, rfl, hg, Below.refl _ _⟩
            case s16 =>
              intro u wx hg hC
              have hJ14 : u 14 = (.slice (some ⟨b3, off3, none⟩) C.length cc) := hC.at 14 (by kernel_rfl)
              have hJ15 : u 15 = (.int .i64 (j : Int)) := hC.at 15 (by kernel_rfl)
              clear hC
              refine wpOp_step rfl (fun K hK => ?_)
              simp only [puts, List.foldl]
              go_simp
              exact hK _ _ ⟨rfl, rfl, hg, Below.refl _ _⟩
            case s17 =>
              intro u wx hg hC
              have hJ : u 16 = (.pointer (some ⟨b3, off3 + j, none⟩)) := hC.at 16 (by kernel_rfl)
              clear hC
              have hcl : wx.cell? ⟨b3, off3 + j, none⟩ = some (.int .i64 (d : Int)) := (hg.cell (p := ⟨b3, off3 + j, none⟩) HDL.out).trans HCD.out
              refine wpOp_step rfl (fun K hK => ?_)
              simp only [puts, List.foldl]
              go_simp
              exact hK _ _ ⟨rfl, rfl, hg, Below.refl _ _⟩
            case s18 =>
              intro u wx hg hC
              have hJ13 : u 13 = (.int .i64 (x : Int)) := hC.at 13 (by kernel_rfl)
              have hJ17 : u 17 = (.int .i64 (d : Int)) := hC.at 17 (by kernel_rfl)
              clear hC
              refine wpOp_step rfl (fun K hK => ?_)
              simp only [puts, List.foldl]
              go_simp
              refine (HMU.out wx).mono ?_
              rintro e w' ⟨rfl, rfl⟩
              exact hK _ _ ⟨rfl, rfl, hg, Below.refl _ _⟩
            case s19 =>
              intro u wx hg hC
              have hJ9 : u 9 = (.int .i64 (p : Int)) := hC.at 9 (by kernel_rfl)
              have hJ18 : u 18 = (.int .i64 (q : Int)) := hC.at 18 (by kernel_rfl)
              clear hC
              refine wpOp_step rfl (fun K hK => ?_)
              simp only [puts, List.foldl]
              go_simp
              exact hK _ _ ⟨rfl, rfl, hg, Below.refl _ _⟩
            all_goals
              intro u wx hg hC
              clear hC
              refine wpOp_step rfl (fun K hK => ?_)
              simp only [puts, List.foldl]
              go_simp
              refine hK _ _ ?_
              clear hK K
              first
                | (refine ⟨rfl, ?_, hg, Below.refl _ _⟩; rfl)
                | (refine ⟨rfl, ?_, hg.alloc hg.size _, alloc_below _ _⟩; exact ⟨wx.heap.size, rfl, Lies.new [_] _ _⟩)
                | (refine ⟨rfl, ?_, hg.alloc hg.size _, alloc_below _ _⟩; exact ⟨wx.heap.size, rfl, Lies.new [_, _] _ _⟩)
          case fin =>
            intro u w9 hbw9 hφ
            have h0 : u 0 = .slice (some ⟨g, 0, none⟩) L L := hφ (0, 27) (by decide)
            have h3 : u 3 = .int .i64 (m : Int) := hφ (3, 30) (by decide)
            have h19 : u 19 = .int .i64 (r : Int) := hφ (19, 46) (by decide)
            clear hφ
            simp only [puts, List.foldl]
            go_simp
            have R9 := Lib.hid (HROW.out.step hbw9)
            have B9 := Lib.hid hbw9
            clear hbw9
            go_wp2_with (first
              | ((with_reducible refine R9.out.wpStore1K m 3 (.int .i64 (r : Int)) HS1.out HLM.out HVC.out HVO.out ?_ ?_); rfl; intro w2 r2 o2 s2; have R2 := Lib.hid r2; have O2 := Lib.hid o2; clear r2 o2 s2))
            go_roundw
            case rel => exact ⟨j + 1, by omega, by go_num, by have h := R2.out; rw [HST.out] at h; exact h, (HBW.out.next B9.out).trans (O2.out.below HGB.out (HBW.out.next B9.out).size)⟩
            case measure => first | (simp [intOf]; done) | (simp [intOf]; omega)
        · have ej : j = C.length := by omega
          have HROW : Hid (Row wr g 3 (nats (tab L (cvk (sq A) (sq C) (k + 1))))) := Lib.hid (by
            rw [← tab_congr L (fun n _ => cvj_full A C k n), ← ej]; exact hrow)
          have HBW := Lib.hid hbw
          clear hrow hbw ej
          go_wp2
          go_roundw
          case rel => exact ⟨k + 1, by omega, by go_num, HROW.out, HBW.out⟩
          case measure => first | (simp [intOf]; done) | (simp [intOf]; omega)
    · have ek : k = A.length := by omega
      have HCU : Hid (Calls Try.prog 36 #[.slice (some ⟨g, 0, none⟩) L L] wr fun e w' => (∃ v, e = .returned v ∧ IReads wr v (rmul A C)) ∧ wr = w') := Lib.hid (by
        have h := cut_any (some ⟨g, 0, none⟩) L (tab L (cvk (sq A) (sq C) A.length)) wr HT8.out (by rw [tab_length]; have := HLC.out; omega) (by rw [tab_length]; exact Nat.le_refl _) (row_lies (by rw [← ek]; exact hrow))
        rw [tab_length, HRD.out] at h
        exact h)
      have HBW := Lib.hid hbw
      clear hrow hbw ek
      go_wp2_with (go_at_call 36; (with_reducible refine HCU.out.mono ?_); rintro e w2 ⟨⟨v, rfl, hv⟩, rfl⟩; have HV := Lib.hid hv; clear hv)
      go_ret
      exact ⟨⟨_, rfl, HV.out⟩, HBW.out⟩

end Go.Proofs.Ytligaipkdabmoaa
