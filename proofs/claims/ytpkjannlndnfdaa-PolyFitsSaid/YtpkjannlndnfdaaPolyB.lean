/- The contract of poly's product of two. -/
import Derived.Test.YtpkjannlndnfdaaPolyA
import Derived.Test.YtpkjannlndnfdaaInv
namespace Go.Proofs.Ytpkjannlndnfdaa
open Go.RowKit GfMath PolyMath
set_option linter.unusedVariables false

/-- The state of a row: j of the second's bytes done. -/
def cvj (A C : List Nat) (k j n : Nat) : Nat := cvk (sq A) (sq C) k n ^^^ if k ≤ n ∧ n - k < j then gm (sq A k) (sq C (n - k)) else 0
theorem cvj_zero (A C : List Nat) (k n : Nat) : cvj A C k 0 n = cvk (sq A) (sq C) k n := by rw [cvj, if_neg (by omega), Nat.xor_zero]
theorem cvj_full (A C : List Nat) (k n : Nat) : cvj A C k C.length n = cvk (sq A) (sq C) (k + 1) n := by
  rw [cvj, cvk_succ]
  congr 1
  by_cases h : k ≤ n
  · rw [if_pos h]
    by_cases h2 : n - k < C.length
    · rw [if_pos ⟨h, h2⟩]
    · rw [if_neg (by omega), sq_out C _ (by omega), gm_zero_right]
  · rw [if_neg h, if_neg (by omega)]
theorem cvj_step (A C : List Nat) (N k j : Nat) : (tab N (cvj A C k j)).set (k + j) (cvj A C k j (k + j) ^^^ gm (sq A k) (sq C j)) = tab N (cvj A C k (j + 1)) := by
  rw [tab_set]
  refine tab_congr N fun n _ => ?_
  by_cases e : n = k + j
  · subst e
    rw [if_pos rfl, cvj, cvj, if_neg (by omega), if_pos (by omega), show k + j - k = j by omega, Nat.xor_zero]
  · rw [if_neg e, cvj, cvj]
    by_cases h : k ≤ n ∧ n - k < j
    · rw [if_pos h, if_pos (by omega)]
    · rw [if_neg h, if_neg (by omega)]
theorem cvj_lt {A C : List Nat} (hA : By A) (hC : By C) (k j n : Nat) : cvj A C k j n < 256 :=
  xor_lt (cvk_lt (fun i => hA.sq i) (fun i => hC.sq i) _ _) (by split; exact gm_lt (hA.sq _) (hC.sq _); omega)

set_option maxHeartbeats 1000000 in
theorem ptimes_some (b : Nat) (a c : Option Addr) (ca cc : Nat) (A C : List Nat) (w : World) (hf : Fld w b) (hA : By A) (hC : By C) (hla : A.length ≤ 1000000) (hlc : C.length ≤ 1000000) (h0 : 0 < A.length) (h1 : 0 < C.length)
    (hr : Lies w w.heap.size a (u8s A)) (hs : Lies w w.heap.size c (u8s C)) :
    Calls Try.prog 21 #[.pointer (some ⟨b, 0, none⟩), .slice a A.length ca, .slice c C.length cc] w fun e w' => (∃ v, e = .returned v ∧ Reads w' v (pm A C)) ∧ Below w.heap.size w w' := by
  obtain ⟨L, hL⟩ : ∃ L, A.length + C.length - 1 = L := ⟨_, rfl⟩
  have hLi : (A.length : Int) + (C.length : Int) - 1 = (L : Int) := by omega
  have ha0 : ¬ (A.length : Int) = 0 := by omega
  have hc0 : ¬ (C.length : Int) = 0 := by omega
  have ha1 : ((A.length : Int) == 0) = false := beq_false_of_ne ha0
  have hc1 : ((C.length : Int) == 0) = false := beq_false_of_ne hc0
  have hL0 : 0 < L := by omega
  have hLb : L ≤ 2000000 := by omega
  have hLc : (L : Int) ≤ 2000000 := by omega
  have hpm : pm A C = tab L (cvk (sq A) (sq C) A.length) := by unfold pm; rw [if_neg (by omega), hL]
  obtain ⟨g, hg⟩ : ∃ g, g = w.heap.size := ⟨_, rfl⟩
  have HPM := Lib.hid hpm
  have HL := Lib.hid hL
  have HF := Lib.hid hf
  have HR := Lib.hid hr
  have HS := Lib.hid hs
  have HA := Lib.hid hA
  have HC := Lib.hid hC
  have HG := Lib.hid hg
  have HI8 : Hid ((Try.prog.info? 5).map (fun i => (i.zero, i.size, i.bytes)) = some (some (.int .u8 0), 1, 8) ∨ (Try.prog.info? 5).map (fun i => (i.zero, i.size, i.bytes)) = some (some (.int .u8 0), 1, 1)) := Lib.hid (Or.inr info_byte)
  have HS1 : Hid ((Try.prog.info? 5).map (·.size) = some 1) := Lib.hid (by have h := info_byte; cases hq : Try.prog.info? 5 with | none => rw [hq] at h; cases h | some i => rw [hq] at h; simp only [Option.map_some, Option.some.injEq, Prod.mk.injEq] at h; rw [Option.map_some, h.2.1])
  have HLL : Hid (L ≤ L) := Lib.hid (Nat.le_refl _)
  have HLM0 : Hid (L ≤ 1099511627776) := Lib.hid (by omega)
  have HZC : Hid ((Value.int .u8 0).cells = #[.int .u8 0]) := Lib.hid rfl
  clear hpm hL hf hr hs hA hC hg
  go_enter Try.func21, Try.ntmps21
  go_wp2_with (first
    | ((with_reducible refine wpMakeK 22 5 (.int .u8 0) L L Try.underlying22 HI8.out HZC.out HLL.out HLM0.out ?_ ?_); rfl; intro w1 r1 b1 s1; have R1 := Lib.hid r1; have B1 := Lib.hid b1; clear r1 b1 s1))
  have RG : Hid (Row w1 g 5 (u8s (tab L (cvk (sq A) (sq C) 0)))) := Lib.hid (by
    have h := R1.out
    rw [← HG.out] at h
    have e : u8s (tab L (cvk (sq A) (sq C) 0)) = List.replicate L (.int .u8 0) := by
      rw [show tab L (cvk (sq A) (sq C) 0) = List.replicate L 0 from (tab_zero L).symm, u8s, List.map_replicate]; rfl
    rw [e]; exact h)
  rw [← HG.out]
  clear R1
  go_loopw [29] (fun i wr => ∃ k : Nat, k ≤ A.length ∧ i = .int .i64 k ∧ Row wr g 5 (u8s (tab L (cvk (sq A) (sq C) k))) ∧ Below w.heap.size w wr) (fun i _ => A.length - (intOf i).toNat)
  case atStart => exact ⟨0, Nat.zero_le _, rfl, RG.out, B1.out⟩
  case round =>
    clear RG B1
    obtain ⟨k, hk, rfl, hrow, hbw⟩ := hrel
    by_cases hlt : k < A.length
    · have hk1 : (k : Int) < A.length := by omega
      obtain ⟨b2, off, rfl, hbb, hcl⟩ := HR.out (by rw [u8s_length]; omega)
      have hcell : wr.cell? ⟨b2, off + k, none⟩ = some (.int .u8 (sq A k : Int)) := by rw [sq_get A k hlt]; exact (hbw.cell (p := ⟨b2, off + k, none⟩) hbb).trans (hcl k _ (u8s_get A k hlt))
      obtain ⟨x, hc'⟩ : ∃ x, sq A k = x := ⟨_, rfl⟩
      rw [hc'] at hcell
      have HSA := Lib.hid hc'
      have R0 : Hid (Row wr g 5 (u8s (tab L (cvj A C k 0)))) := Lib.hid (by rw [tab_congr L (fun n _ => cvj_zero A C k n)]; exact hrow)
      have B0 := Lib.hid hbw
      clear hcl hrow hbw hc' hbb
      go_wp2
      go_loopw [36] (fun i wr => ∃ j : Nat, j ≤ C.length ∧ i = .int .i64 j ∧ Row wr g 5 (u8s (tab L (cvj A C k j))) ∧ Below w.heap.size w wr) (fun i _ => C.length - (intOf i).toNat)
      case atStart => exact ⟨0, Nat.zero_le _, rfl, R0.out, B0.out⟩
      case round =>
        clear R0 B0
        obtain ⟨j, hj, rfl, hrow, hbw⟩ := hrel
        by_cases hlj : j < C.length
        · have hj1 : (j : Int) < C.length := by omega
          obtain ⟨b3, off3, rfl, hbb3, hcl3⟩ := HS.out (by rw [u8s_length]; omega)
          have hcell3 : wr.cell? ⟨b3, off3 + j, none⟩ = some (.int .u8 (sq C j : Int)) := by rw [sq_get C j hlj]; exact (hbw.cell (p := ⟨b3, off3 + j, none⟩) hbb3).trans (hcl3 j _ (u8s_get C j hlj))
          obtain ⟨m, hm⟩ : ∃ m, k + j = m := ⟨_, rfl⟩
          have hmi : (k : Int) + (j : Int) = (m : Int) := by omega
          have hmL : m < L := by have := HL.out; omega
          have hm1 : (m : Int) < L := by omega
          have hm0 : 0 ≤ (m : Int) := by omega
          have hmw : IntKind.i64.wrap (m : Int) = (m : Int) := by rw [IntKind.wrap_i64]; omega
          have hst := cvj_step A C L k j
          have hp8 := cvj_lt HA.out HC.out k j m
          have hcp : wr.cell? ⟨g, m, none⟩ = some (.int .u8 (cvj A C k j m : Int)) := by
            rw [hrow.cell, u8s, List.getElem?_map, tab_get _ _ _ hmL]; rfl
          rw [hm, HSA.out] at hst
          have hc8 : x < 256 := by rw [← HSA.out]; exact HA.out.sq k
          have hd8 := HC.out.sq j
          have hq8 := gm_lt hc8 hd8
          obtain ⟨d, hd⟩ : ∃ d, sq C j = d := ⟨_, rfl⟩
          rw [hd] at hst hcell3 hd8 hq8
          obtain ⟨p, hp⟩ : ∃ p, cvj A C k j m = p := ⟨_, rfl⟩
          rw [hp] at hst hp8 hcp
          have HMU0 : ∀ (u : World) (b1 : Nat), Fld u b → Lies u u.heap.size (some ⟨b1, 0, none⟩) [.int .u8 (x : Int), .int .u8 (d : Int)] → Calls Try.prog 24 #[.pointer (some ⟨b, 0, none⟩), .slice (some ⟨b1, 0, none⟩) 2 2] u fun e w' => e = .returned (.int .u8 (gm x d : Int)) ∧ Below u.heap.size u w' := fun u b1 hf hl => mul_two b b1 2 x d u hf hc8 hd8 hl
          obtain ⟨q, hq⟩ : ∃ q, gm x d = q := ⟨_, rfl⟩
          rw [hq] at HMU0 hst hq8
          have HAD0 : ∀ (u : World) (b1 : Nat), Lies u u.heap.size (some ⟨b1, 0, none⟩) [.int .u8 (p : Int), .int .u8 (q : Int)] → Calls Try.prog 18 #[.pointer (some ⟨b, 0, none⟩), .slice (some ⟨b1, 0, none⟩) 2 2] u fun e w' => e = .returned (.int .u8 ((p ^^^ q : Nat) : Int)) ∧ Below u.heap.size u w' := fun u b1 hl => (add_two b b1 2 p q u hp8 hq8 hl).mono fun _ u' h => ⟨h.1, by rw [← h.2]; exact Below.refl _ _⟩
          obtain ⟨r, hr⟩ : ∃ r, p ^^^ q = r := ⟨_, rfl⟩
          rw [hr] at HAD0 hst
          have HMU := Lib.hid HMU0
          have HAD := Lib.hid HAD0
          have HCP := Lib.hid hcp
          have HROW := Lib.hid hrow
          have HBW := Lib.hid hbw
          have HGL : Hid (g < wr.heap.size) := Lib.hid hrow.lt
          have HGB : Hid (w.heap.size ≤ g) := Lib.hid (by rw [HG.out]; exact Nat.le_refl _)
          have HFR : Hid (Fld wr b) := Lib.hid (HF.out.step hbw)
          have HLM : Hid (m < (u8s (tab L (cvj A C k j))).length) := Lib.hid (by rw [u8s_length, tab_length]; exact hmL)
          have HVC : Hid ((Value.int .u8 (r : Int)).cells = #[.int .u8 (r : Int)]) := Lib.hid rfl
          have HVO : Hid ((Value.int .u8 (r : Int)).oneCell' = true) := Lib.hid rfl
          have HST : Hid ((u8s (tab L (cvj A C k j))).set m (.int .u8 (r : Int)) = u8s (tab L (cvj A C k (j + 1)))) := Lib.hid (by rw [u8s_set, hst])
          clear HMU0 HAD0 hcp hrow hbw hst hp hq hr hd hcl3 hbb3 hm hmL hp8 hc8 hd8 hq8 HSA
          go_wp2
          refine region_tail 18 [(0, 41), (1, 42), (2, 43), (3, 44), (4, 45), (5, 46), (6, 47), (7, 48), (8, 49), (9, 50), (10, 51), (11, 52), (12, 53), (13, 54), (14, 55), (15, 56), (16, 57), (17, 58)]
            (fun i => [Is (.slice (some ⟨g, 0, none⟩) L L), Is (.int .i64 (k : Int)), Is (.int .i64 (j : Int)), Is (.int .i64 (m : Int)), Is (.pointer (some ⟨b, 0, none⟩)), Is (.slice (some ⟨g, 0, none⟩) L L), Is (.int .i64 (k : Int)), Is (.int .i64 (j : Int)), Is (.int .i64 (m : Int)), Is (.pointer (some ⟨g, m, none⟩)), Is (.int .u8 (p : Int)), Is (.pointer (some ⟨b, 0, none⟩)), Is (.int .u8 (x : Int)), Is (.int .u8 (d : Int)), New [.int .u8 (x : Int), .int .u8 (d : Int)], Is (.int .u8 (q : Int)), New [.int .u8 (p : Int), .int .u8 (q : Int)], Is (.int .u8 (r : Int))].getD i (Is undef))
            (fun w' => Below wr.heap.size wr w') (by kernel_rfl) (by decide) (by kernel_rfl) (by kernel_rfl) (by kernel_rfl) (by decide) (by decide) (by kernel_rfl) rfl ?mono ((Below.refl _ _).drew) ?step ?fin
          case mono =>
            intro i
            match i with
            | 0 | 1 | 2 | 3 | 4 | 5 | 6 | 7 | 8 | 9 | 10 | 11 | 12 | 13 | 15 | 17 => exact Is.monot _
            | 14 | 16 => exact New.monot _
            | _ + 18 => exact Is.monot _
          case step =>
            refine List.forall_mem_cons.2 ⟨?s0, List.forall_mem_cons.2 ⟨?s1, List.forall_mem_cons.2 ⟨?s2, List.forall_mem_cons.2 ⟨?s3, List.forall_mem_cons.2 ⟨?s4, List.forall_mem_cons.2 ⟨?s5, List.forall_mem_cons.2 ⟨?s6, List.forall_mem_cons.2 ⟨?s7, List.forall_mem_cons.2 ⟨?s8, List.forall_mem_cons.2 ⟨?s9, List.forall_mem_cons.2 ⟨?s10, List.forall_mem_cons.2 ⟨?s11, List.forall_mem_cons.2 ⟨?s12, List.forall_mem_cons.2 ⟨?s13, List.forall_mem_cons.2 ⟨?s14, List.forall_mem_cons.2 ⟨?s15, List.forall_mem_cons.2 ⟨?s16, List.forall_mem_cons.2 ⟨?s17, List.forall_mem_nil _⟩⟩⟩⟩⟩⟩⟩⟩⟩⟩⟩⟩⟩⟩⟩⟩⟩⟩
            case s3 =>
              intro u wx hg hC
              have hJ1 : u 1 = (.int .i64 (k : Int)) := hC.at 1 (by kernel_rfl)
              have hJ2 : u 2 = (.int .i64 (j : Int)) := hC.at 2 (by kernel_rfl)
              clear hC
              refine wpOp_step rfl (fun K hK => ?_)
              simp only [puts, List.foldl]
              go_simp
              exact hK _ _ ⟨rfl, rfl, hg, Below.refl _ _⟩
            case s8 =>
              intro u wx hg hC
              have hJ6 : u 6 = (.int .i64 (k : Int)) := hC.at 6 (by kernel_rfl)
              have hJ7 : u 7 = (.int .i64 (j : Int)) := hC.at 7 (by kernel_rfl)
              clear hC
              refine wpOp_step rfl (fun K hK => ?_)
              simp only [puts, List.foldl]
              go_simp
              exact hK _ _ ⟨rfl, rfl, hg, Below.refl _ _⟩
            case s9 =>
              intro u wx hg hC
              have hJ5 : u 5 = (.slice (some ⟨g, 0, none⟩) L L) := hC.at 5 (by kernel_rfl)
              have hJ8 : u 8 = (.int .i64 (m : Int)) := hC.at 8 (by kernel_rfl)
              clear hC
              refine wpOp_step rfl (fun K hK => ?_)
              simp only [puts, List.foldl]
              go_simp
              exact hK _ _ ⟨rfl, rfl, hg, Below.refl _ _⟩
            case s10 =>
              intro u wx hg hC
              have hJ : u 9 = (.pointer (some ⟨g, m, none⟩)) := hC.at 9 (by kernel_rfl)
              clear hC
              have hcl : wx.cell? ⟨g, m, none⟩ = some (.int .u8 (p : Int)) := (hg.cell (p := ⟨g, m, none⟩) HGL.out).trans HCP.out
              refine wpOp_step rfl (fun K hK => ?_)
              simp only [puts, List.foldl]
              go_simp
              exact hK _ _ ⟨rfl, rfl, hg, Below.refl _ _⟩
            case s14 =>
              intro u wx hg hC
              have hJ12 : u 12 = (.int .u8 (x : Int)) := hC.at 12 (by kernel_rfl)
              have hJ13 : u 13 = (.int .u8 (d : Int)) := hC.at 13 (by kernel_rfl)
              clear hC
              refine wpOp_step rfl (fun K hK => ?_)
              simp only [puts, List.foldl]
              go_simp
              exact hK _ _ ⟨rfl, ⟨wx.heap.size, rfl, Lies.new [_, _] _ _⟩, hg.alloc hg.size _, alloc_below _ _⟩
            case s15 =>
              intro u wx hg hC
              have hJ11 : u 11 = (.pointer (some ⟨b, 0, none⟩)) := hC.at 11 (by kernel_rfl)
              obtain ⟨b1, h2, hl⟩ : New [.int .u8 (x : Int), .int .u8 (d : Int)] (u 14) wx := hC.at 14 (by kernel_rfl)
              clear hC
              simp only [List.length_cons, List.length_nil, Nat.zero_add, Nat.reduceAdd] at h2
              refine wpOp_step rfl (fun K hK => ?_)
              simp only [puts, List.foldl]
              go_simp
              refine (HMU.out wx b1 (HFR.out.step hg) hl).mono ?_
              rintro e w' ⟨rfl, hb'⟩
              exact hK _ _ ⟨rfl, rfl, hg.next hb', hb'⟩
            case s16 =>
              intro u wx hg hC
              have hJ10 : u 10 = (.int .u8 (p : Int)) := hC.at 10 (by kernel_rfl)
              have hJ15 : u 15 = (.int .u8 (q : Int)) := hC.at 15 (by kernel_rfl)
              clear hC
              refine wpOp_step rfl (fun K hK => ?_)
              simp only [puts, List.foldl]
              go_simp
              exact hK _ _ ⟨rfl, ⟨wx.heap.size, rfl, Lies.new [_, _] _ _⟩, hg.alloc hg.size _, alloc_below _ _⟩
            case s17 =>
              intro u wx hg hC
              have hJ4 : u 4 = (.pointer (some ⟨b, 0, none⟩)) := hC.at 4 (by kernel_rfl)
              obtain ⟨b1, h2, hl⟩ : New [.int .u8 (p : Int), .int .u8 (q : Int)] (u 16) wx := hC.at 16 (by kernel_rfl)
              clear hC
              simp only [List.length_cons, List.length_nil, Nat.zero_add, Nat.reduceAdd] at h2
              refine wpOp_step rfl (fun K hK => ?_)
              simp only [puts, List.foldl]
              go_simp
              refine (HAD.out wx b1 hl).mono ?_
              rintro e w' ⟨rfl, hb'⟩
              exact hK _ _ ⟨rfl, rfl, hg.next hb', hb'⟩
            all_goals
              intro u wx hg hC
              clear hC
              refine wpOp_step rfl (fun K hK => ?_)
              simp only [puts, List.foldl]
              go_simp
              refine hK _ _ ?_
              clear hK K
              first
                | (refine ⟨rfl, ?_, hg, Below.refl _ _⟩; rfl)
                | (refine ⟨rfl, ?_, hg.alloc hg.size _, alloc_below _ _⟩; exact ⟨wx.heap.size, rfl, Lies.new [_] _ _⟩)
                | (refine ⟨rfl, ?_, hg.alloc hg.size _, alloc_below _ _⟩; exact ⟨wx.heap.size, rfl, Lies.new [_, _] _ _⟩)
          case fin =>
            intro u w9 hbw9 hφ
            have h0 : u 0 = .slice (some ⟨g, 0, none⟩) L L := hφ (0, 41) (by decide)
            have h3 : u 3 = .int .i64 (m : Int) := hφ (3, 44) (by decide)
            have h17 : u 17 = .int .u8 (r : Int) := hφ (17, 58) (by decide)
            clear hφ
            simp only [puts, List.foldl]
            go_simp
            have R9 := Lib.hid (HROW.out.step hbw9)
            have B9 := Lib.hid hbw9
            clear hbw9
            go_wp2_with (first
              | ((with_reducible refine R9.out.wpStore1K m 5 (.int .u8 (r : Int)) HS1.out HLM.out HVC.out HVO.out ?_ ?_); rfl; intro w2 r2 o2 s2; have R2 := Lib.hid r2; have O2 := Lib.hid o2; clear r2 o2 s2))
            go_roundw
            case rel => exact ⟨j + 1, by omega, by go_num, by have h := R2.out; rw [HST.out] at h; exact h, (HBW.out.next B9.out).trans (O2.out.below HGB.out (HBW.out.next B9.out).size)⟩
            case measure => simp [intOf]; omega
        · have ej : j = C.length := by omega
          have HROW : Hid (Row wr g 5 (u8s (tab L (cvk (sq A) (sq C) (k + 1))))) := Lib.hid (by
            rw [← tab_congr L (fun n _ => cvj_full A C k n), ← ej]; exact hrow)
          have HBW := Lib.hid hbw
          clear hrow hbw ej
          go_wp2
          go_roundw
          case rel => exact ⟨k + 1, by omega, by go_num, HROW.out, HBW.out⟩
          case measure => simp [intOf]; omega
    · have ek : k = A.length := by omega
      have HRD : Hid (Reads wr (.slice (some ⟨g, 0, none⟩) L L) (pm A C)) := Lib.hid (by
        rw [HPM.out]
        refine ⟨_, _, by rw [tab_length], by rw [tab_length]; exact Nat.le_refl _, ?_⟩
        rw [← ek]
        intro _
        exact ⟨g, 0, rfl, hrow.lt, fun j u hu => by rw [Nat.zero_add, hrow.cell]; exact hu⟩)
      have HBW := Lib.hid hbw
      clear hrow hbw ek
      go_wp2
      go_ret
      exact ⟨⟨_, rfl, HRD.out⟩, HBW.out⟩

theorem ptimes_any (b : Nat) (a c : Option Addr) (ca cc : Nat) (A C : List Nat) (w : World) (hf : Fld w b) (hA : By A) (hC : By C) (hla : A.length ≤ 1000000) (hlc : C.length ≤ 1000000)
    (hr : Lies w w.heap.size a (u8s A)) (hs : Lies w w.heap.size c (u8s C)) :
    Calls Try.prog 21 #[.pointer (some ⟨b, 0, none⟩), .slice a A.length ca, .slice c C.length cc] w fun e w' => (∃ v, e = .returned v ∧ Reads w' v (pm A C)) ∧ Below w.heap.size w w' := by
  by_cases h0 : A.length = 0
  · have hi : (A.length : Int) = 0 := by omega
    have hi1 : ((A.length : Int) == 0) = true := beq_iff_eq.2 hi
    have HP : Hid (pm A C = []) := Lib.hid (by unfold pm; rw [if_pos (Or.inl h0)])
    clear h0 hf hr hs
    go_enter Try.func21, Try.ntmps21
    go_wp2
    go_ret
    exact ⟨⟨_, rfl, by rw [HP.out]; exact Reads.nil _⟩, Below.refl _ _⟩
  · by_cases h1 : C.length = 0
    · have ha0 : ¬ (A.length : Int) = 0 := by omega
      have ha1 : ((A.length : Int) == 0) = false := beq_false_of_ne ha0
      have hi : (C.length : Int) = 0 := by omega
      have hi1 : ((C.length : Int) == 0) = true := beq_iff_eq.2 hi
      have HP : Hid (pm A C = []) := Lib.hid (by unfold pm; rw [if_pos (Or.inr h1)])
      clear h0 h1 hf hr hs
      go_enter Try.func21, Try.ntmps21
      go_wp2
      go_ret
      exact ⟨⟨_, rfl, by rw [HP.out]; exact Reads.nil _⟩, Below.refl _ _⟩
    · exact ptimes_some b a c ca cc A C w hf hA hC hla hlc (by omega) (by omega) hr hs

end Go.Proofs.Ytpkjannlndnfdaa
