/- The contract of poly's DivMod. -/
import Derived.Test.YtpnjmbhplckgmaaPolyF
import Derived.Test.YtpnjmbhplckgmaaInvS
import Derived.Test.YtpnjmbhplckgmaaPolyMath5
namespace Go.Proofs.Ytpnjmbhplckgmaa
open Go.RowKit GfMath PolyMath
set_option linter.unusedVariables false

def rsj (A C Q : List Nat) (k j n : Nat) : Nat := sq A n ^^^ cvj Q C k j n
theorem rsj_zero (A C Q : List Nat) (k n : Nat) : rsj A C Q k 0 n = rst A C Q k n := by rw [rsj, cvj_zero]; rfl
theorem rsj_full (A C Q : List Nat) (k n : Nat) : rsj A C Q k C.length n = rst A C Q (k + 1) n := by rw [rsj, cvj_full]; rfl
theorem rsj_step (A C Q : List Nat) (N k j : Nat) : (tab N (rsj A C Q k j)).set (k + j) (rsj A C Q k j (k + j) ^^^ gm (sq Q k) (sq C j)) = tab N (rsj A C Q k (j + 1)) := by
  rw [tab_set]
  refine tab_congr N fun n _ => ?_
  by_cases e : n = k + j
  · subst e
    rw [if_pos rfl, rsj, rsj, cvj, cvj, if_neg (by omega), if_pos (by omega), show k + j - k = j by omega, Nat.xor_zero, Nat.xor_assoc]
  · rw [if_neg e, rsj, rsj, cvj, cvj]
    by_cases h : k ≤ n ∧ n - k < j
    · rw [if_pos h, if_pos (by omega)]
    · rw [if_neg h, if_neg (by omega)]
theorem rsj_lt {A C Q : List Nat} (hA : By A) (hC : By C) (hQ : By Q) (k j n : Nat) : rsj A C Q k j n < 256 := xor_lt (hA.sq n) (cvj_lt hQ hC k j n)

theorem u8s_sq' {w : World} {b off : Nat} {l : List Nat} (h : ∀ j u, (u8s l)[j]? = some u → w.cell? ⟨b, off + j, none⟩ = some u) (j : Nat) (hj : j < l.length) : w.cell? ⟨b, off + j, none⟩ = some (.int .u8 (sq l j : Int)) := by
  rw [sq_get l j hj]; exact h j _ (u8s_get l j hj)
theorem divmod_zero (b : Nat) (a c : Option Addr) (ca cc : Nat) (X Y : List Nat) (w : World) (hlx : X.length ≤ 140737488355328) (hly : Y.length ≤ 140737488355328) (h1 : X.length ≤ ca) (h2 : Y.length ≤ cc) (h0 : (beh Y).length = 0)
    (hr : Lies w w.heap.size a (u8s X)) (hs : Lies w w.heap.size c (u8s Y)) :
    Calls Try.prog 27 #[.pointer (some ⟨b, 0, none⟩), .slice a X.length ca, .slice c Y.length cc] w fun e w' => e = .returned (.tuple #[.slice none 0 0, .slice none 0 0, .bool false]) ∧ w = w' := by
  have HB := Lib.hid (behind_any a ca X w hlx h1 hr)
  have HC := Lib.hid (behind_none c cc Y w hly h2 hs h0)
  clear hr hs h0
  go_enter Try.func27, Try.ntmps27
  go_wp2_with (first
    | (go_at_call 42; (with_reducible refine HC.out.mono ?_); rintro e w1 ⟨rfl, rfl⟩)
    | (go_at_call 42; (with_reducible refine HB.out.mono ?_); rintro e w1 ⟨⟨v, rfl, _⟩, rfl⟩))
  go_ret3
  exact ⟨rfl, rfl⟩

theorem divmod_less (b : Nat) (a c : Option Addr) (ca cc : Nat) (X Y : List Nat) (w : World) (hlx : X.length ≤ 1000000) (hly : Y.length ≤ 1000000) (h1 : X.length ≤ ca) (h2 : Y.length ≤ cc) (h0 : 0 < (beh Y).length) (hlt : (beh X).length < (beh Y).length)
    (hr : Lies w w.heap.size a (u8s X)) (hs : Lies w w.heap.size c (u8s Y)) :
    Calls Try.prog 27 #[.pointer (some ⟨b, 0, none⟩), .slice a X.length ca, .slice c Y.length cc] w fun e w' => (∃ v, e = .returned (.tuple #[.slice none 0 0, v, .bool true]) ∧ Reads w' v (beh X)) ∧ Below w.heap.size w w' := by
  have hbx := beh_le X
  have hby := beh_le Y
  have HC := Lib.hid (behind_some c cc Y w (by omega) h2 hs h0)
  have HB0 := Lib.hid (behind_none a ca X w (by omega) h1 hr)
  have HB1 := Lib.hid (behind_some a ca X w (by omega) h1 hr)
  obtain ⟨A, hA⟩ : ∃ A, beh X = A := ⟨_, rfl⟩
  obtain ⟨C, hC⟩ : ∃ C, beh Y = C := ⟨_, rfl⟩
  rw [hA] at HB0 HB1 hlt hbx ⊢
  rw [hC] at HC hlt hby h0
  have hlti : (A.length : Int) < C.length := by omega
  have hc0 : ¬ (C.length : Int) = 0 := by omega
  have hc1 : ((C.length : Int) == 0) = false := beq_false_of_ne hc0
  have hAb : A.length ≤ 1000000 := by omega
  by_cases hA0 : A.length = 0
  · have HB := Lib.hid (HB0.out hA0)
    have hAe : A = [] := List.eq_nil_of_length_eq_zero hA0
    have HAE := Lib.hid hAe
    have hlt0 : (0 : Int) < C.length := by omega
    clear hr hs h0 hlt hbx hby hA hC hlti HB0 HB1 hAe hA0
    go_enter Try.func27, Try.ntmps27
    go_wp2_with (first
      | (go_at_call 42; (with_reducible refine HB.out.mono ?_); rintro e w1 ⟨rfl, rfl⟩)
      | (go_at_call 42; (with_reducible refine HC.out.mono ?_); rintro e w1 ⟨⟨gc, oc, c2, rfl, _, _⟩, rfl⟩)
      | (go_at_call 43; (with_reducible refine (clone_nil w).mono ?_); rintro e w1 ⟨rfl, rfl⟩))
    go_ret3
    exact ⟨⟨_, rfl, by rw [HAE.out]; exact Reads.nil _⟩, Below.refl _ _⟩
  · have HB := Lib.hid (HB1.out (by omega))
    have HA0 := Lib.hid hA0
    have HAB := Lib.hid hAb
    clear hr hs h0 hlt hbx hby hA hC HB0 HB1 hA0
    go_enter Try.func27, Try.ntmps27
    go_wp2_with (first
      | (go_at_call 42; (with_reducible refine HB.out.mono ?_); rintro e w1 ⟨⟨ga, oa, a2, rfl, _, hm⟩, rfl⟩; have HM := Lib.hid hm; clear hm)
      | (go_at_call 42; (with_reducible refine HC.out.mono ?_); rintro e w1 ⟨⟨gc, oc, c2, rfl, _, _⟩, rfl⟩)
      | (go_at_call 43; (with_reducible refine (clone_any (some ⟨ga, oa, none⟩) a2 A w HAB.out (fun h => absurd h HA0.out) HM.out).mono ?_); rintro e w2 ⟨⟨v, rfl, hv⟩, b2⟩; have HV := Lib.hid hv; have B2 := Lib.hid b2; clear hv b2))
    go_ret3
    exact ⟨⟨_, rfl, HV.out⟩, B2.out⟩

set_option maxRecDepth 100000 in
set_option maxHeartbeats 4000000 in
theorem divmod_more (b : Nat) (a c : Option Addr) (ca cc : Nat) (X Y : List Nat) (w : World) (hf : Fld w b) (hX : By X) (hY : By Y) (hlx : X.length ≤ 1000000) (hly : Y.length ≤ 1000000) (h1 : X.length ≤ ca) (h2 : Y.length ≤ cc) (h0 : 0 < (beh Y).length) (hge : (beh Y).length ≤ (beh X).length)
    (hr : Lies w w.heap.size a (u8s X)) (hs : Lies w w.heap.size c (u8s Y)) :
    Calls Try.prog 27 #[.pointer (some ⟨b, 0, none⟩), .slice a X.length ca, .slice c Y.length cc] w fun e w' =>
      (∃ v v2, e = .returned (.tuple #[v, v2, .bool true]) ∧ Reads w' v (qs (beh X) (beh Y) ((beh X).length - (beh Y).length + 1)) ∧
        Reads w' v2 (beh (tab (beh X).length (rst (beh X) (beh Y) (qs (beh X) (beh Y) ((beh X).length - (beh Y).length + 1)) ((beh X).length - (beh Y).length + 1))))) ∧ Below w.heap.size w w' := by
  have hbx := beh_le X
  have hby := beh_le Y
  have HB := Lib.hid (behind_some a ca X w (by omega) h1 hr (by omega))
  have HC := Lib.hid (behind_some c cc Y w (by omega) h2 hs h0)
  have hA8 := hX.beh
  have hC8 := hY.beh
  have hy0 := beh_can Y h0
  obtain ⟨A, hA⟩ : ∃ A, beh X = A := ⟨_, rfl⟩
  obtain ⟨C, hC⟩ : ∃ C, beh Y = C := ⟨_, rfl⟩
  rw [hA] at HB hge hbx hA8
  rw [hC] at HC hge hby h0 hC8 hy0
  rw [hA, hC]
  obtain ⟨N, hN⟩ : ∃ N, A.length - C.length + 1 = N := ⟨_, rfl⟩
  rw [hN]
  have hNi : (A.length : Int) - (C.length : Int) + 1 = (N : Int) := by omega
  have hNb : (N : Int) ≤ 1000001 := by omega
  have hgei : ¬ (A.length : Int) < C.length := by omega
  have hgej : (C.length : Int) ≤ A.length := by omega
  have hc0 : ¬ (C.length : Int) = 0 := by omega
  have hc1 : ((C.length : Int) == 0) = false := beq_false_of_ne hc0
  have hcpos : 0 < (C.length : Int) := by omega
  have hcpn : 0 < C.length := by omega
  have hQ8 := qs_by hA8 hC8 N
  have hQl := qs_length A C N
  have hqst : ∀ k, k < N → gm (rst A C (qs A C N) k k) (iv (sq C 0)) = sq (qs A C N) k := fun k hk => (qs_step A C hk).symm
  obtain ⟨Q, hQ⟩ : ∃ Q, qs A C N = Q := ⟨_, rfl⟩
  rw [hQ] at hQ8 hQl hqst
  rw [hQ]
  have HAB : Hid (A.length ≤ 1000000) := Lib.hid (by omega)
  have HCB : Hid (C.length ≤ 1000000) := Lib.hid (by omega)
  have HA0 : Hid (0 < A.length) := Lib.hid (by omega)
  have HNL : Hid (A.length + 1 = N + C.length) := Lib.hid (by omega)
  have HA8 := Lib.hid hA8
  have HC8 := Lib.hid hC8
  have HQ8 := Lib.hid hQ8
  have HQL := Lib.hid hQl
  have HQST := Lib.hid hqst
  have HY0 := Lib.hid hy0
  have HF := Lib.hid hf
  have HI8 : Hid ((Try.prog.info? 5).map (fun i => (i.zero, i.size, i.bytes)) = some (some (.int .u8 0), 1, 8) ∨ (Try.prog.info? 5).map (fun i => (i.zero, i.size, i.bytes)) = some (some (.int .u8 0), 1, 1)) := Lib.hid (Or.inr info_byte)
  have HS1 := Lib.hid info_byte1
  have HLL : Hid (N ≤ N) := Lib.hid (Nat.le_refl _)
  have HLM0 : Hid (N ≤ 1099511627776) := Lib.hid (by omega)
  have HZC : Hid ((Value.int .u8 0).cells = #[.int .u8 0]) := Lib.hid rfl
  clear hr hs hf hX hY hbx hby hA hC hA8 hC8 hy0 hN hQ8 hQl hqst hQ h0 hge hlx hly
  go_enter Try.func27, Try.ntmps27
  go_wp2_with (first
    | (go_at_call 42; (with_reducible refine HB.out.mono ?_); rintro e w1 ⟨⟨ga, oa, a2, rfl, _, hm⟩, rfl⟩; have HM := Lib.hid hm; clear hm)
    | (go_at_call 42; (with_reducible refine HC.out.mono ?_); rintro e w1 ⟨⟨gc, oc, c2, rfl, _, hm⟩, rfl⟩; have HMC := Lib.hid hm; clear hm)
    | (go_at_call 43; (with_reducible refine (clone_some ga oa a2 A w HAB.out HA0.out HM.out).mono ?_); rintro e w1 ⟨⟨gr, cr, rfl, hgr, hown⟩, b1⟩; have HGRW := Lib.hid hgr; have HOWN := Lib.hid hown; have B1 := Lib.hid b1; clear hgr hown b1)
    | ((with_reducible refine wpMakeK 22 5 (.int .u8 0) N N Try.underlying22 HI8.out HZC.out HLL.out HLM0.out ?_ ?_); rfl; intro w2 r2 b2 s2; have R2 := Lib.hid r2; have B2 := Lib.hid b2; clear r2 b2 s2))
  obtain ⟨gq, hgq⟩ : ∃ gq, gq = w1.heap.size := ⟨_, rfl⟩
  rw [← hgq]
  obtain ⟨_, ys, hrow0⟩ := own_row HOWN.out
  have hcr := (own_lies HOWN.out).2
  have HNE : Hid (gr ≠ gq) := Lib.hid (by have := hrow0.lt; omega)
  have HGQW : Hid (w.heap.size ≤ gq) := Lib.hid (by rw [hgq]; exact B1.out.size)
  have HCR := Lib.hid hcr
  have HR0 : Hid (Row w2 gr 5 (u8s (tab A.length (rst A C Q 0)) ++ ys)) := Lib.hid (by rw [rst_zero]; exact hrow0.step B2.out)
  have HQ0 : Hid (Row w2 gq 5 (u8s (tab N (fun n => if n < 0 then sq Q n else 0)))) := Lib.hid (by
    rw [tab_congr N (g := fun _ => 0) fun n _ => by rw [if_neg (by omega)], ← tab_zero, u8s_zero, hgq]
    exact R2.out)
  have HB0 : Hid (Below w.heap.size w w2) := Lib.hid (B1.out.next B2.out)
  clear hrow0 hcr hgq R2 B2 B1 HOWN HM HB HC
  go_loopw [42] (fun i wr => ∃ k : Nat, k ≤ N ∧ i = .int .i64 k ∧ Row wr gr 5 (u8s (tab A.length (rst A C Q k)) ++ ys) ∧ Row wr gq 5 (u8s (tab N (fun n => if n < k then sq Q n else 0))) ∧ Below w.heap.size w wr) (fun i _ => N - (intOf i).toNat)
  case atStart => exact ⟨0, Nat.zero_le _, rfl, HR0.out, HQ0.out, HB0.out⟩
  case round =>
    clear HR0 HQ0 HB0
    obtain ⟨k, hk, rfl, hrr, hrq, hbw⟩ := hrel
    by_cases hlt : k < N
    · have hk1 : (k : Int) < N := by omega
      have hk0 : 0 ≤ (k : Int) := by omega
      have hkA : (k : Int) < A.length := by have := HNL.out; omega
      obtain ⟨bc, oc', ec, hbc, hcc⟩ := HMC.out (by rw [u8s_length]; omega)
      cases ec
      have hcy : wr.cell? ⟨gc, oc, none⟩ = some (.int .u8 (sq C 0 : Int)) := (hbw.cell (p := ⟨gc, oc, none⟩) hbc).trans (by have := u8s_sq' hcc 0 (by omega); rwa [Nat.add_zero] at this)
      have hcx : wr.cell? ⟨gr, k, none⟩ = some (.int .u8 (rst A C Q k k : Int)) := by
        rw [hrr.cell, List.getElem?_append_left (by rw [u8s_length, tab_length]; omega), u8s, List.getElem?_map, tab_get _ _ _ (by omega)]; rfl
      have hx8 := rst_lt HA8.out HC8.out HQ8.out k k
      have hy8 := HC8.out.sq 0
      have hqe := HQST.out k hlt
      have hy0 := HY0.out
      obtain ⟨x, hx⟩ : ∃ x, rst A C Q k k = x := ⟨_, rfl⟩
      obtain ⟨y, hy⟩ : ∃ y, sq C 0 = y := ⟨_, rfl⟩
      rw [hx] at hcx hx8 hqe
      rw [hy] at hcy hy8 hqe hy0
      have hDV0 : ∀ u, Fld u b → Calls Try.prog 44 #[.pointer (some ⟨b, 0, none⟩), .int .u8 (x : Int), .int .u8 (y : Int)] u fun e w' => e = .returned (.tuple #[.int .u8 (gm x (iv y) : Int), .bool true]) ∧ Below u.heap.size u w' := fun u hfu => div_any b x y u hfu hx8 hy8 hy0
      have hq8 := HQ8.out.sq k
      obtain ⟨q, hq⟩ : ∃ q, sq Q k = q := ⟨_, rfl⟩
      rw [hqe, hq] at hDV0
      rw [hq] at hq8
      have HDV := Lib.hid hDV0
      have HFR : Hid (Fld wr b) := Lib.hid (HF.out.step hbw)
      have HGR : Hid (gr < wr.heap.size) := Lib.hid hrr.lt
      have HGC : Hid (gc < wr.heap.size) := Lib.hid (Nat.lt_of_lt_of_le hbc hbw.size)
      have HCX := Lib.hid hcx
      have HCY := Lib.hid hcy
      have HRR : Hid (Row wr gr 5 (u8s (tab A.length (rsj A C Q k 0)) ++ ys)) := Lib.hid (by rw [tab_congr A.length fun n _ => rsj_zero A C Q k n]; exact hrr)
      have HRQ := Lib.hid hrq
      have HBW := Lib.hid hbw
      have HCZ : Hid (∀ u, Below wr.heap.size wr u → ∃ z, u.cell? ⟨gq, k, none⟩ = some z) := Lib.hid fun u hu => ⟨_, by rw [(hrq.step hu).cell, u8s, List.getElem?_map, tab_get _ _ _ hlt]; rfl⟩
      have HSTQ : Hid ((u8s (tab N (fun n => if n < k then sq Q n else 0))).set k (.int .u8 (q : Int)) = u8s (tab N (fun n => if n < k + 1 then sq Q n else 0))) := Lib.hid (by
        rw [u8s_set, tab_set]
        congr 1
        refine tab_congr N fun n _ => ?_
        by_cases e : n = k
        · subst e; rw [if_pos rfl, if_pos (by omega), hq]
        · rw [if_neg e]
          by_cases h : n < k
          · rw [if_pos h, if_pos (by omega)]
          · rw [if_neg h, if_neg (by omega)])
      have HQ2 := Lib.hid hq
      have HQB := Lib.hid hq8
      clear hrr hrq hbw hcc hbc hcx hcy hx8 hy8 hqe hy0 hx hy hDV0 hq hq8
      go_wp2
      refine region_store 15 [13] [(0, 46), (1, 47), (2, 48), (3, 49), (4, 50), (5, 51), (6, 52), (7, 53), (8, 54), (9, 55), (10, 56), (11, 45), (12, 57), (13, 58), (14, 59)]
        (fun i => [Is (.slice (some ⟨gq, 0, none⟩) N N), Is (.int .i64 (k : Int)), Is (.pointer (some ⟨b, 0, none⟩)), Is (.slice (some ⟨gr, 0, none⟩) A.length cr), Is (.int .i64 (k : Int)), Is (.pointer (some ⟨gr, k, none⟩)), Is (.int .u8 (x : Int)), Is (.slice (some ⟨gc, oc, none⟩) C.length c2), Is (.pointer (some ⟨gc, oc, none⟩)), Is (.int .u8 (y : Int)), Is (.tuple #[.int .u8 (q : Int), .bool true]), Is (.tuple #[.int .u8 (q : Int), .bool true]), Is (.int .u8 (q : Int)), Is (.bool true), Is (.pointer (some ⟨gq, k, none⟩))].getD i (Is undef))
        (fun w' => Below wr.heap.size wr w') (fun w' => Row w' gr 5 (u8s (tab A.length (rsj A C Q k 0)) ++ ys) ∧ Row w' gq 5 (u8s (tab N (fun n => if n < k + 1 then sq Q n else 0))) ∧ Below w.heap.size w w') (by kernel_rfl) rfl (by kernel_rfl) (by kernel_rfl) (by decide) (by decide) (by kernel_rfl) rfl rfl ?mono1 ((Below.refl _ _).drew) ?step1 ?stepX1 ?stepS1 ?fin1
      case mono1 =>
        intro i
        match i with
        | 0 | 1 | 2 | 3 | 4 | 5 | 6 | 7 | 8 | 9 | 10 | 11 | 12 | 13 | 14 => exact Is.monot _
        | _ + 15 => exact Is.monot _
      case step1 =>
        refine List.forall_mem_cons.2 ⟨?p0, List.forall_mem_cons.2 ⟨?p1, List.forall_mem_cons.2 ⟨?p2, List.forall_mem_cons.2 ⟨?p3, List.forall_mem_cons.2 ⟨?p4, List.forall_mem_cons.2 ⟨?p5, List.forall_mem_cons.2 ⟨?p6, List.forall_mem_cons.2 ⟨?p7, List.forall_mem_cons.2 ⟨?p8, List.forall_mem_cons.2 ⟨?p9, List.forall_mem_cons.2 ⟨?p10, List.forall_mem_cons.2 ⟨?p11, List.forall_mem_cons.2 ⟨?p12, List.forall_mem_cons.2 ⟨?p13, List.forall_mem_cons.2 ⟨?p14, List.forall_mem_nil _⟩⟩⟩⟩⟩⟩⟩⟩⟩⟩⟩⟩⟩⟩⟩
        case p5 =>
          intro u wx hg hC
          have hJ3 : u 3 = (.slice (some ⟨gr, 0, none⟩) A.length cr) := hC.at 3 (by kernel_rfl)
          have hJ4 : u 4 = (.int .i64 (k : Int)) := hC.at 4 (by kernel_rfl)
          clear hC
          refine wpOp_step rfl (fun K hK => ?_)
          simp only [puts, List.foldl]
          go_simp
          exact hK _ _ ⟨rfl, rfl, hg, Below.refl _ _⟩
        case p6 =>
          intro u wx hg hC
          have hJ : u 5 = (.pointer (some ⟨gr, k, none⟩)) := hC.at 5 (by kernel_rfl)
          clear hC
          have hcl : wx.cell? ⟨gr, k, none⟩ = some (.int .u8 (x : Int)) := (hg.cell (p := ⟨gr, k, none⟩) HGR.out).trans HCX.out
          refine wpOp_step rfl (fun K hK => ?_)
          simp only [puts, List.foldl]
          go_simp
          exact hK _ _ ⟨rfl, rfl, hg, Below.refl _ _⟩
        case p8 =>
          intro u wx hg hC
          have hJ7 : u 7 = (.slice (some ⟨gc, oc, none⟩) C.length c2) := hC.at 7 (by kernel_rfl)
          clear hC
          refine wpOp_step rfl (fun K hK => ?_)
          simp only [puts, List.foldl]
          go_simp
          exact hK _ _ ⟨rfl, rfl, hg, Below.refl _ _⟩
        case p9 =>
          intro u wx hg hC
          have hJ : u 8 = (.pointer (some ⟨gc, oc, none⟩)) := hC.at 8 (by kernel_rfl)
          clear hC
          have hcl : wx.cell? ⟨gc, oc, none⟩ = some (.int .u8 (y : Int)) := (hg.cell (p := ⟨gc, oc, none⟩) HGC.out).trans HCY.out
          refine wpOp_step rfl (fun K hK => ?_)
          simp only [puts, List.foldl]
          go_simp
          exact hK _ _ ⟨rfl, rfl, hg, Below.refl _ _⟩
        case p10 =>
          intro u wx hg hC
          have hJ2 : u 2 = (.pointer (some ⟨b, 0, none⟩)) := hC.at 2 (by kernel_rfl)
          have hJ6 : u 6 = (.int .u8 (x : Int)) := hC.at 6 (by kernel_rfl)
          have hJ9 : u 9 = (.int .u8 (y : Int)) := hC.at 9 (by kernel_rfl)
          clear hC
          refine wpOp_step rfl (fun K hK => ?_)
          simp only [puts, List.foldl]
          go_simp
          refine (HDV.out wx (HFR.out.step hg)).mono ?_
          rintro e w' ⟨rfl, hb'⟩
          exact hK _ _ ⟨rfl, rfl, hg.next hb', hb'⟩
        case p11 =>
          intro u wx hg hC
          have hJ10 : u 10 = (.tuple #[.int .u8 (q : Int), .bool true]) := hC.at 10 (by kernel_rfl)
          clear hC
          refine wpOp_step rfl (fun K hK => ?_)
          simp only [puts, List.foldl]
          go_simp
          exact hK _ _ ⟨rfl, rfl, hg, Below.refl _ _⟩
        case p12 =>
          intro u wx hg hC
          have hJ11 : u 11 = (.tuple #[.int .u8 (q : Int), .bool true]) := hC.at 11 (by kernel_rfl)
          clear hC
          refine wpOp_step rfl (fun K hK => ?_)
          simp only [puts, List.foldl]
          go_simp
          exact hK _ _ ⟨rfl, rfl, hg, Below.refl _ _⟩
        case p13 =>
          intro u wx hg hC
          have hJ11 : u 11 = (.tuple #[.int .u8 (q : Int), .bool true]) := hC.at 11 (by kernel_rfl)
          clear hC
          refine wpOp_step rfl (fun K hK => ?_)
          simp only [puts, List.foldl]
          go_simp
          exact hK _ _ ⟨rfl, rfl, hg, Below.refl _ _⟩
        case p14 =>
          intro u wx hg hC
          have hJ0 : u 0 = (.slice (some ⟨gq, 0, none⟩) N N) := hC.at 0 (by kernel_rfl)
          have hJ1 : u 1 = (.int .i64 (k : Int)) := hC.at 1 (by kernel_rfl)
          clear hC
          refine wpOp_step rfl (fun K hK => ?_)
          simp only [puts, List.foldl]
          go_simp
          exact hK _ _ ⟨rfl, rfl, hg, Below.refl _ _⟩
        all_goals
          intro u wx hg hC
          clear hC
          refine wpOp_step rfl (fun K hK => ?_)
          simp only [puts, List.foldl]
          go_simp
          exact hK _ _ ⟨rfl, rfl, hg, Below.refl _ _⟩
      case stepX1 =>
        rintro ⟨i, d⟩ hp hx u wx hh hC
        have hi13 : i = 13 := by simpa using hx
        subst hi13
        have hd58 : d = 58 := by simpa using hp
        subst hd58
        obtain ⟨_, hJ11⟩ : ∃ w1, (Is (.tuple #[.int .u8 (q : Int), .bool true])) (u 11) w1 := hC.at 11 (by kernel_rfl)
        have hJ11' : u 11 = .tuple #[.int .u8 (q : Int), .bool true] := hJ11
        clear hC hJ11
        refine wpOp_step rfl (fun K hK => ?_)
        simp only [puts, List.foldl]
        go_simp
        exact hK _ _ ⟨rfl, ⟨wx, rfl⟩, hh⟩
      case stepS1 =>
        intro u w9 hbw9 hφ
        have h12 : u 12 = .int .u8 (q : Int) := hφ (12, 57) (by decide) (by decide)
        have h14 : u 14 = .pointer (some ⟨gq, k, none⟩) := hφ (14, 59) (by decide) (by decide)
        clear hφ
        have RQ9 := HRQ.out.step hbw9
        have RR9 := HRR.out.step hbw9
        obtain ⟨z, hz⟩ : ∃ z, w9.cell? ⟨gq, k, none⟩ = some z := HCZ.out w9 hbw9
        have hfz := RQ9.frozen k
        have HQ9 := Lib.hid RQ9
        have HR9 := Lib.hid RR9
        have HB9 := Lib.hid hbw9
        clear RQ9 RR9 hbw9
        refine wpOp_step rfl (fun K hK => ?_)
        simp only [puts, List.foldl]
        go_simp
        refine hK _ _ ⟨rfl, HR9.out.far ⟨gq, k, none⟩ _ HNE.out, ?_, (HBW.out.next HB9.out).setCell (p := ⟨gq, k, none⟩) HGQW.out _⟩
        have h := HQ9.out.set k (.int .u8 (q : Int))
        rw [HSTQ.out] at h
        exact h
      case fin1 =>
        rintro u wq ⟨hrr, hrq, hbw2⟩ hφ
        clear hφ
        simp only [puts, List.foldl]
        go_simp
        have R0 := Lib.hid hrr
        have Q0 := Lib.hid hrq
        have B0 := Lib.hid hbw2
        clear hrr hrq hbw2 HRR HRQ HBW HCZ HSTQ HCX HCY HGR HGC HDV HFR
        go_wp2
        go_loopw [62] (fun i wr => ∃ j : Nat, j ≤ C.length ∧ i = .int .i64 j ∧ Row wr gr 5 (u8s (tab A.length (rsj A C Q k j)) ++ ys) ∧ Row wr gq 5 (u8s (tab N (fun n => if n < k + 1 then sq Q n else 0))) ∧ Below w.heap.size w wr) (fun i _ => C.length - (intOf i).toNat)
        case atStart => exact ⟨0, Nat.zero_le _, rfl, R0.out, Q0.out, B0.out⟩
        case round =>
          clear R0 Q0 B0
          obtain ⟨j, hj, rfl, hrr, hrq, hbw⟩ := hrel
          by_cases hlj : j < C.length
          · have hj1 : (j : Int) < C.length := by omega
            have hj0 : 0 ≤ (j : Int) := by omega
            have hjb : (j : Int) ≤ 1000000 := by have := HCB.out; omega
            obtain ⟨bc, oc', ec, hbc, hcc⟩ := HMC.out (by rw [u8s_length]; omega)
            cases ec
            have hcell3 : wr.cell? ⟨gc, oc + j, none⟩ = some (.int .u8 (sq C j : Int)) := (hbw.cell (p := ⟨gc, oc + j, none⟩) hbc).trans (u8s_sq' hcc j hlj)
            obtain ⟨m, hm⟩ : ∃ m, k + j = m := ⟨_, rfl⟩
            have hmi : (k : Int) + (j : Int) = (m : Int) := by omega
            have hmL : m < A.length := by have := HNL.out; omega
            have hm1 : (m : Int) < A.length := by omega
            have hm0 : 0 ≤ (m : Int) := by omega
            have hmb := HAB.out
            have hmw : IntKind.i64.wrap (m : Int) = (m : Int) := by rw [IntKind.wrap_i64]; omega
            have hst := rsj_step A C Q A.length k j
            have hp8 := rsj_lt HA8.out HC8.out HQ8.out k j m
            have hcp : wr.cell? ⟨gr, m, none⟩ = some (.int .u8 (rsj A C Q k j m : Int)) := by
              rw [hrr.cell, List.getElem?_append_left (by rw [u8s_length, tab_length]; exact hmL), u8s, List.getElem?_map, tab_get _ _ _ hmL]; rfl
            have hcq : wr.cell? ⟨gq, k, none⟩ = some (.int .u8 (q : Int)) := by
              rw [hrq.cell, u8s, List.getElem?_map, tab_get _ _ _ hlt, if_pos (by omega), HQ2.out]; rfl
            rw [hm, HQ2.out] at hst
            have hd8 := HC8.out.sq j
            have hq8 := HQB.out
            obtain ⟨d, hd⟩ : ∃ d, sq C j = d := ⟨_, rfl⟩
            rw [hd] at hst hcell3 hd8
            have ht8 := gm_lt hq8 hd8
            obtain ⟨p, hp⟩ : ∃ p, rsj A C Q k j m = p := ⟨_, rfl⟩
            rw [hp] at hst hp8 hcp
            have HMU0 : ∀ (u : World) (b1 : Nat), Fld u b → Lies u u.heap.size (some ⟨b1, 0, none⟩) [.int .u8 (q : Int), .int .u8 (d : Int)] → Calls Try.prog 46 #[.pointer (some ⟨b, 0, none⟩), .slice (some ⟨b1, 0, none⟩) 2 2] u fun e w' => e = .returned (.int .u8 (gm q d : Int)) ∧ Below u.heap.size u w' := fun u b1 hf hl => mul_two b b1 2 q d u hf hq8 hd8 hl
            obtain ⟨t, ht⟩ : ∃ t, gm q d = t := ⟨_, rfl⟩
            rw [ht] at HMU0 hst ht8
            have HAD0 : ∀ (u : World) (b1 : Nat), Lies u u.heap.size (some ⟨b1, 0, none⟩) [.int .u8 (p : Int), .int .u8 (t : Int)] → Calls Try.prog 45 #[.pointer (some ⟨b, 0, none⟩), .slice (some ⟨b1, 0, none⟩) 2 2] u fun e w' => e = .returned (.int .u8 ((p ^^^ t : Nat) : Int)) ∧ Below u.heap.size u w' := fun u b1 hl => (add_two b b1 2 p t u hp8 ht8 hl).mono fun _ u' h => ⟨h.1, by rw [← h.2]; exact Below.refl _ _⟩
            obtain ⟨r, hr⟩ : ∃ r, p ^^^ t = r := ⟨_, rfl⟩
            rw [hr] at HAD0 hst
            have HMU := Lib.hid HMU0
            have HAD := Lib.hid HAD0
            have HCP := Lib.hid hcp
            have HCQ := Lib.hid hcq
            have HRR2 := Lib.hid hrr
            have HRQ2 := Lib.hid hrq
            have HBW2 := Lib.hid hbw
            have HGR2 : Hid (gr < wr.heap.size) := Lib.hid hrr.lt
            have HGQ2 : Hid (gq < wr.heap.size) := Lib.hid hrq.lt
            have HFR2 : Hid (Fld wr b) := Lib.hid (HF.out.step hbw)
            have HLM : Hid (m < (u8s (tab A.length (rsj A C Q k j)) ++ ys).length) := Lib.hid (by rw [List.length_append, u8s_length, tab_length]; omega)
            have HVC : Hid ((Value.int .u8 (r : Int)).cells = #[.int .u8 (r : Int)]) := Lib.hid rfl
            have HVO : Hid ((Value.int .u8 (r : Int)).oneCell' = true) := Lib.hid rfl
            have HST : Hid ((u8s (tab A.length (rsj A C Q k j)) ++ ys).set m (.int .u8 (r : Int)) = u8s (tab A.length (rsj A C Q k (j + 1))) ++ ys) := Lib.hid (by rw [List.set_append_left _ _ (by rw [u8s_length, tab_length]; exact hmL), u8s_set, hst])
            clear HMU0 HAD0 hcp hcq hrr hrq hbw hst hp hr hd hcc hbc hm hmL hp8 hd8 hq8 ht8 ht hmb
            go_wp2
            refine region_tail 21 [(0, 67), (1, 68), (2, 69), (3, 70), (4, 71), (5, 72), (6, 73), (7, 74), (8, 75), (9, 76), (10, 77), (11, 78), (12, 79), (13, 80), (14, 81), (15, 82), (16, 83), (17, 84), (18, 85), (19, 86), (20, 87)]
              (fun i => [Is (.slice (some ⟨gr, 0, none⟩) A.length cr), Is (.int .i64 (k : Int)), Is (.int .i64 (j : Int)), Is (.int .i64 (m : Int)), Is (.pointer (some ⟨b, 0, none⟩)), Is (.slice (some ⟨gr, 0, none⟩) A.length cr), Is (.int .i64 (k : Int)), Is (.int .i64 (j : Int)), Is (.int .i64 (m : Int)), Is (.pointer (some ⟨gr, m, none⟩)), Is (.int .u8 (p : Int)), Is (.pointer (some ⟨b, 0, none⟩)), Is (.slice (some ⟨gq, 0, none⟩) N N), Is (.int .i64 (k : Int)), Is (.pointer (some ⟨gq, k, none⟩)), Is (.int .u8 (q : Int)), Is (.int .u8 (d : Int)), New [.int .u8 (q : Int), .int .u8 (d : Int)], Is (.int .u8 (t : Int)), New [.int .u8 (p : Int), .int .u8 (t : Int)], Is (.int .u8 (r : Int))].getD i (Is undef))
              (fun w' => Below wr.heap.size wr w') (by kernel_rfl) (by decide) (by kernel_rfl) (by kernel_rfl) (by kernel_rfl) (by decide) (by decide) (by kernel_rfl) rfl ?mono ((Below.refl _ _).drew) ?step ?fin
            case mono =>
              intro i
              match i with
              | 0 | 1 | 2 | 3 | 4 | 5 | 6 | 7 | 8 | 9 | 10 | 11 | 12 | 13 | 14 | 15 | 16 | 18 | 20 => exact Is.monot _
              | 17 | 19 => exact New.monot _
              | _ + 21 => exact Is.monot _
            case step =>
              refine List.forall_mem_cons.2 ⟨?s0, List.forall_mem_cons.2 ⟨?s1, List.forall_mem_cons.2 ⟨?s2, List.forall_mem_cons.2 ⟨?s3, List.forall_mem_cons.2 ⟨?s4, List.forall_mem_cons.2 ⟨?s5, List.forall_mem_cons.2 ⟨?s6, List.forall_mem_cons.2 ⟨?s7, List.forall_mem_cons.2 ⟨?s8, List.forall_mem_cons.2 ⟨?s9, List.forall_mem_cons.2 ⟨?s10, List.forall_mem_cons.2 ⟨?s11, List.forall_mem_cons.2 ⟨?s12, List.forall_mem_cons.2 ⟨?s13, List.forall_mem_cons.2 ⟨?s14, List.forall_mem_cons.2 ⟨?s15, List.forall_mem_cons.2 ⟨?s16, List.forall_mem_cons.2 ⟨?s17, List.forall_mem_cons.2 ⟨?s18, List.forall_mem_cons.2 ⟨?s19, List.forall_mem_cons.2 ⟨?s20, List.forall_mem_nil _⟩⟩⟩⟩⟩⟩⟩⟩⟩⟩⟩⟩⟩⟩⟩⟩⟩⟩⟩⟩⟩
              case s3 =>
                intro u wx hg hC
                have hJ1 : u 1 = (.int .i64 (k : Int)) := hC.at 1 (by kernel_rfl)
                have hJ2 : u 2 = (.int .i64 (j : Int)) := hC.at 2 (by kernel_rfl)
                clear hC
                refine wpOp_step rfl (fun K hK => ?_)
                simp only [puts, List.foldl]
                go_simp
                exact hK _ _ ⟨rfl, rfl, hg, Below.refl _ _⟩
              case s8 =>
                intro u wx hg hC
                have hJ6 : u 6 = (.int .i64 (k : Int)) := hC.at 6 (by kernel_rfl)
                have hJ7 : u 7 = (.int .i64 (j : Int)) := hC.at 7 (by kernel_rfl)
                clear hC
                refine wpOp_step rfl (fun K hK => ?_)
                simp only [puts, List.foldl]
                go_simp
                exact hK _ _ ⟨rfl, rfl, hg, Below.refl _ _⟩
              case s9 =>
                intro u wx hg hC
                have hJ5 : u 5 = (.slice (some ⟨gr, 0, none⟩) A.length cr) := hC.at 5 (by kernel_rfl)
                have hJ8 : u 8 = (.int .i64 (m : Int)) := hC.at 8 (by kernel_rfl)
                clear hC
                refine wpOp_step rfl (fun K hK => ?_)
                simp only [puts, List.foldl]
                go_simp
                exact hK _ _ ⟨rfl, rfl, hg, Below.refl _ _⟩
              case s10 =>
                intro u wx hg hC
                have hJ : u 9 = (.pointer (some ⟨gr, m, none⟩)) := hC.at 9 (by kernel_rfl)
                clear hC
                have hcl : wx.cell? ⟨gr, m, none⟩ = some (.int .u8 (p : Int)) := (hg.cell (p := ⟨gr, m, none⟩) HGR2.out).trans HCP.out
                refine wpOp_step rfl (fun K hK => ?_)
                simp only [puts, List.foldl]
                go_simp
                exact hK _ _ ⟨rfl, rfl, hg, Below.refl _ _⟩
              case s14 =>
                intro u wx hg hC
                have hJ12 : u 12 = (.slice (some ⟨gq, 0, none⟩) N N) := hC.at 12 (by kernel_rfl)
                have hJ13 : u 13 = (.int .i64 (k : Int)) := hC.at 13 (by kernel_rfl)
                clear hC
                refine wpOp_step rfl (fun K hK => ?_)
                simp only [puts, List.foldl]
                go_simp
                exact hK _ _ ⟨rfl, rfl, hg, Below.refl _ _⟩
              case s15 =>
                intro u wx hg hC
                have hJ : u 14 = (.pointer (some ⟨gq, k, none⟩)) := hC.at 14 (by kernel_rfl)
                clear hC
                have hcl : wx.cell? ⟨gq, k, none⟩ = some (.int .u8 (q : Int)) := (hg.cell (p := ⟨gq, k, none⟩) HGQ2.out).trans HCQ.out
                refine wpOp_step rfl (fun K hK => ?_)
                simp only [puts, List.foldl]
                go_simp
                exact hK _ _ ⟨rfl, rfl, hg, Below.refl _ _⟩
              case s17 =>
                intro u wx hg hC
                have hJ15 : u 15 = (.int .u8 (q : Int)) := hC.at 15 (by kernel_rfl)
                have hJ16 : u 16 = (.int .u8 (d : Int)) := hC.at 16 (by kernel_rfl)
                clear hC
                refine wpOp_step rfl (fun K hK => ?_)
                simp only [puts, List.foldl]
                go_simp
                exact hK _ _ ⟨rfl, ⟨wx.heap.size, rfl, Lies.new [_, _] _ _⟩, hg.alloc hg.size _, alloc_below _ _⟩
              case s18 =>
                intro u wx hg hC
                have hJ11 : u 11 = (.pointer (some ⟨b, 0, none⟩)) := hC.at 11 (by kernel_rfl)
                obtain ⟨b1, h2, hl⟩ : New [.int .u8 (q : Int), .int .u8 (d : Int)] (u 17) wx := hC.at 17 (by kernel_rfl)
                clear hC
                simp only [List.length_cons, List.length_nil, Nat.zero_add, Nat.reduceAdd] at h2
                refine wpOp_step rfl (fun K hK => ?_)
                simp only [puts, List.foldl]
                go_simp
                refine (HMU.out wx b1 (HFR2.out.step hg) hl).mono ?_
                rintro e w' ⟨rfl, hb'⟩
                exact hK _ _ ⟨rfl, rfl, hg.next hb', hb'⟩
              case s19 =>
                intro u wx hg hC
                have hJ10 : u 10 = (.int .u8 (p : Int)) := hC.at 10 (by kernel_rfl)
                have hJ18 : u 18 = (.int .u8 (t : Int)) := hC.at 18 (by kernel_rfl)
                clear hC
                refine wpOp_step rfl (fun K hK => ?_)
                simp only [puts, List.foldl]
                go_simp
                exact hK _ _ ⟨rfl, ⟨wx.heap.size, rfl, Lies.new [_, _] _ _⟩, hg.alloc hg.size _, alloc_below _ _⟩
              case s20 =>
                intro u wx hg hC
                have hJ4 : u 4 = (.pointer (some ⟨b, 0, none⟩)) := hC.at 4 (by kernel_rfl)
                obtain ⟨b1, h2, hl⟩ : New [.int .u8 (p : Int), .int .u8 (t : Int)] (u 19) wx := hC.at 19 (by kernel_rfl)
                clear hC
                simp only [List.length_cons, List.length_nil, Nat.zero_add, Nat.reduceAdd] at h2
                refine wpOp_step rfl (fun K hK => ?_)
                simp only [puts, List.foldl]
                go_simp
                refine (HAD.out wx b1 hl).mono ?_
                rintro e w' ⟨rfl, hb'⟩
                exact hK _ _ ⟨rfl, rfl, hg.next hb', hb'⟩
              all_goals
                intro u wx hg hC
                clear hC
                refine wpOp_step rfl (fun K hK => ?_)
                simp only [puts, List.foldl]
                go_simp
                refine hK _ _ ?_
                clear hK K
                first
                  | (refine ⟨rfl, ?_, hg, Below.refl _ _⟩; rfl)
                  | (refine ⟨rfl, ?_, hg.alloc hg.size _, alloc_below _ _⟩; exact ⟨wx.heap.size, rfl, Lies.new [_] _ _⟩)
                  | (refine ⟨rfl, ?_, hg.alloc hg.size _, alloc_below _ _⟩; exact ⟨wx.heap.size, rfl, Lies.new [_, _] _ _⟩)
            case fin =>
              intro u w9 hbw9 hφ
              have h0 : u 0 = .slice (some ⟨gr, 0, none⟩) A.length cr := hφ (0, 67) (by decide)
              have h3 : u 3 = .int .i64 (m : Int) := hφ (3, 70) (by decide)
              have h20 : u 20 = .int .u8 (r : Int) := hφ (20, 87) (by decide)
              clear hφ
              simp only [puts, List.foldl]
              go_simp
              have R9 := Lib.hid (HRR2.out.step hbw9)
              have Q9 := Lib.hid (HRQ2.out.step hbw9)
              have B9 := Lib.hid hbw9
              clear hbw9
              go_wp2_with (first
                | ((with_reducible refine R9.out.wpStore1K m 5 (.int .u8 (r : Int)) HS1.out HLM.out HVC.out HVO.out ?_ ?_); rfl; intro w2 r2 o2 s2; have R2 := Lib.hid r2; have O2 := Lib.hid o2; clear r2 o2 s2))
              go_roundw
              case rel => exact ⟨j + 1, by omega, by go_num, by have h := R2.out; rw [HST.out] at h; exact h, Q9.out.only O2.out (Ne.symm HNE.out), (HBW2.out.next B9.out).trans (O2.out.below HGRW.out (HBW2.out.next B9.out).size)⟩
              case measure => first | (simp [intOf]; done) | (simp [intOf]; omega)
          · have ej : j = C.length := by omega
            have HRR : Hid (Row wr gr 5 (u8s (tab A.length (rst A C Q (k + 1))) ++ ys)) := Lib.hid (by
              rw [← tab_congr A.length (fun n _ => rsj_full A C Q k n), ← ej]; exact hrr)
            have HRQ := Lib.hid hrq
            have HBW := Lib.hid hbw
            clear hrr hrq hbw ej
            go_wp2
            go_roundw
            case rel => exact ⟨k + 1, by omega, by go_num, HRR.out, HRQ.out, HBW.out⟩
            case measure => first | (simp [intOf]; done) | (simp [intOf]; omega)
    · have ek : k = N := by omega
      rw [ek] at hrr hrq
      have HVQ : Hid (Reads wr (.slice (some ⟨gq, 0, none⟩) N N) Q) := Lib.hid (by
        refine ⟨_, _, by rw [HQL.out], by rw [HQL.out]; exact Nat.le_refl _, ?_⟩
        have e : tab N (fun n => if n < N then sq Q n else 0) = Q := by
          have h := tab_self Q
          rw [HQL.out] at h
          rw [← h]
          refine tab_congr N fun n hn => ?_
          rw [if_pos hn, h]
        rw [e] at hrq
        exact row_lies hrq)
      have hll : Lies wr wr.heap.size (some ⟨gr, 0, none⟩) (u8s (tab A.length (rst A C Q N))) := by
        have h := (row_lies hrr)
        intro h3
        obtain ⟨g2, o2, e2, h4, h5⟩ := h (by rw [List.length_append]; omega)
        exact ⟨g2, o2, e2, h4, fun j u hu => h5 j u (by rw [List.getElem?_append_left (List.getElem?_eq_some_iff.1 hu).1]; exact hu)⟩
      have HBE : Hid (Calls Try.prog 42 #[.slice (some ⟨gr, 0, none⟩) A.length cr] wr fun e w' => (∃ v, e = .returned v ∧ Reads wr v (beh (tab A.length (rst A C Q N)))) ∧ wr = w') := Lib.hid (by
        have h := behind_any (some ⟨gr, 0, none⟩) cr (tab A.length (rst A C Q N)) wr (by rw [tab_length]; have := HAB.out; omega) (by rw [tab_length]; exact HCR.out) hll
        rw [tab_length] at h
        exact h)
      have HBW := Lib.hid hbw
      clear hrr hrq hbw ek hll
      go_wp2_with (go_at_call 42; (with_reducible refine HBE.out.mono ?_); rintro e w2 ⟨⟨v, rfl, hv⟩, rfl⟩; have HV := Lib.hid hv; clear hv)
      go_ret3
      exact ⟨⟨_, _, rfl, HVQ.out, HV.out⟩, HBW.out⟩

theorem divmod_any (b : Nat) (a c : Option Addr) (ca cc : Nat) (X Y : List Nat) (w : World) (hf : Fld w b) (hX : By X) (hY : By Y) (hlx : X.length ≤ 1000000) (hly : Y.length ≤ 1000000) (h1 : X.length ≤ ca) (h2 : Y.length ≤ cc) (h0 : 0 < (beh Y).length)
    (hr : Lies w w.heap.size a (u8s X)) (hs : Lies w w.heap.size c (u8s Y)) :
    Calls Try.prog 27 #[.pointer (some ⟨b, 0, none⟩), .slice a X.length ca, .slice c Y.length cc] w fun e w' =>
      (∃ v v2, e = .returned (.tuple #[v, v2, .bool true]) ∧ Reads w' v (dq X Y) ∧ Reads w' v2 (dr X Y)) ∧ Below w.heap.size w w' := by
  by_cases hlt : (beh X).length < (beh Y).length
  · have e1 : dq X Y = [] := by unfold dq; exact if_pos hlt
    have e2 : dr X Y = beh X := by unfold dr; exact if_pos hlt
    rw [e1, e2]
    exact (divmod_less b a c ca cc X Y w hlx hly h1 h2 h0 hlt hr hs).mono fun e w' ⟨⟨v, h3, h4⟩, h5⟩ => ⟨⟨_, v, h3, Reads.nil _, h4⟩, h5⟩
  · have e1 : dq X Y = qs (beh X) (beh Y) ((beh X).length - (beh Y).length + 1) := by unfold dq; exact if_neg hlt
    have e2 : dr X Y = beh (tab (beh X).length (rst (beh X) (beh Y) (dq X Y) ((beh X).length - (beh Y).length + 1))) := by unfold dr; exact if_neg hlt
    rw [e2, e1]
    exact divmod_more b a c ca cc X Y w hf hX hY hlx hly h1 h2 h0 (by omega) hr hs

end Go.Proofs.Ytpnjmbhplckgmaa
