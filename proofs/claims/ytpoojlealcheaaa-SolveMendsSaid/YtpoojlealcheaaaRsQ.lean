/- The document's Solve: its walk. (gen_rs_solve.py) -/
import Derived.Test.YtpoojlealcheaaaRsP
namespace Go.Proofs.Ytpoojlealcheaaa
open Go.RowKit GfMath PolyMath RsMath
set_option linter.unusedVariables false
set_option maxRecDepth 100000

set_option maxHeartbeats 8000000 in
theorem rsolve_any (a : Option Addr) (cap : Nat) (W : List Nat) (b : Option Addr) (capb : Nat) (Pl : List Nat) (n k p : Nat) (w : World) (hW : By W) (hn : W.length = n) (h255 : n ≤ 255) (hp0 : 0 < p) (hkp : k + p = n) (hP : Plc Pl n)
    (hml : Pl.length ≤ 255) (hr : Lies w w.heap.size a (u8s W)) (hq : Lies w w.heap.size b (nats Pl)) :
    Calls Try.prog 41 #[.slice a n cap, .int .i64 (n : Int), .int .i64 (k : Int), .slice b Pl.length capb] w fun e w' => SolP w.heap.size (solveF W Pl p) e w' ∧ Below w.heap.size w w' := by
  obtain ⟨m, hm⟩ : ∃ m, m = Pl.length := ⟨_, rfl⟩
  obtain ⟨Z, hZ⟩ : ∃ Z, Z = zerow W Pl := ⟨_, rfl⟩
  obtain ⟨F, hF⟩ : ∃ F, F = mat Z Pl := ⟨_, rfl⟩
  obtain ⟨r, hrr⟩ : ∃ r, r = solveF W Pl p := ⟨_, rfl⟩
  have HRR : Hid (r = (gs F p m).bind fun G => if gone G m p then some (fillk Z Pl (fun c => G c m) m) else none) := Lib.hid (by rw [hrr, solveF, hF, hZ, hm])
  rw [← hrr]
  have hZl : Z.length = n := by rw [hZ, zerow_length, hn]
  have HZB : Hid (By Z) := Lib.hid (by rw [hZ]; exact zerow_by Pl hW)
  have HZE : Hid (Z = fillk W Pl (fun _ => 0) m) := Lib.hid (by rw [hZ, hm]; rfl)
  have HFB : Hid (Byf F) := Lib.hid (by rw [hF]; exact mat_by Pl HZB.out)
  have HFx : Hid (∀ i c, c < m → F i c = ex (i * (n - 1 - sq Pl c))) := Lib.hid fun i c hc => by rw [hF, mat, if_neg (by omega), hZl]
  have HFm : Hid (∀ i, F i m = ev Z (ex i)) := Lib.hid fun i => by rw [hF, mat, hm, if_pos rfl]
  have HPLT : Hid (∀ c, c < m → sq Pl c < n) := Lib.hid fun c hc => hP.lt c (by omega)
  have HWL := Lib.hid hn
  have HZL := Lib.hid hZl
  have HPL : Hid (Pl.length = m) := Lib.hid hm.symm
  have HQ := Lib.hid hq
  have HR0 := Lib.hid (hr.step (alloc_below w (.cells #[] 5)))
  have HOW0 := Lib.hid (own_zero w 5)
  have HUL : Hid ((u8s W).length = n) := Lib.hid (by rw [u8s_length, hn])
  have HU1 := Lib.hid (u8s_one W)
  have HBIG : Big (0 + n ≤ 1099511627776) := ⟨by omega⟩
  have HPK : Hid (0 < n) := Lib.hid (by omega)
  have HZ0 : Hid (w.heap.size ≤ (w.alloc (.cells #[] 5)).heap.size) := Lib.hid (by simp)
  have hb1 : (n : Int) ≤ 255 := by omega
  have hb2 : (m : Int) ≤ 255 := by omega
  have hb3 : (n : Int) - (k : Int) = (p : Int) := by omega
  have hb4 : (p : Int) ≤ 255 := by omega
  have hb5 : (k : Int) ≤ 255 := by omega
  have HM255 : Hid (m ≤ 255) := Lib.hid (by omega)
  have HN255 := Lib.hid h255
  have HP255 : Hid (p ≤ 255 ∧ 0 < p ∧ 0 < n) := Lib.hid (by omega)
  have HFI : Hid (fillk W Pl (fun _ => 0) 0 = W) := Lib.hid rfl
  rw [← hm]
  clear hW hn h255 hp0 hkp hP hml hr hq hm hZ hF hrr hZl
  go_enter Try.func41, Try.ntmps41
  go_wp2_with (first
    | ((with_reducible refine wpAppendK (base := w.heap.size) cap HOW0.out Try.underlying22 one_byte HR0.out HUL.out HPK.out HU1.out HBIG HZ0.out ?_ ?_); rfl; intro v1 u1 g1 q1 k1; rw [Nat.zero_add, List.nil_append] at g1; obtain ⟨g, cg, ys, rfl, hcg, hgw, row1⟩ := own_some g1 HPK.out; have R1 := Lib.hid row1; have GW := Lib.hid hgw; have CG := Lib.hid hcg; have B1 : Hid (Below w.heap.size w u1) := Lib.hid ((alloc_below w _).grown q1 HZ0.out (fun j hj => (HOW0.out.lt j hj).1)); have C1 := Lib.hid hcg; clear g1 q1 k1 row1 hgw hcg))
  go_loopw [11] (fun i wr => ∃ j : Nat, j ≤ m ∧ i = .int .i64 j ∧ Row wr g 5 (u8s (fillk W Pl (fun _ => 0) j) ++ ys) ∧ Below w.heap.size w wr) (fun i _ => m - (intOf i).toNat)
  case atStart => exact ⟨0, Nat.zero_le _, rfl, by rw [HFI.out]; exact R1.out, B1.out⟩
  case round =>
    obtain ⟨j, hj, rfl, hrow, hbw⟩ := hrel
    by_cases hlt : j < m
    · obtain ⟨bp, off, rfl, hbb, hc⟩ := HQ.out (by rw [nats_length, HPL.out]; omega)
      have hcell : wr.cell? ⟨bp, off + j, none⟩ = some (.int .i64 (sq Pl j : Int)) := (hbw.cell (p := ⟨bp, off + j, none⟩) hbb).trans (nats_sq (B := 0) hc j (by rw [HPL.out]; exact hlt))
      have hqn := HPLT.out j hlt
      have HFL : Hid ((fillk W Pl (fun _ => 0) j).length = n) := Lib.hid (by rw [fillk_length, HWL.out])
      have hst := rs_take_set hrow (sq Pl j) 0 (by rw [HFL.out]; exact hqn)
      rw [show (fillk W Pl (fun _ => 0) j).set (sq Pl j) 0 = fillk W Pl (fun _ => 0) (j + 1) from rfl] at hst
      obtain ⟨q, hq⟩ : ∃ q, sq Pl j = q := ⟨_, rfl⟩
      rw [hq] at hcell hqn hst
      have hu : ∃ u, wr.cell? ⟨g, q, none⟩ = some u := ⟨_, by rw [hrow.cell, List.getElem?_append_left (by rw [u8s_length, HFL.out]; exact hqn)]; exact List.getElem?_eq_getElem (by rw [u8s_length, HFL.out]; exact hqn)⟩
      obtain ⟨u, hu⟩ := hu
      have hfz := hrow.frozen q
      have HST := Lib.hid hst
      have HB2 : Hid (Below w.heap.size w (wr.setCell ⟨g, q, none⟩ (.int .u8 ((0 : Nat) : Int)))) := Lib.hid (hbw.setCell (p := ⟨g, q, none⟩) GW.out _)
      have hq1 : (q : Int) < n := by omega
      have hj1 : (j : Int) < m := by omega
      clear hrow hbw hst hq hc hlt
      go_wp2
      go_roundw
      case rel => exact ⟨j + 1, by omega, by go_num, HST.out, HB2.out⟩
      case measure => simp [intOf]; omega
    · have ej : j = m := by omega
      subst ej
      rw [← HZE.out] at hrow
      have R2 := Lib.hid hrow
      have B2 := Lib.hid hbw
      have HVA0 := rvalues_any (some ⟨g, 0, none⟩) cg Z p wr HZB.out (by rw [HZL.out]; have := HN255.out; omega) (by have := HP255.out; omega) (rs_lies hrow)
      rw [HZL.out] at HVA0
      have HVA := Lib.hid HVA0
      have HVL : Hid ((vals Z p).length = p) := Lib.hid (vals_length _ _)
      have HVS : Hid (∀ i, i < p → sq (vals Z p) i = F i j) := Lib.hid fun i hi => by rw [HFm.out i, vals, sq_tab, if_pos hi]
      clear hrow hbw HVA0 hlt hj
      go_wp2_with (go_at_call 60; (with_reducible refine HVA.out.mono ?_); rintro e u2 ⟨⟨v2, rfl, av, cv, rfl, hcv, hlv⟩, b2⟩; rw [HVL.out] at hcv ⊢; have LV2 := Lib.hid hlv; have R3 := Lib.hid (R2.out.step b2); have B3 : Hid (Below w.heap.size w u2) := Lib.hid (B2.out.next b2); have HCV := Lib.hid hcv; clear hlv b2 hcv)
      go_loopw [13, 14, 15, 16] (fun R i _ _ wr => ∃ t : Nat, t ≤ p ∧ i = .int .i64 t ∧ (∃ hb hc, RwB wr u2.heap.size R t j hb hc F) ∧ Below u2.heap.size u2 wr) (fun _ i _ _ _ => p - (intOf i).toNat)
      case atStart => exact ⟨0, Nat.zero_le _, rfl, ⟨_, _, RwB.zero u2 j F⟩, alloc_below _ _⟩
      case round =>
        obtain ⟨t, ht, rfl, ⟨hb, hc, hrw⟩, hbw⟩ := hrel
        obtain ⟨wo, rfl⟩ : ∃ wo, wo = wr := ⟨_, rfl⟩
        by_cases hlt : t < p
        · have ht1 : (t : Int) < p := by omega
          have HRW := Lib.hid hrw
          have HBW := Lib.hid hbw
          have hZW : u2.heap.size ≤ wo.heap.size := hbw.size
          have HZW := Lib.hid hZW
          have HT := Lib.hid hlt
          have hvform : ∃ ao co, u13 = .slice ao t co := by
            obtain ⟨ao, co, e, _⟩ := own_form hrw.own
            exact ⟨ao, co, e⟩
          obtain ⟨ao, co, rfl⟩ := hvform
          clear hrw hbw hlt hZW
          go_wp2
          go_loopw [15, 16] (fun v i wr => ∃ c : Nat, c ≤ j ∧ i = .int .i64 c ∧ wr.ownsRow wo.heap.size 3 1 v c (nats (tab c (F t))) ∧ Below wo.heap.size wo wr) (fun _ i _ => j - (intOf i).toNat)
          case atStart => exact ⟨0, Nat.zero_le _, rfl, own_zero wo _, alloc_below _ _⟩
          case round =>
            obtain ⟨c, hc', rfl, hown, hbq⟩ := hrel
            by_cases hlt : c < j
            · obtain ⟨bp, off, rfl, hbb, hcp⟩ := HQ.out (by rw [nats_length, HPL.out]; omega)
              have hb0 : Below w.heap.size w wr := (B3.out.next HBW.out).next hbq
              have hcell : wr.cell? ⟨bp, off + c, none⟩ = some (.int .i64 (sq Pl c : Int)) := (hb0.cell (p := ⟨bp, off + c, none⟩) hbb).trans (nats_sq (B := 0) hcp c (by rw [HPL.out]; exact hlt))
              have hqn := HPLT.out c hlt
              have HST0 := tab_snoc c (F t)
              rw [HFx.out t c hlt] at HST0
              obtain ⟨q, hq⟩ : ∃ q, sq Pl c = q := ⟨_, rfl⟩
              rw [hq] at hcell hqn HST0
              obtain ⟨d, hd⟩ : ∃ d, n - 1 - q = d := ⟨_, rfl⟩
              have hd1 : (n : Int) - 1 - (q : Int) = (d : Int) := by omega
              have hdn : (d : Int) ≤ 255 := by omega
              rw [hd] at HST0
              obtain ⟨x, hx⟩ : ∃ x, t * d = x := ⟨_, rfl⟩
              have hx1 : (t : Int) * (d : Int) = (x : Int) := by rw [← hx]; exact (Int.natCast_mul t d).symm
              have hxb : x ≤ 65025 := by rw [← hx]; exact Nat.mul_le_mul (show t ≤ 255 by have := HP255.out; omega) (show d ≤ 255 by omega)
              have hxb1 : (x : Int) ≤ 65025 := by omega
              rw [hx] at HST0
              have HEX : Hid (∀ u, Calls Try.prog 61 #[.int .i64 (x : Int)] u fun e w' => e = .returned (.int .i64 (ex x : Int)) ∧ u = w') := Lib.hid fun u => rexp_all x u (by omega)
              obtain ⟨y, hy⟩ : ∃ y, ex x = y := ⟨_, rfl⟩
              rw [hy] at HST0 HEX
              have HST := Lib.hid HST0
              have HOW := Lib.hid (hown.alloc (.cells #[.int .i64 (y : Int)] 3))
              have HL : Hid (Lies (wr.alloc (.cells #[.int .i64 (y : Int)] 3)) (wr.alloc (.cells #[.int .i64 (y : Int)] 3)).heap.size (some ⟨wr.heap.size, 0, none⟩) [.int .i64 (y : Int)]) := Lib.hid (Lies.new [_] _ _)
              have HO1 : Hid ((Value.int .i64 (y : Int)).oneCell' = true) := Lib.hid rfl
              have HPK3 : Big (c + 1 ≤ 1099511627776) := ⟨by have := HM255.out; omega⟩
              have HBQ2 := Lib.hid (hbq.alloc hbq.size (.cells #[.int .i64 (y : Int)] 3))
              have HZQ := Lib.hid HBQ2.out.size
              obtain ⟨a3, c3, rfl, _⟩ := own_form2 hown
              have HOL : Hid (∀ s, (Value.slice a3 c c3).ownBlock = some s → wo.heap.size ≤ s) := Lib.hid fun s hs => (hown.lt s hs).1
              have hn1 : IntKind.i64.wrap (x : Int) = (x : Int) := by rw [IntKind.wrap_i64]; omega
              have hq1 : (q : Int) < (n : Int) := by omega
              have hc1 : (c : Int) < (j : Int) := by omega
              have HC := Lib.hid hlt
              clear hown hbq hb0 hq hd hx hy HST0 hcp hxb hlt hqn
              go_wp2_with (first
                | (go_at_call 61; (with_reducible refine (HEX.out _).mono ?_); rintro e w2 ⟨rfl, rfl⟩)
                | ((with_reducible refine wpAppend1K HOW.out Try.underlying23 one_int HL.out HO1.out HPK3 HZQ.out ?_ ?_); rfl; intro v3 w3 g3 q3 k3; have HV3 := Lib.hid g3; have HG3 := Lib.hid q3; clear g3 q3 k3))
              go_roundw
              case rel => exact ⟨c + 1, by have := HC.out; omega, by go_num, by rw [HST.out, nats_snoc]; exact HV3.out, HBQ2.out.grown HG3.out HBQ2.out.size HOL.out⟩
              case measure => simp [intOf]; have := HC.out; omega
            · have ec : c = j := by omega
              subst ec
              have hb0 : Below u2.heap.size u2 wr := HBW.out.next hbq
              obtain ⟨bv, ov, rfl, hbv, hcv⟩ := LV2.out (by rw [nats_length, HVL.out]; have := HT.out; omega)
              have hcell : wr.cell? ⟨bv, ov + t, none⟩ = some (.int .i64 (sq (vals Z p) t : Int)) := (hb0.cell (p := ⟨bv, ov + t, none⟩) hbv).trans (nats_sq (B := 0) hcv t (by rw [HVL.out]; exact HT.out))
              have HST0 := tab_snoc c (F t)
              rw [HVS.out t HT.out] at hcell
              obtain ⟨y, hy⟩ : ∃ y, F t c = y := ⟨_, rfl⟩
              rw [hy] at HST0 hcell
              have HST := Lib.hid HST0
              have HOW := Lib.hid (hown.alloc (.cells #[.int .i64 (y : Int)] 3))
              have HL : Hid (Lies (wr.alloc (.cells #[.int .i64 (y : Int)] 3)) (wr.alloc (.cells #[.int .i64 (y : Int)] 3)).heap.size (some ⟨wr.heap.size, 0, none⟩) [.int .i64 (y : Int)]) := Lib.hid (Lies.new [_] _ _)
              have HO1 : Hid ((Value.int .i64 (y : Int)).oneCell' = true) := Lib.hid rfl
              have HPK3 : Big (c + 1 ≤ 1099511627776) := ⟨by have := HM255.out; omega⟩
              have HBQ2 := Lib.hid (hbq.alloc hbq.size (.cells #[.int .i64 (y : Int)] 3))
              have HZQ := Lib.hid HBQ2.out.size
              obtain ⟨a3, c3, rfl, _⟩ := own_form2 hown
              have HOL : Hid (∀ s, (Value.slice a3 c c3).ownBlock = some s → wo.heap.size ≤ s) := Lib.hid fun s hs => (hown.lt s hs).1
              have HPT : Big (t + 1 ≤ 1099511627776) := ⟨by have := HP255.out; omega⟩
              clear hown hbq hb0 hy HST0 hcv hlt
              go_wp2_with (first
                | ((with_reducible refine wpAppend1K HOW.out Try.underlying23 one_int HL.out HO1.out HPK3 HZQ.out ?_ ?_); rfl; intro v3 w3 g3 q3 k3; rw [← nats_snoc, ← HST.out] at g3; obtain ⟨g1, c1, ys1, rfl, _, hg1, hrow1⟩ := own_some g3 (Nat.succ_pos _); have B4 : Hid (Below wo.heap.size wo w3) := Lib.hid (HBQ2.out.grown q3 HBQ2.out.size HOL.out); have RW3 := Lib.hid (HRW.out.step B4.out); have RR3 := Lib.hid hrow1; have HG1 := Lib.hid hg1; have HL4 := Lib.hid (Lies.new [.slice (some ⟨g1, 0, none⟩) (c + 1) c1] w3 23); have RW4 := Lib.hid (RW3.out.step (alloc_below w3 (.cells #[.slice (some ⟨g1, 0, none⟩) (c + 1) c1] 23))); have RR4 := Lib.hid (RR3.out.step (alloc_below w3 (.cells #[.slice (some ⟨g1, 0, none⟩) (c + 1) c1] 23))); have B5 : Hid (Below wo.heap.size wo (w3.alloc (.cells #[.slice (some ⟨g1, 0, none⟩) (c + 1) c1] 23))) := Lib.hid (B4.out.trans ((alloc_below _ _).mono B4.out.size)); have Z5 : Hid (u2.heap.size ≤ (w3.alloc (.cells #[.slice (some ⟨g1, 0, none⟩) (c + 1) c1] 23)).heap.size) := Lib.hid (Nat.le_trans HZW.out B5.out.size); have HO4 : Hid ((Value.slice (some ⟨g1, 0, none⟩) (c + 1) c1).oneCell' = true) := Lib.hid rfl; clear g3 q3 k3 hrow1 hg1)
                | ((with_reducible refine wpAppend1K RW4.out.own Try.underlying92 one_ints HL4.out HO4.out HPT Z5.out ?_ ?_); rfl; intro v6 w6 g6 q6 k6; have A6 : Hid (∃ hb hc, RwB w6 u2.heap.size v6 (t + 1) c hb hc F) := Lib.hid ⟨_, _, RW4.out.add RR4.out (fun r hr e => by obtain ⟨zs, q⟩ := HRW.out.inner r hr; have := q.lt; have := HG1.out; omega) (Nat.le_trans HZW.out HG1.out) g6 q6⟩; have B6 : Hid (Below u2.heap.size u2 w6) := Lib.hid (Below.grown (HBW.out.next B5.out) q6 Z5.out (fun s hs => (RW4.out.own.lt s hs).1)); clear g6 q6 k6))
              go_roundw
              case rel => exact ⟨t + 1, by have := HT.out; omega, by go_num, A6.out, B6.out⟩
              case measure => simp [intOf]; have := HT.out; omega
        · have et : t = p := by omega
          subst et
          obtain ⟨o, co, rfl, hmt⟩ := hrw.mt HP255.out.2.1
          have MT := Lib.hid hmt
          have HB4 := Lib.hid hbw
          have HOU : Hid (u2.heap.size ≤ o) := Lib.hid hmt.obase
          have R4 := Lib.hid (R3.out.below hbw R3.out.lt)
          clear hrw hbw hmt hlt ht
          go_wp2
          obtain ⟨u4, rfl⟩ : ∃ u4, u4 = wr := ⟨_, rfl⟩
          go_loopw [17, 18, 19, 20, 21, 22, 23, 24] (fun U J _ _ _ _ _ _ wr => ∃ c : Nat, c ≤ j ∧ U = .int .i64 c ∧ J = .int .i64 c ∧ (∃ G hb hc, gs F t c = some G ∧ Mt wr u2.heap.size o t j hb hc G) ∧ Below u2.heap.size u2 wr) (fun _ J _ _ _ _ _ _ _ => j - (intOf J).toNat)
          case atStart => exact ⟨0, Nat.zero_le _, rfl, rfl, ⟨F, hb, hc, rfl, MT.out⟩, HB4.out⟩
          case round =>
            clear MT HB4 R4
            obtain ⟨c, hcj, rfl, rfl, ⟨G, hb, hc, hgs, hmt⟩, hbw⟩ := hrel
            obtain ⟨wo, rfl⟩ : ∃ wo, wo = wr := ⟨_, rfl⟩
            obtain ⟨hcH, hGB0, hU, _⟩ := gs_some HFB.out c G hgs
            have MT := Lib.hid hmt
            have HGS := Lib.hid hgs
            have HGB := Lib.hid hGB0
            have HBW := Lib.hid hbw
            have HCH := Lib.hid hcH
            clear hmt hgs hbw hU hGB0
            by_cases hlt : c < j
            · have hc1 : (c : Int) < j := by omega
              have HCJ := Lib.hid hlt
              have HPT := Lib.hid (show t ≤ 255 from HP255.out.1)
              clear hlt hcj
              go_wp2
              go_loop [19] (fun A => ∃ a : Nat, c ≤ a ∧ a ≤ t ∧ A = .int .i64 a ∧ ∀ i, c ≤ i → i < a → G i c = 0) (fun A => t - (intOf A).toNat)
              case atStart => exact ⟨c, Nat.le_refl _, HCH.out, rfl, fun i h1 h2 => absurd h2 (by omega)⟩
              case round =>
                obtain ⟨a', hca, hat, rfl, hz⟩ := hrel
                have HZ := Lib.hid hz
                have HCA := Lib.hid hca
                clear hz
                by_cases hlt : a' < t
                · have ha1 : (a' : Int) < t := by omega
                  have hc1' := MT.out.head a' hlt
                  have hc2' := MT.out.cell a' c hlt (Nat.le_of_lt HCJ.out)
                  have hcj2 : (c : Int) < (j : Int) + 1 := by omega
                  have HAT := Lib.hid hlt
                  by_cases h0 : G a' c = 0
                  · rw [h0] at hc2'
                    have HZ0 := Lib.hid h0
                    clear h0 hlt hca hat
                    go_wp2
                    go_round
                    case rel => exact ⟨a' + 1, by have := HCA.out; omega, by have := HAT.out; omega, by go_num, fun i h1 h2 => by
                      by_cases e : i = a'
                      · rw [e]; exact HZ0.out
                      · exact HZ.out i h1 (by omega)⟩
                    case measure => simp [intOf]; have := HAT.out; omega
                  · have HNE := Lib.hid h0
                    obtain ⟨x, hx⟩ : ∃ x, G a' c = x := ⟨_, rfl⟩
                    rw [hx] at hc2' h0
                    have HXG := Lib.hid hx
                    have hx0 : ((x : Int) == 0) = false := by simpa using h0
                    have hne : ((a' : Int) == (t : Int)) = false := by simp; omega
                    clear h0 hlt hca hat hx
                    have HX0 := Lib.hid hx0
                    have hc3' := MT.out.head c (by have := HCA.out; have := HAT.out; omega)
                    have hf1 := MT.out.frozenO a'
                    have hf2 := MT.out.frozenO c
                    have hct : (c : Int) < t := by have := HCA.out; omega
                    have hca0 : (c : Int) ≤ (a' : Int) := by have := HCA.out; omega
                    have HSW := Lib.hid (MT.out.swap c a' (by have := HCA.out; have := HAT.out; omega) HAT.out)
                    have HSB : Hid (Below u2.heap.size u2 ((wo.setCell ⟨o, c, none⟩ (.slice (some ⟨hb a', 0, none⟩) (j + 1) (hc a'))).setCell ⟨o, a', none⟩ (.slice (some ⟨hb c, 0, none⟩) (j + 1) (hc c)))) := Lib.hid ((HBW.out.setCell (p := ⟨o, c, none⟩) HOU.out _).setCell (p := ⟨o, a', none⟩) HOU.out _)
                    obtain ⟨E, hE⟩ : ∃ E, swapf G c a' = E := ⟨_, rfl⟩
                    obtain ⟨hb2, hhb⟩ : ∃ f, swapn hb c a' = f := ⟨_, rfl⟩
                    obtain ⟨hc2, hhc⟩ : ∃ f, swapn hc c a' = f := ⟨_, rfl⟩
                    rw [hE, hhb, hhc] at HSW
                    have HEX : Hid (E c c = x) := Lib.hid (by rw [← hE, swap_at]; exact HXG.out)
                    have HEB : Hid (Byf E) := Lib.hid (by rw [← hE]; exact byf_swap HGB.out c a')
                    have HE := Lib.hid hE
                    have hx256 : x < 256 := by rw [← HXG.out]; exact HGB.out a' c
                    have HXB := Lib.hid hx256
                    clear hE hhb hhc hx256
                    by_cases hac : a' = c
                    · subst hac
                      go_wp2
                      go_region
                      obtain ⟨W2, hW2⟩ : ∃ W2, ((wo.setCell ⟨o, a', none⟩ (.slice (some ⟨hb a', 0, none⟩) (j + 1) (hc a'))).setCell ⟨o, a', none⟩ (.slice (some ⟨hb a', 0, none⟩) (j + 1) (hc a'))).drew = W2 := ⟨_, rfl⟩
                      rw [hW2]
                      have M2 : Hid (Mt W2 u2.heap.size o t j hb2 hc2 E) := Lib.hid (by rw [← hW2]; exact HSW.out.drew)
                      have HBW2 : Hid (Below u2.heap.size u2 W2) := Lib.hid (by rw [← hW2]; exact HSB.out.drew)
                      clear hW2 hc1' hc2' hc3' hf1 hf2 HSW HSB
                      have hd1 := M2.out.head a' (by have := HCA.out; have := HAT.out; omega)
                      have hd2 := M2.out.cell a' a' (by have := HCA.out; have := HAT.out; omega) (Nat.le_of_lt HCJ.out)
                      rw [HEX.out] at hd2
                      have HIN : Hid (∀ u, Calls Try.prog 62 #[.int .i64 (x : Int)] u fun e w' => e = .returned (.int .i64 (iv x : Int)) ∧ u = w') := Lib.hid fun u => rinv_any x u HXB.out
                      obtain ⟨s, hs⟩ : ∃ s, iv x = s := ⟨_, rfl⟩
                      rw [hs] at HIN
                      have HS := Lib.hid hs
                      have hs256 : s < 256 := by rw [← hs]; exact iv_lt x
                      have HSB := Lib.hid hs256
                      clear hs hs256
                      have hcj2 : (a' : Int) < (j : Int) + 1 := by have := HCJ.out; omega
                      go_wp2_with (go_at_call 62; (with_reducible refine (HIN.out _).mono ?_); rintro e w2 ⟨rfl, rfl⟩)
                      clear hd1 hd2
                      go_loopw [21] (fun M wr => ∃ q : Nat, q ≤ j + 1 ∧ M = .int .i64 q ∧ Mt wr u2.heap.size o t j hb2 hc2 (scalek E a' s q) ∧ Below u2.heap.size u2 wr) (fun M _ => j + 1 - (intOf M).toNat)
                      case atStart => exact ⟨0, Nat.zero_le _, rfl, by rw [scalek_zero]; exact M2.out, HBW2.out⟩
                      case round =>
                        clear M2 HBW2
                        obtain ⟨q, hq, rfl, hmt, hbw⟩ := hrel
                        obtain ⟨wi, rfl⟩ : ∃ wi, wi = wr := ⟨_, rfl⟩
                        by_cases hlt : q ≤ j
                        · have hq1 : (q : Int) ≤ j := by omega
                          have hq2 : (q : Int) < (j : Int) + 1 := by omega
                          have HQJ := Lib.hid hlt
                          have HCT : Hid (a' < t) := Lib.hid (by have := HCA.out; have := HAT.out; omega)
                          have hd1 := hmt.head a' HCT.out
                          have hd2 := hmt.cell a' q HCT.out hlt
                          rw [scalek_at] at hd2
                          have hy8 := HEB.out a' q
                          obtain ⟨y, hy⟩ : ∃ y, E a' q = y := ⟨_, rfl⟩
                          rw [hy] at hd2 hy8
                          have HY := Lib.hid hy
                          have HMU : Hid (∀ u, Calls Try.prog 63 #[.int .i64 (y : Int), .int .i64 (s : Int)] u fun e w' => e = .returned (.int .i64 (gm y s : Int)) ∧ w' = u) := Lib.hid fun u => (rmul_any y s u hy8).mono fun e w' h => ⟨h.1, h.2.symm⟩
                          obtain ⟨z, hz'⟩ : ∃ z, gm y s = z := ⟨_, rfl⟩
                          rw [hz'] at HMU
                          have HZZ := Lib.hid hz'
                          have hfz := hmt.frozenI a' q HCT.out
                          have HST := Lib.hid (hmt.set a' q HCT.out hlt z)
                          have HB2 : Hid (Below u2.heap.size u2 (wi.setCell ⟨hb2 a', q, none⟩ (.int .i64 (z : Int)))) := Lib.hid (hbw.setCell (p := ⟨hb2 a', q, none⟩) (hmt.ibase a' HCT.out) _)
                          clear hmt hbw hy hz' hy8 hlt hq
                          go_wp2
                          go_still_tail 14, (by kernel_rfl)
                          repeat (first | still_call (HMU.out _) | still_step)
                          refine wpStill_nil ?_
                          change wpList _ _ _ _ _ wi.drew
                          go_wp2
                          go_roundw
                          case rel => exact ⟨q + 1, by have := HQJ.out; omega, by go_num, (HST.out.congr (fun r d _ _ => by rw [← scalek_next E a' s q r d, HY.out, HZZ.out])).drew, HB2.out.drew⟩
                          case measure => simp [intOf]; have := HQJ.out; omega
                        · have eq' : q = j + 1 := by omega
                          have hqj : ¬ (q : Int) ≤ (j : Int) := by omega
                          obtain ⟨E2, hE2⟩ : ∃ E2, scalef E a' = E2 := ⟨_, rfl⟩
                          have HE2 := Lib.hid hE2
                          have M3 : Hid (Mt wi u2.heap.size o t j hb2 hc2 E2) := Lib.hid (hmt.congr (fun r d _ hd => by rw [eq', ← HS.out, ← HEX.out, ← hE2]; exact scalek_end E a' j r d hd))
                          have HBW3 := Lib.hid hbw
                          have HE2B : Hid (Byf E2) := Lib.hid (by rw [← hE2]; exact byf_scale HEB.out a')
                          clear hmt hbw hE2 hlt hq eq'
                          go_wp2
                          go_loopw [22, 23, 24] (fun I _ _ wr => ∃ i : Nat, i ≤ t ∧ I = .int .i64 i ∧ Mt wr u2.heap.size o t j hb2 hc2 (elimk E2 a' i 0) ∧ Below u2.heap.size u2 wr) (fun I _ _ _ => t - (intOf I).toNat)
                          case atStart => exact ⟨0, Nat.zero_le _, rfl, by rw [elimk_zero]; exact M3.out, HBW3.out⟩
                          case round =>
                            clear M3 HBW3
                            obtain ⟨i, hi, rfl, hmt, hbw⟩ := hrel
                            obtain ⟨wi, rfl⟩ : ∃ wi, wi = wr := ⟨_, rfl⟩
                            have HCT : Hid (a' < t) := Lib.hid (by have := HCA.out; have := HAT.out; omega)
                            by_cases hlt : i < t
                            · have hi1 : (i : Int) < t := by omega
                              have HIT := Lib.hid hlt
                              have hd1 := hmt.head i hlt
                              have hd2 := hmt.cell i a' hlt (Nat.le_of_lt HCJ.out)
                              rw [elimk_at0 E2 a' i] at hd2
                              obtain ⟨f, hf⟩ : ∃ f, E2 i a' = f := ⟨_, rfl⟩
                              rw [hf] at hd2
                              have HF := Lib.hid hf
                              have hf8 : f < 256 := by rw [← hf]; exact HE2B.out i a'
                              have HF8 := Lib.hid hf8
                              have MI := Lib.hid hmt
                              have BI := Lib.hid hbw
                              clear hmt hbw hf hf8 hi hlt
                              by_cases hic : i = a' ∨ f = 0
                              · have HSK : Hid (Mt wi u2.heap.size o t j hb2 hc2 (elimk E2 a' (i + 1) 0)) := Lib.hid (MI.out.congr fun r d _ _ => elimk_skip E2 a' i (hic.imp (fun e => e) (fun e => by rw [HF.out, e])) r d)
                                by_cases hi2 : i = a'
                                · have hi3 : ((i : Int) == (a' : Int)) = true := by rw [hi2]; simp
                                  have HI2 := Lib.hid hi2
                                  clear hic hi2
                                  go_wp2
                                  go_roundw
                                  case rel => exact ⟨i + 1, by have := HIT.out; omega, by go_num, HSK.out, BI.out⟩
                                  case measure => simp [intOf]; have := HIT.out; omega
                                · have hf0 : f = 0 := hic.resolve_left hi2
                                  have hi3 : ((i : Int) == (a' : Int)) = false := by simp; omega
                                  rw [hf0] at hd2
                                  have HF0 := Lib.hid hf0
                                  have HI2 := Lib.hid hi2
                                  clear hic hi2 hf0
                                  go_wp2
                                  go_roundw
                                  case rel => exact ⟨i + 1, by have := HIT.out; omega, by go_num, HSK.out, BI.out⟩
                                  case measure => simp [intOf]; have := HIT.out; omega
                              · have hi2 : i ≠ a' := fun e => hic (Or.inl e)
                                have hf0 : f ≠ 0 := fun e => hic (Or.inr e)
                                have hi3 : ((i : Int) == (a' : Int)) = false := by simp; omega
                                have hf3 : ((f : Int) == 0) = false := by simp; omega
                                have HI2 := Lib.hid hi2
                                have HF0 := Lib.hid hf0
                                clear hic hi2 hf0
                                go_wp2
                                clear hd1 hd2
                                go_loopw [24] (fun M wr => ∃ q : Nat, q ≤ j + 1 ∧ M = .int .i64 q ∧ Mt wr u2.heap.size o t j hb2 hc2 (elimk E2 a' i q) ∧ Below u2.heap.size u2 wr) (fun M _ => j + 1 - (intOf M).toNat)
                                case atStart => exact ⟨0, Nat.zero_le _, rfl, MI.out, BI.out⟩
                                case round =>
                                  clear MI BI
                                  obtain ⟨q, hq, rfl, hmt, hbw⟩ := hrel
                                  obtain ⟨wi2, rfl⟩ : ∃ wi2, wi2 = wr := ⟨_, rfl⟩
                                  by_cases hlt : q ≤ j
                                  · have hq1 : (q : Int) ≤ j := by omega
                                    have hq2 : (q : Int) < (j : Int) + 1 := by omega
                                    have hct2 : (a' : Int) < t := by have := HCT.out; omega
                                    have HQJ := Lib.hid hlt
                                    have hd1 := hmt.head i HIT.out
                                    have hd2 := hmt.cell i q HIT.out hlt
                                    rw [elimk_at] at hd2
                                    have hd3 := hmt.head a' HCT.out
                                    have hd4 := hmt.cell a' q HCT.out hlt
                                    rw [elimk_self] at hd4
                                    have hy8 := HE2B.out i q
                                    have hz8 := HE2B.out a' q
                                    obtain ⟨y, hy⟩ : ∃ y, E2 i q = y := ⟨_, rfl⟩
                                    obtain ⟨z, hz'⟩ : ∃ z, E2 a' q = z := ⟨_, rfl⟩
                                    rw [hy] at hd2 hy8
                                    rw [hz'] at hd4 hz8
                                    have HY := Lib.hid hy
                                    have HZ' := Lib.hid hz'
                                    have HMU : Hid (∀ u, Calls Try.prog 63 #[.int .i64 (f : Int), .int .i64 (z : Int)] u fun e w' => e = .returned (.int .i64 (gm f z : Int)) ∧ w' = u) := Lib.hid fun u => (rmul_any f z u HF8.out).mono fun e w' h => ⟨h.1, h.2.symm⟩
                                    have hg8 : gm f z < 256 := gm_lt HF8.out hz8
                                    obtain ⟨v, hv⟩ : ∃ v, gm f z = v := ⟨_, rfl⟩
                                    rw [hv] at HMU hg8
                                    have HV := Lib.hid hv
                                    have hxor : bits .xor .i64 (y : Int) (v : Int) = ((y ^^^ v : Nat) : Int) := xor_i64 y v (by omega) (by omega)
                                    obtain ⟨u', hu'⟩ : ∃ u', y ^^^ v = u' := ⟨_, rfl⟩
                                    rw [hu'] at hxor
                                    have HU' := Lib.hid hu'
                                    have hfz := hmt.frozenI i q HIT.out
                                    have HST := Lib.hid (hmt.set i q HIT.out hlt u')
                                    have HB2 : Hid (Below u2.heap.size u2 (wi2.setCell ⟨hb2 i, q, none⟩ (.int .i64 (u' : Int)))) := Lib.hid (hbw.setCell (p := ⟨hb2 i, q, none⟩) (hmt.ibase i HIT.out) _)
                                    clear hmt hbw hy hz' hy8 hz8 hg8 hv hu' hlt hq
                                    go_wp2
                                    go_still_tail 22, (by kernel_rfl)
                                    repeat (first | still_call (HMU.out _) | still_step)
                                    refine wpStill_nil ?_
                                    change wpList _ _ _ _ _ wi2.drew
                                    go_wp2
                                    go_roundw
                                    case rel => exact ⟨q + 1, by have := HQJ.out; omega, by go_num, (HST.out.congr (fun r d _ _ => by rw [← elimk_next E2 a' i q HI2.out r d, HY.out, HZ'.out, HF.out, HV.out, HU'.out])).drew, HB2.out.drew⟩
                                    case measure => simp [intOf]; have := HQJ.out; omega
                                  · have eq' : q = j + 1 := by omega
                                    have hqj : ¬ (q : Int) ≤ (j : Int) := by omega
                                    have M5 : Hid (Mt wi2 u2.heap.size o t j hb2 hc2 (elimk E2 a' (i + 1) 0)) := Lib.hid (hmt.congr (fun r d _ hd => by rw [eq']; exact elimk_row E2 a' i j r d hd))
                                    have B5 := Lib.hid hbw
                                    clear hmt hbw hlt hq eq'
                                    go_wp2
                                    go_roundw
                                    case rel => exact ⟨i + 1, by have := HIT.out; omega, by go_num, M5.out, B5.out⟩
                                    case measure => simp [intOf]; have := HIT.out; omega
                            · have ei : i = t := by omega
                              subst ei
                              have M6 : Hid (Mt wi u2.heap.size o i j hb2 hc2 (stepf G a' a')) := Lib.hid (hmt.congr (fun r d hr _ => by rw [elimk_end E2 a' i r d hr, stepf, HE.out, HE2.out]))
                              have B6 := Lib.hid hbw
                              have HNX : Hid (gs F i (a' + 1) = some (stepf G a' a')) := Lib.hid (by
                                have h1 : pivf G i a' (i - a') = a' := pivf_at HCH.out HCA.out (Nat.le_of_lt HAT.out) HZ.out (Or.inr HNE.out)
                                rw [gs, HGS.out, Option.bind_some, h1, if_pos HAT.out])
                              clear hmt hbw hlt hi
                              go_wp2
                              go_roundw
                              case rel => exact ⟨a' + 1, by have := HCJ.out; omega, by go_num, by go_num, ⟨_, _, _, HNX.out, M6.out⟩, B6.out⟩
                              case measure => simp [intOf]; have := HCJ.out; omega
                    · have hne1 : ¬ (a' : Int) = (c : Int) := by omega
                      have hne2 : ¬ (c : Int) = (a' : Int) := by omega
                      have hne3 : ¬ c = a' := fun e => hac e.symm
                      go_wp2
                      go_region
                      obtain ⟨W2, hW2⟩ : ∃ W2, ((wo.setCell ⟨o, c, none⟩ (.slice (some ⟨hb a', 0, none⟩) (j + 1) (hc a'))).setCell ⟨o, a', none⟩ (.slice (some ⟨hb c, 0, none⟩) (j + 1) (hc c))).drew = W2 := ⟨_, rfl⟩
                      rw [hW2]
                      have M2 : Hid (Mt W2 u2.heap.size o t j hb2 hc2 E) := Lib.hid (by rw [← hW2]; exact HSW.out.drew)
                      have HBW2 : Hid (Below u2.heap.size u2 W2) := Lib.hid (by rw [← hW2]; exact HSB.out.drew)
                      clear hW2 hc1' hc2' hc3' hf1 hf2 HSW HSB hac hne1 hne2 hne3
                      have hd1 := M2.out.head c (by have := HCA.out; have := HAT.out; omega)
                      have hd2 := M2.out.cell c c (by have := HCA.out; have := HAT.out; omega) (Nat.le_of_lt HCJ.out)
                      rw [HEX.out] at hd2
                      have HIN : Hid (∀ u, Calls Try.prog 62 #[.int .i64 (x : Int)] u fun e w' => e = .returned (.int .i64 (iv x : Int)) ∧ u = w') := Lib.hid fun u => rinv_any x u HXB.out
                      obtain ⟨s, hs⟩ : ∃ s, iv x = s := ⟨_, rfl⟩
                      rw [hs] at HIN
                      have HS := Lib.hid hs
                      have hs256 : s < 256 := by rw [← hs]; exact iv_lt x
                      have HSB := Lib.hid hs256
                      clear hs hs256
                      have hcj2 : (c : Int) < (j : Int) + 1 := by have := HCJ.out; omega
                      go_wp2_with (go_at_call 62; (with_reducible refine (HIN.out _).mono ?_); rintro e w2 ⟨rfl, rfl⟩)
                      clear hd1 hd2
                      go_loopw [21] (fun M wr => ∃ q : Nat, q ≤ j + 1 ∧ M = .int .i64 q ∧ Mt wr u2.heap.size o t j hb2 hc2 (scalek E c s q) ∧ Below u2.heap.size u2 wr) (fun M _ => j + 1 - (intOf M).toNat)
                      case atStart => exact ⟨0, Nat.zero_le _, rfl, by rw [scalek_zero]; exact M2.out, HBW2.out⟩
                      case round =>
                        clear M2 HBW2
                        obtain ⟨q, hq, rfl, hmt, hbw⟩ := hrel
                        obtain ⟨wi, rfl⟩ : ∃ wi, wi = wr := ⟨_, rfl⟩
                        by_cases hlt : q ≤ j
                        · have hq1 : (q : Int) ≤ j := by omega
                          have hq2 : (q : Int) < (j : Int) + 1 := by omega
                          have HQJ := Lib.hid hlt
                          have HCT : Hid (c < t) := Lib.hid (by have := HCA.out; have := HAT.out; omega)
                          have hd1 := hmt.head c HCT.out
                          have hd2 := hmt.cell c q HCT.out hlt
                          rw [scalek_at] at hd2
                          have hy8 := HEB.out c q
                          obtain ⟨y, hy⟩ : ∃ y, E c q = y := ⟨_, rfl⟩
                          rw [hy] at hd2 hy8
                          have HY := Lib.hid hy
                          have HMU : Hid (∀ u, Calls Try.prog 63 #[.int .i64 (y : Int), .int .i64 (s : Int)] u fun e w' => e = .returned (.int .i64 (gm y s : Int)) ∧ w' = u) := Lib.hid fun u => (rmul_any y s u hy8).mono fun e w' h => ⟨h.1, h.2.symm⟩
                          obtain ⟨z, hz'⟩ : ∃ z, gm y s = z := ⟨_, rfl⟩
                          rw [hz'] at HMU
                          have HZZ := Lib.hid hz'
                          have hfz := hmt.frozenI c q HCT.out
                          have HST := Lib.hid (hmt.set c q HCT.out hlt z)
                          have HB2 : Hid (Below u2.heap.size u2 (wi.setCell ⟨hb2 c, q, none⟩ (.int .i64 (z : Int)))) := Lib.hid (hbw.setCell (p := ⟨hb2 c, q, none⟩) (hmt.ibase c HCT.out) _)
                          clear hmt hbw hy hz' hy8 hlt hq
                          go_wp2
                          go_still_tail 14, (by kernel_rfl)
                          repeat (first | still_call (HMU.out _) | still_step)
                          refine wpStill_nil ?_
                          change wpList _ _ _ _ _ wi.drew
                          go_wp2
                          go_roundw
                          case rel => exact ⟨q + 1, by have := HQJ.out; omega, by go_num, (HST.out.congr (fun r d _ _ => by rw [← scalek_next E c s q r d, HY.out, HZZ.out])).drew, HB2.out.drew⟩
                          case measure => simp [intOf]; have := HQJ.out; omega
                        · have eq' : q = j + 1 := by omega
                          have hqj : ¬ (q : Int) ≤ (j : Int) := by omega
                          obtain ⟨E2, hE2⟩ : ∃ E2, scalef E c = E2 := ⟨_, rfl⟩
                          have HE2 := Lib.hid hE2
                          have M3 : Hid (Mt wi u2.heap.size o t j hb2 hc2 E2) := Lib.hid (hmt.congr (fun r d _ hd => by rw [eq', ← HS.out, ← HEX.out, ← hE2]; exact scalek_end E c j r d hd))
                          have HBW3 := Lib.hid hbw
                          have HE2B : Hid (Byf E2) := Lib.hid (by rw [← hE2]; exact byf_scale HEB.out c)
                          clear hmt hbw hE2 hlt hq eq'
                          go_wp2
                          go_loopw [22, 23, 24] (fun I _ _ wr => ∃ i : Nat, i ≤ t ∧ I = .int .i64 i ∧ Mt wr u2.heap.size o t j hb2 hc2 (elimk E2 c i 0) ∧ Below u2.heap.size u2 wr) (fun I _ _ _ => t - (intOf I).toNat)
                          case atStart => exact ⟨0, Nat.zero_le _, rfl, by rw [elimk_zero]; exact M3.out, HBW3.out⟩
                          case round =>
                            clear M3 HBW3
                            obtain ⟨i, hi, rfl, hmt, hbw⟩ := hrel
                            obtain ⟨wi, rfl⟩ : ∃ wi, wi = wr := ⟨_, rfl⟩
                            have HCT : Hid (c < t) := Lib.hid (by have := HCA.out; have := HAT.out; omega)
                            by_cases hlt : i < t
                            · have hi1 : (i : Int) < t := by omega
                              have HIT := Lib.hid hlt
                              have hd1 := hmt.head i hlt
                              have hd2 := hmt.cell i c hlt (Nat.le_of_lt HCJ.out)
                              rw [elimk_at0 E2 c i] at hd2
                              obtain ⟨f, hf⟩ : ∃ f, E2 i c = f := ⟨_, rfl⟩
                              rw [hf] at hd2
                              have HF := Lib.hid hf
                              have hf8 : f < 256 := by rw [← hf]; exact HE2B.out i c
                              have HF8 := Lib.hid hf8
                              have MI := Lib.hid hmt
                              have BI := Lib.hid hbw
                              clear hmt hbw hf hf8 hi hlt
                              by_cases hic : i = c ∨ f = 0
                              · have HSK : Hid (Mt wi u2.heap.size o t j hb2 hc2 (elimk E2 c (i + 1) 0)) := Lib.hid (MI.out.congr fun r d _ _ => elimk_skip E2 c i (hic.imp (fun e => e) (fun e => by rw [HF.out, e])) r d)
                                by_cases hi2 : i = c
                                · have hi3 : ((i : Int) == (c : Int)) = true := by rw [hi2]; simp
                                  have HI2 := Lib.hid hi2
                                  clear hic hi2
                                  go_wp2
                                  go_roundw
                                  case rel => exact ⟨i + 1, by have := HIT.out; omega, by go_num, HSK.out, BI.out⟩
                                  case measure => simp [intOf]; have := HIT.out; omega
                                · have hf0 : f = 0 := hic.resolve_left hi2
                                  have hi3 : ((i : Int) == (c : Int)) = false := by simp; omega
                                  rw [hf0] at hd2
                                  have HF0 := Lib.hid hf0
                                  have HI2 := Lib.hid hi2
                                  clear hic hi2 hf0
                                  go_wp2
                                  go_roundw
                                  case rel => exact ⟨i + 1, by have := HIT.out; omega, by go_num, HSK.out, BI.out⟩
                                  case measure => simp [intOf]; have := HIT.out; omega
                              · have hi2 : i ≠ c := fun e => hic (Or.inl e)
                                have hf0 : f ≠ 0 := fun e => hic (Or.inr e)
                                have hi3 : ((i : Int) == (c : Int)) = false := by simp; omega
                                have hf3 : ((f : Int) == 0) = false := by simp; omega
                                have HI2 := Lib.hid hi2
                                have HF0 := Lib.hid hf0
                                clear hic hi2 hf0
                                go_wp2
                                clear hd1 hd2
                                go_loopw [24] (fun M wr => ∃ q : Nat, q ≤ j + 1 ∧ M = .int .i64 q ∧ Mt wr u2.heap.size o t j hb2 hc2 (elimk E2 c i q) ∧ Below u2.heap.size u2 wr) (fun M _ => j + 1 - (intOf M).toNat)
                                case atStart => exact ⟨0, Nat.zero_le _, rfl, MI.out, BI.out⟩
                                case round =>
                                  clear MI BI
                                  obtain ⟨q, hq, rfl, hmt, hbw⟩ := hrel
                                  obtain ⟨wi2, rfl⟩ : ∃ wi2, wi2 = wr := ⟨_, rfl⟩
                                  by_cases hlt : q ≤ j
                                  · have hq1 : (q : Int) ≤ j := by omega
                                    have hq2 : (q : Int) < (j : Int) + 1 := by omega
                                    have hct2 : (c : Int) < t := by have := HCT.out; omega
                                    have HQJ := Lib.hid hlt
                                    have hd1 := hmt.head i HIT.out
                                    have hd2 := hmt.cell i q HIT.out hlt
                                    rw [elimk_at] at hd2
                                    have hd3 := hmt.head c HCT.out
                                    have hd4 := hmt.cell c q HCT.out hlt
                                    rw [elimk_self] at hd4
                                    have hy8 := HE2B.out i q
                                    have hz8 := HE2B.out c q
                                    obtain ⟨y, hy⟩ : ∃ y, E2 i q = y := ⟨_, rfl⟩
                                    obtain ⟨z, hz'⟩ : ∃ z, E2 c q = z := ⟨_, rfl⟩
                                    rw [hy] at hd2 hy8
                                    rw [hz'] at hd4 hz8
                                    have HY := Lib.hid hy
                                    have HZ' := Lib.hid hz'
                                    have HMU : Hid (∀ u, Calls Try.prog 63 #[.int .i64 (f : Int), .int .i64 (z : Int)] u fun e w' => e = .returned (.int .i64 (gm f z : Int)) ∧ w' = u) := Lib.hid fun u => (rmul_any f z u HF8.out).mono fun e w' h => ⟨h.1, h.2.symm⟩
                                    have hg8 : gm f z < 256 := gm_lt HF8.out hz8
                                    obtain ⟨v, hv⟩ : ∃ v, gm f z = v := ⟨_, rfl⟩
                                    rw [hv] at HMU hg8
                                    have HV := Lib.hid hv
                                    have hxor : bits .xor .i64 (y : Int) (v : Int) = ((y ^^^ v : Nat) : Int) := xor_i64 y v (by omega) (by omega)
                                    obtain ⟨u', hu'⟩ : ∃ u', y ^^^ v = u' := ⟨_, rfl⟩
                                    rw [hu'] at hxor
                                    have HU' := Lib.hid hu'
                                    have hfz := hmt.frozenI i q HIT.out
                                    have HST := Lib.hid (hmt.set i q HIT.out hlt u')
                                    have HB2 : Hid (Below u2.heap.size u2 (wi2.setCell ⟨hb2 i, q, none⟩ (.int .i64 (u' : Int)))) := Lib.hid (hbw.setCell (p := ⟨hb2 i, q, none⟩) (hmt.ibase i HIT.out) _)
                                    clear hmt hbw hy hz' hy8 hz8 hg8 hv hu' hlt hq
                                    go_wp2
                                    go_still_tail 22, (by kernel_rfl)
                                    repeat (first | still_call (HMU.out _) | still_step)
                                    refine wpStill_nil ?_
                                    change wpList _ _ _ _ _ wi2.drew
                                    go_wp2
                                    go_roundw
                                    case rel => exact ⟨q + 1, by have := HQJ.out; omega, by go_num, (HST.out.congr (fun r d _ _ => by rw [← elimk_next E2 c i q HI2.out r d, HY.out, HZ'.out, HF.out, HV.out, HU'.out])).drew, HB2.out.drew⟩
                                    case measure => simp [intOf]; have := HQJ.out; omega
                                  · have eq' : q = j + 1 := by omega
                                    have hqj : ¬ (q : Int) ≤ (j : Int) := by omega
                                    have M5 : Hid (Mt wi2 u2.heap.size o t j hb2 hc2 (elimk E2 c (i + 1) 0)) := Lib.hid (hmt.congr (fun r d _ hd => by rw [eq']; exact elimk_row E2 c i j r d hd))
                                    have B5 := Lib.hid hbw
                                    clear hmt hbw hlt hq eq'
                                    go_wp2
                                    go_roundw
                                    case rel => exact ⟨i + 1, by have := HIT.out; omega, by go_num, M5.out, B5.out⟩
                                    case measure => simp [intOf]; have := HIT.out; omega
                            · have ei : i = t := by omega
                              subst ei
                              have M6 : Hid (Mt wi u2.heap.size o i j hb2 hc2 (stepf G c a')) := Lib.hid (hmt.congr (fun r d hr _ => by rw [elimk_end E2 c i r d hr, stepf, HE.out, HE2.out]))
                              have B6 := Lib.hid hbw
                              have HNX : Hid (gs F i (c + 1) = some (stepf G c a')) := Lib.hid (by
                                have h1 : pivf G i c (i - c) = a' := pivf_at HCH.out HCA.out (Nat.le_of_lt HAT.out) HZ.out (Or.inr HNE.out)
                                rw [gs, HGS.out, Option.bind_some, h1, if_pos HAT.out])
                              clear hmt hbw hlt hi
                              go_wp2
                              go_roundw
                              case rel => exact ⟨c + 1, by have := HCJ.out; omega, by go_num, by go_num, ⟨_, _, _, HNX.out, M6.out⟩, B6.out⟩
                              case measure => simp [intOf]; have := HCJ.out; omega
                · have ea : a' = t := by omega
                  subst ea
                  have HNONE : Hid (r = none) := Lib.hid (by
                    have h1 : pivf G a' c (a' - c) = a' := pivf_at HCH.out HCA.out (Nat.le_refl _) HZ.out (Or.inl rfl)
                    have h2 : gs F a' (c + 1) = none := by rw [gs, HGS.out, Option.bind_some, h1, if_neg (by omega)]
                    have h3 := gs_up h2 (j - (c + 1))
                    rw [show c + 1 + (j - (c + 1)) = j by have := HCJ.out; omega] at h3
                    rw [HRR.out, h3]
                    rfl)
                  clear hlt hca hat
                  go_wp2
                  go_ret2
                  exact ⟨by rw [HNONE.out]; rfl, B3.out.next HBW.out⟩
            · have ec : c = j := by omega
              subst ec
              have HUE := Lib.hid (gs_some HFB.out c G HGS.out).2.2.1
              clear hlt hcj
              go_wp2
              go_loop [25] (fun I => ∃ i : Nat, c ≤ i ∧ i ≤ t ∧ I = .int .i64 i ∧ ∀ r, c ≤ r → r < i → G r c = 0) (fun I => t - (intOf I).toNat)
              case atStart => exact ⟨c, Nat.le_refl _, HCH.out, rfl, fun r h1 h2 => absurd h2 (by omega)⟩
              case round =>
                obtain ⟨i, hci, hit, rfl, hz⟩ := hrel
                have HZ := Lib.hid hz
                have HCI := Lib.hid hci
                clear hz
                by_cases hlt : i < t
                · have hi1 : (i : Int) < t := by omega
                  have hd1 := MT.out.head i hlt
                  have hd2 := MT.out.cell i c hlt (Nat.le_refl _)
                  have hcc : (c : Int) < (c : Int) + 1 := by omega
                  have HIT := Lib.hid hlt
                  by_cases h0 : G i c = 0
                  · rw [h0] at hd2
                    have HG0 := Lib.hid h0
                    clear h0 hlt hci hit
                    go_wp2
                    go_round
                    case rel => exact ⟨i + 1, by have := HCI.out; omega, by have := HIT.out; omega, by go_num, fun r h1 h2 => by
                      by_cases e : r = i
                      · rw [e]; exact HG0.out
                      · exact HZ.out r h1 (by omega)⟩
                    case measure => simp [intOf]; have := HIT.out; omega
                  · have HNONE : Hid (r = none) := Lib.hid (by
                      rw [HRR.out, HGS.out, Option.bind_some, gone_at G c t i HCI.out hlt h0]
                      rfl)
                    obtain ⟨x, hx⟩ : ∃ x, G i c = x := ⟨_, rfl⟩
                    rw [hx] at hd2 h0
                    have hx0 : ((x : Int) != 0) = true := by simpa using h0
                    clear h0 hlt hci hit hx
                    go_wp2
                    go_ret2
                    exact ⟨by rw [HNONE.out]; rfl, B3.out.next HBW.out⟩
                · have hge : ¬ (i : Int) < (t : Int) := by omega
                  have HSOME : Hid (r = some (fillk Z Pl (fun r => G r c) c)) := Lib.hid (by
                    rw [HRR.out, HGS.out, Option.bind_some, if_pos ((gone_iff G c t).2 (fun r h1 h2 => HZ.out r h1 (by omega)))])
                  have R5 := Lib.hid (R3.out.below HBW.out R3.out.lt)
                  have GU : Hid (g < u2.heap.size) := Lib.hid R3.out.lt
                  have BW5 : Hid (Below w.heap.size w wo) := Lib.hid (B3.out.next HBW.out)
                  clear hlt hci hit
                  go_wp2
                  go_loopw [26] (fun I wr => ∃ q : Nat, q ≤ c ∧ I = .int .i64 q ∧ Row wr g 5 (u8s (fillk Z Pl (fun r => G r c) q) ++ ys) ∧ Mt wr u2.heap.size o t c hb hc G ∧ Below w.heap.size w wr) (fun I _ => c - (intOf I).toNat)
                  case atStart => exact ⟨0, Nat.zero_le _, rfl, R5.out, MT.out, BW5.out⟩
                  case round =>
                    clear MT BW5 R5 HBW
                    obtain ⟨q, hq, rfl, hrow, hmt, hbw⟩ := hrel
                    obtain ⟨wi, rfl⟩ : ∃ wi, wi = wr := ⟨_, rfl⟩
                    by_cases hlt : q < c
                    · obtain ⟨bp, off, rfl, hbb, hcp⟩ := HQ.out (by rw [nats_length, HPL.out]; omega)
                      have hcell : wi.cell? ⟨bp, off + q, none⟩ = some (.int .i64 (sq Pl q : Int)) := (hbw.cell (p := ⟨bp, off + q, none⟩) hbb).trans (nats_sq (B := 0) hcp q (by rw [HPL.out]; exact hlt))
                      have hsn := HPLT.out q hlt
                      have HFL : Hid ((fillk Z Pl (fun r => G r c) q).length = n) := Lib.hid (by rw [fillk_length, HZL.out])
                      have hqt : q < t := by have := HCH.out; omega
                      have hd1 := hmt.head q hqt
                      have hd2 := hmt.cell q c hqt (Nat.le_refl _)
                      have hx8 := HGB.out q c
                      have hst := rs_take_set hrow (sq Pl q) (G q c) (by rw [HFL.out]; exact hsn)
                      rw [show (fillk Z Pl (fun r => G r c) q).set (sq Pl q) (G q c) = fillk Z Pl (fun r => G r c) (q + 1) from rfl] at hst
                      obtain ⟨x, hx⟩ : ∃ x, G q c = x := ⟨_, rfl⟩
                      obtain ⟨s, hs⟩ : ∃ s, sq Pl q = s := ⟨_, rfl⟩
                      rw [hx] at hd2 hx8 hst
                      rw [hs] at hcell hsn hst
                      obtain ⟨u, hu⟩ : ∃ u, wi.cell? ⟨g, s, none⟩ = some u := ⟨_, by rw [hrow.cell, List.getElem?_append_left (by rw [u8s_length, HFL.out]; exact hsn)]; exact List.getElem?_eq_getElem (by rw [u8s_length, HFL.out]; exact hsn)⟩
                      have hfz := hrow.frozen s
                      have HST := Lib.hid hst
                      have HB2 : Hid (Below w.heap.size w (wi.setCell ⟨g, s, none⟩ (.int .u8 (x : Int)))) := Lib.hid (hbw.setCell (p := ⟨g, s, none⟩) GW.out _)
                      have HM2 : Hid (Mt (wi.setCell ⟨g, s, none⟩ (.int .u8 (x : Int))) u2.heap.size o t c hb hc G) := Lib.hid (hmt.far _ _ (by have := hmt.obase; have := GU.out; show o ≠ g; omega) (fun i hi => by have := hmt.ibase i hi; have := GU.out; show hb i ≠ g; omega))
                      have HQC := Lib.hid hlt
                      have hs1 : (s : Int) < n := by omega
                      have hq1 : (q : Int) < c := by omega
                      have hq2 : (q : Int) < t := by omega
                      have hcc : (c : Int) < (c : Int) + 1 := by omega
                      have hx1 : (x : Int) < 256 := by omega
                      have hxm : (x : Int) % 256 = (x : Int) := by omega
                      have hxw : IntKind.u8.wrap (x : Int) = (x : Int) := by rw [IntKind.wrap_u8']; omega
                      clear hrow hmt hbw hst hx hs hcp hlt hq hx8 hsn hqt
                      go_wp2
                      go_still_tail 14, (by kernel_rfl)
                      change wpList _ _ _ _ _ wi.drew
                      go_wp2
                      go_roundw
                      case rel => exact ⟨q + 1, by have := HQC.out; omega, by go_num, HST.out.drew, HM2.out.drew, HB2.out.drew⟩
                      case measure => simp [intOf]; have := HQC.out; omega
                    · have eq' : q = c := by omega
                      have hge2 : ¬ (q : Int) < (c : Int) := by omega
                      have HRD : Hid (Rd (fillk Z Pl (fun r => G r c) c) (.slice (some ⟨g, 0, none⟩) n cg) wi) := Lib.hid (by
                        rw [eq'] at hrow
                        refine ⟨some ⟨g, 0, none⟩, cg, by rw [fillk_length, HZL.out], by rw [fillk_length, HZL.out]; exact CG.out, rs_lies hrow⟩)
                      clear hrow hmt hlt hq eq'
                      go_wp2
                      go_ret2
                      exact ⟨by rw [HSOME.out]; exact ⟨_, rfl, HRD.out, fun g' o' n' c' e' => by cases e'; exact GW.out⟩, hbw⟩
end Go.Proofs.Ytpoojlealcheaaa
