/- The texts RsQ, RsR, StrU, SolMath7, SolMath8, SolI, SolN, SolO, Seen, BytesS, StrMa, StrN, StrMb, StrS, StrMc, StrL, StrMd, one behind the other: what the claim wants of them. -/
import Derived.Maps.OwnOps
import Derived.Maps.OwnSet
import Derived.Maps.Range
import Derived.Carry
import Derived.Maps.RangeWalk
import Derived.Test.YtnbjaijhdjneoaaGreatP6
namespace Go.Proofs.YtnbjaijhdjneoaaGreat
open Go.RowKit GfMath PolyMath RsMath
set_option linter.unusedVariables false
set_option maxRecDepth 100000

set_option maxHeartbeats 8000000 in
theorem rsolve_any (a : Option Addr) (cap : Nat) (W : List Nat) (b : Option Addr) (capb : Nat) (Pl : List Nat) (n k p : Nat) (w : World) (hW : By W) (hn : W.length = n) (h255 : n ≤ 255) (hp0 : 0 < p) (hkp : k + p = n) (hP : Plc Pl n)
    (hml : Pl.length ≤ 255) (hr : Lies w w.heap.size a (u8s W)) (hq : Lies w w.heap.size b (nats Pl)) :
    Calls Tryz.prog 81 #[.slice a n cap, .int .i64 (n : Int), .int .i64 (k : Int), .slice b Pl.length capb] w fun e w' => SolP w.heap.size (solveF W Pl p) e w' ∧ Below w.heap.size w w' := by
  obtain ⟨m, hm⟩ : ∃ m, m = Pl.length := ⟨_, rfl⟩
  obtain ⟨Z, hZ⟩ : ∃ Z, Z = zerow W Pl := ⟨_, rfl⟩
  obtain ⟨F, hF⟩ : ∃ F, F = mat Z Pl := ⟨_, rfl⟩
  obtain ⟨r, hrr⟩ : ∃ r, r = solveF W Pl p := ⟨_, rfl⟩
  have HRR : Hid (r = (gs F p m).bind fun G => if gone G m p then some (fillk Z Pl (fun c => G c m) m) else none) := Lib.hid (by rw [hrr, solveF, hF, hZ, hm])
  rw [← hrr]
  have hZl : Z.length = n := by rw [hZ, zerow_length, hn]
  have HZB : Hid (By Z) := Lib.hid (by rw [hZ]; exact zerow_by Pl hW)
  have HZE : Hid (Z = fillk W Pl (fun _ => 0) m) := Lib.hid (by rw [hZ, hm]; rfl)
  have HFB : Hid (Byf F) := Lib.hid (by rw [hF]; exact mat_by Pl HZB.out)
  have HFx : Hid (∀ i c, c < m → F i c = ex (i * (n - 1 - sq Pl c))) := Lib.hid fun i c hc => by rw [hF, mat, if_neg (by omega), hZl]
  have HFm : Hid (∀ i, F i m = ev Z (ex i)) := Lib.hid fun i => by rw [hF, mat, hm, if_pos rfl]
  have HPLT : Hid (∀ c, c < m → sq Pl c < n) := Lib.hid fun c hc => hP.lt c (by omega)
  have HWL := Lib.hid hn
  have HZL := Lib.hid hZl
  have HPL : Hid (Pl.length = m) := Lib.hid hm.symm
  have HQ := Lib.hid hq
  have HR0 := Lib.hid (hr.step (alloc_below w (.cells #[] 5)))
  have HOW0 := Lib.hid (own_zero w 5)
  have HUL : Hid ((u8s W).length = n) := Lib.hid (by rw [u8s_length, hn])
  have HU1 := Lib.hid (u8s_one W)
  have HBIG : Big (0 + n ≤ 1099511627776) := ⟨by omega⟩
  have HPK : Hid (0 < n) := Lib.hid (by omega)
  have HZ0 : Hid (w.heap.size ≤ (w.alloc (.cells #[] 5)).heap.size) := Lib.hid (by simp)
  have hb1 : (n : Int) ≤ 255 := by omega
  have hb2 : (m : Int) ≤ 255 := by omega
  have hb3 : (n : Int) - (k : Int) = (p : Int) := by omega
  have hb4 : (p : Int) ≤ 255 := by omega
  have hb5 : (k : Int) ≤ 255 := by omega
  have HM255 : Hid (m ≤ 255) := Lib.hid (by omega)
  have HN255 := Lib.hid h255
  have HP255 : Hid (p ≤ 255 ∧ 0 < p ∧ 0 < n) := Lib.hid (by omega)
  have HFI : Hid (fillk W Pl (fun _ => 0) 0 = W) := Lib.hid rfl
  rw [← hm]
  clear hW hn h255 hp0 hkp hP hml hr hq hm hZ hF hrr hZl
  go_enter Tryz.func81, Tryz.ntmps81
  go_wp2_with (first
    | ((with_reducible refine wpAppendK (base := w.heap.size) cap HOW0.out Tryz.underlying67 one_byte HR0.out HUL.out HPK.out HU1.out HBIG HZ0.out ?_ ?_); rfl; intro v1 u1 g1 q1 k1; rw [Nat.zero_add, List.nil_append] at g1; obtain ⟨g, cg, ys, rfl, hcg, hgw, row1⟩ := own_some g1 HPK.out; have R1 := Lib.hid row1; have GW := Lib.hid hgw; have CG := Lib.hid hcg; have B1 : Hid (Below w.heap.size w u1) := Lib.hid ((alloc_below w _).grown q1 HZ0.out (fun j hj => (HOW0.out.lt j hj).1)); have C1 := Lib.hid hcg; clear g1 q1 k1 row1 hgw hcg))
  go_loopw [11] (fun i wr => ∃ j : Nat, j ≤ m ∧ i = .int .i64 j ∧ Row wr g 5 (u8s (fillk W Pl (fun _ => 0) j) ++ ys) ∧ Below w.heap.size w wr) (fun i _ => m - (intOf i).toNat)
  case atStart => exact ⟨0, Nat.zero_le _, rfl, by rw [HFI.out]; exact R1.out, B1.out⟩
  case round =>
    obtain ⟨j, hj, rfl, hrow, hbw⟩ := hrel
    by_cases hlt : j < m
    · obtain ⟨bp, off, rfl, hbb, hc⟩ := HQ.out (by rw [nats_length, HPL.out]; omega)
      have hcell : wr.cell? ⟨bp, off + j, none⟩ = some (.int .i64 (sq Pl j : Int)) := (hbw.cell (p := ⟨bp, off + j, none⟩) hbb).trans (nats_sq (B := 0) hc j (by rw [HPL.out]; exact hlt))
      have hqn := HPLT.out j hlt
      have HFL : Hid ((fillk W Pl (fun _ => 0) j).length = n) := Lib.hid (by rw [fillk_length, HWL.out])
      have hst := rs_take_set hrow (sq Pl j) 0 (by rw [HFL.out]; exact hqn)
      rw [show (fillk W Pl (fun _ => 0) j).set (sq Pl j) 0 = fillk W Pl (fun _ => 0) (j + 1) from rfl] at hst
      obtain ⟨q, hq⟩ : ∃ q, sq Pl j = q := ⟨_, rfl⟩
      rw [hq] at hcell hqn hst
      have hu : ∃ u, wr.cell? ⟨g, q, none⟩ = some u := ⟨_, by rw [hrow.cell, List.getElem?_append_left (by rw [u8s_length, HFL.out]; exact hqn)]; exact List.getElem?_eq_getElem (by rw [u8s_length, HFL.out]; exact hqn)⟩
      obtain ⟨u, hu⟩ := hu
      have hfz := hrow.frozen q
      have HST := Lib.hid hst
      have HB2 : Hid (Below w.heap.size w (wr.setCell ⟨g, q, none⟩ (.int .u8 ((0 : Nat) : Int)))) := Lib.hid (hbw.setCell (p := ⟨g, q, none⟩) GW.out _)
      have hq1 : (q : Int) < n := by omega
      have hj1 : (j : Int) < m := by omega
      clear hrow hbw hst hq hc hlt
      go_wp2
      go_roundw
      case rel => exact ⟨j + 1, by omega, by go_num, HST.out, HB2.out⟩
      case measure => simp [intOf]; omega
    · have ej : j = m := by omega
      subst ej
      rw [← HZE.out] at hrow
      have R2 := Lib.hid hrow
      have B2 := Lib.hid hbw
      have HVA0 := rvalues_any (some ⟨g, 0, none⟩) cg Z p wr HZB.out (by rw [HZL.out]; have := HN255.out; omega) (by have := HP255.out; omega) (rs_lies hrow)
      rw [HZL.out] at HVA0
      have HVA := Lib.hid HVA0
      have HVL : Hid ((vals Z p).length = p) := Lib.hid (vals_length _ _)
      have HVS : Hid (∀ i, i < p → sq (vals Z p) i = F i j) := Lib.hid fun i hi => by rw [HFm.out i, vals, sq_tab, if_pos hi]
      clear hrow hbw HVA0 hlt hj
      go_wp2_with (go_at_call 105; (with_reducible refine HVA.out.mono ?_); rintro e u2 ⟨⟨v2, rfl, av, cv, rfl, hcv, hlv⟩, b2⟩; rw [HVL.out] at hcv ⊢; have LV2 := Lib.hid hlv; have R3 := Lib.hid (R2.out.step b2); have B3 : Hid (Below w.heap.size w u2) := Lib.hid (B2.out.next b2); have HCV := Lib.hid hcv; clear hlv b2 hcv)
      go_loopw [13, 14, 15, 16] (fun R i _ _ wr => ∃ t : Nat, t ≤ p ∧ i = .int .i64 t ∧ (∃ hb hc, RwB wr u2.heap.size R t j hb hc F) ∧ Below u2.heap.size u2 wr) (fun _ i _ _ _ => p - (intOf i).toNat)
      case atStart => exact ⟨0, Nat.zero_le _, rfl, ⟨_, _, RwB.zero u2 j F⟩, alloc_below _ _⟩
      case round =>
        obtain ⟨t, ht, rfl, ⟨hb, hc, hrw⟩, hbw⟩ := hrel
        obtain ⟨wo, rfl⟩ : ∃ wo, wo = wr := ⟨_, rfl⟩
        by_cases hlt : t < p
        · have ht1 : (t : Int) < p := by omega
          have HRW := Lib.hid hrw
          have HBW := Lib.hid hbw
          have hZW : u2.heap.size ≤ wo.heap.size := hbw.size
          have HZW := Lib.hid hZW
          have HT := Lib.hid hlt
          have hvform : ∃ ao co, u13 = .slice ao t co := by
            obtain ⟨ao, co, e, _⟩ := own_form hrw.own
            exact ⟨ao, co, e⟩
          obtain ⟨ao, co, rfl⟩ := hvform
          clear hrw hbw hlt hZW
          go_wp2
          go_loopw [15, 16] (fun v i wr => ∃ c : Nat, c ≤ j ∧ i = .int .i64 c ∧ wr.ownsRow wo.heap.size 3 1 v c (nats (tab c (F t))) ∧ Below wo.heap.size wo wr) (fun _ i _ => j - (intOf i).toNat)
          case atStart => exact ⟨0, Nat.zero_le _, rfl, own_zero wo _, alloc_below _ _⟩
          case round =>
            obtain ⟨c, hc', rfl, hown, hbq⟩ := hrel
            by_cases hlt : c < j
            · obtain ⟨bp, off, rfl, hbb, hcp⟩ := HQ.out (by rw [nats_length, HPL.out]; omega)
              have hb0 : Below w.heap.size w wr := (B3.out.next HBW.out).next hbq
              have hcell : wr.cell? ⟨bp, off + c, none⟩ = some (.int .i64 (sq Pl c : Int)) := (hb0.cell (p := ⟨bp, off + c, none⟩) hbb).trans (nats_sq (B := 0) hcp c (by rw [HPL.out]; exact hlt))
              have hqn := HPLT.out c hlt
              have HST0 := tab_snoc c (F t)
              rw [HFx.out t c hlt] at HST0
              obtain ⟨q, hq⟩ : ∃ q, sq Pl c = q := ⟨_, rfl⟩
              rw [hq] at hcell hqn HST0
              obtain ⟨d, hd⟩ : ∃ d, n - 1 - q = d := ⟨_, rfl⟩
              have hd1 : (n : Int) - 1 - (q : Int) = (d : Int) := by omega
              have hdn : (d : Int) ≤ 255 := by omega
              rw [hd] at HST0
              obtain ⟨x, hx⟩ : ∃ x, t * d = x := ⟨_, rfl⟩
              have hx1 : (t : Int) * (d : Int) = (x : Int) := by rw [← hx]; exact (Int.natCast_mul t d).symm
              have hxb : x ≤ 65025 := by rw [← hx]; exact Nat.mul_le_mul (show t ≤ 255 by have := HP255.out; omega) (show d ≤ 255 by omega)
              have hxb1 : (x : Int) ≤ 65025 := by omega
              rw [hx] at HST0
              have HEX : Hid (∀ u, Calls Tryz.prog 106 #[.int .i64 (x : Int)] u fun e w' => e = .returned (.int .i64 (ex x : Int)) ∧ u = w') := Lib.hid fun u => rexp_all x u (by omega)
              obtain ⟨y, hy⟩ : ∃ y, ex x = y := ⟨_, rfl⟩
              rw [hy] at HST0 HEX
              have HST := Lib.hid HST0
              have HOW := Lib.hid (hown.alloc (.cells #[.int .i64 (y : Int)] 3))
              have HL : Hid (Lies (wr.alloc (.cells #[.int .i64 (y : Int)] 3)) (wr.alloc (.cells #[.int .i64 (y : Int)] 3)).heap.size (some ⟨wr.heap.size, 0, none⟩) [.int .i64 (y : Int)]) := Lib.hid (Lies.new [_] _ _)
              have HO1 : Hid ((Value.int .i64 (y : Int)).oneCell' = true) := Lib.hid rfl
              have HPK3 : Big (c + 1 ≤ 1099511627776) := ⟨by have := HM255.out; omega⟩
              have HBQ2 := Lib.hid (hbq.alloc hbq.size (.cells #[.int .i64 (y : Int)] 3))
              have HZQ := Lib.hid HBQ2.out.size
              obtain ⟨a3, c3, rfl, _⟩ := own_form2 hown
              have HOL : Hid (∀ s, (Value.slice a3 c c3).ownBlock = some s → wo.heap.size ≤ s) := Lib.hid fun s hs => (hown.lt s hs).1
              have hn1 : IntKind.i64.wrap (x : Int) = (x : Int) := by rw [IntKind.wrap_i64]; omega
              have hq1 : (q : Int) < (n : Int) := by omega
              have hc1 : (c : Int) < (j : Int) := by omega
              have HC := Lib.hid hlt
              clear hown hbq hb0 hq hd hx hy HST0 hcp hxb hlt hqn
              go_wp2_with (first
                | (go_at_call 106; (with_reducible refine (HEX.out _).mono ?_); rintro e w2 ⟨rfl, rfl⟩)
                | ((with_reducible refine wpAppend1K HOW.out Tryz.underlying38 one_int HL.out HO1.out HPK3 HZQ.out ?_ ?_); rfl; intro v3 w3 g3 q3 k3; have HV3 := Lib.hid g3; have HG3 := Lib.hid q3; clear g3 q3 k3))
              go_roundw
              case rel => exact ⟨c + 1, by have := HC.out; omega, by go_num, by rw [HST.out, nats_snoc]; exact HV3.out, HBQ2.out.grown HG3.out HBQ2.out.size HOL.out⟩
              case measure => simp [intOf]; have := HC.out; omega
            · have ec : c = j := by omega
              subst ec
              have hb0 : Below u2.heap.size u2 wr := HBW.out.next hbq
              obtain ⟨bv, ov, rfl, hbv, hcv⟩ := LV2.out (by rw [nats_length, HVL.out]; have := HT.out; omega)
              have hcell : wr.cell? ⟨bv, ov + t, none⟩ = some (.int .i64 (sq (vals Z p) t : Int)) := (hb0.cell (p := ⟨bv, ov + t, none⟩) hbv).trans (nats_sq (B := 0) hcv t (by rw [HVL.out]; exact HT.out))
              have HST0 := tab_snoc c (F t)
              rw [HVS.out t HT.out] at hcell
              obtain ⟨y, hy⟩ : ∃ y, F t c = y := ⟨_, rfl⟩
              rw [hy] at HST0 hcell
              have HST := Lib.hid HST0
              have HOW := Lib.hid (hown.alloc (.cells #[.int .i64 (y : Int)] 3))
              have HL : Hid (Lies (wr.alloc (.cells #[.int .i64 (y : Int)] 3)) (wr.alloc (.cells #[.int .i64 (y : Int)] 3)).heap.size (some ⟨wr.heap.size, 0, none⟩) [.int .i64 (y : Int)]) := Lib.hid (Lies.new [_] _ _)
              have HO1 : Hid ((Value.int .i64 (y : Int)).oneCell' = true) := Lib.hid rfl
              have HPK3 : Big (c + 1 ≤ 1099511627776) := ⟨by have := HM255.out; omega⟩
              have HBQ2 := Lib.hid (hbq.alloc hbq.size (.cells #[.int .i64 (y : Int)] 3))
              have HZQ := Lib.hid HBQ2.out.size
              obtain ⟨a3, c3, rfl, _⟩ := own_form2 hown
              have HOL : Hid (∀ s, (Value.slice a3 c c3).ownBlock = some s → wo.heap.size ≤ s) := Lib.hid fun s hs => (hown.lt s hs).1
              have HPT : Big (t + 1 ≤ 1099511627776) := ⟨by have := HP255.out; omega⟩
              clear hown hbq hb0 hy HST0 hcv hlt
              go_wp2_with (first
                | ((with_reducible refine wpAppend1K HOW.out Tryz.underlying38 one_int HL.out HO1.out HPK3 HZQ.out ?_ ?_); rfl; intro v3 w3 g3 q3 k3; rw [← nats_snoc, ← HST.out] at g3; obtain ⟨g1, c1, ys1, rfl, _, hg1, hrow1⟩ := own_some g3 (Nat.succ_pos _); have B4 : Hid (Below wo.heap.size wo w3) := Lib.hid (HBQ2.out.grown q3 HBQ2.out.size HOL.out); have RW3 := Lib.hid (HRW.out.step B4.out); have RR3 := Lib.hid hrow1; have HG1 := Lib.hid hg1; have HL4 := Lib.hid (Lies.new [.slice (some ⟨g1, 0, none⟩) (c + 1) c1] w3 38); have RW4 := Lib.hid (RW3.out.step (alloc_below w3 (.cells #[.slice (some ⟨g1, 0, none⟩) (c + 1) c1] 38))); have RR4 := Lib.hid (RR3.out.step (alloc_below w3 (.cells #[.slice (some ⟨g1, 0, none⟩) (c + 1) c1] 38))); have B5 : Hid (Below wo.heap.size wo (w3.alloc (.cells #[.slice (some ⟨g1, 0, none⟩) (c + 1) c1] 38))) := Lib.hid (B4.out.trans ((alloc_below _ _).mono B4.out.size)); have Z5 : Hid (u2.heap.size ≤ (w3.alloc (.cells #[.slice (some ⟨g1, 0, none⟩) (c + 1) c1] 38)).heap.size) := Lib.hid (Nat.le_trans HZW.out B5.out.size); have HO4 : Hid ((Value.slice (some ⟨g1, 0, none⟩) (c + 1) c1).oneCell' = true) := Lib.hid rfl; clear g3 q3 k3 hrow1 hg1)
                | ((with_reducible refine wpAppend1K RW4.out.own Tryz.underlying178 one_ints HL4.out HO4.out HPT Z5.out ?_ ?_); rfl; intro v6 w6 g6 q6 k6; have A6 : Hid (∃ hb hc, RwB w6 u2.heap.size v6 (t + 1) c hb hc F) := Lib.hid ⟨_, _, RW4.out.add RR4.out (fun r hr e => by obtain ⟨zs, q⟩ := HRW.out.inner r hr; have := q.lt; have := HG1.out; omega) (Nat.le_trans HZW.out HG1.out) g6 q6⟩; have B6 : Hid (Below u2.heap.size u2 w6) := Lib.hid (Below.grown (HBW.out.next B5.out) q6 Z5.out (fun s hs => (RW4.out.own.lt s hs).1)); clear g6 q6 k6))
              go_roundw
              case rel => exact ⟨t + 1, by have := HT.out; omega, by go_num, A6.out, B6.out⟩
              case measure => simp [intOf]; have := HT.out; omega
        · have et : t = p := by omega
          subst et
          obtain ⟨o, co, rfl, hmt⟩ := hrw.mt HP255.out.2.1
          have MT := Lib.hid hmt
          have HB4 := Lib.hid hbw
          have HOU : Hid (u2.heap.size ≤ o) := Lib.hid hmt.obase
          have R4 := Lib.hid (R3.out.below hbw R3.out.lt)
          clear hrw hbw hmt hlt ht
          go_wp2
          obtain ⟨u4, rfl⟩ : ∃ u4, u4 = wr := ⟨_, rfl⟩
          go_loopw [17, 18, 19, 20, 21, 22, 23, 24] (fun U J _ _ _ _ _ _ wr => ∃ c : Nat, c ≤ j ∧ U = .int .i64 c ∧ J = .int .i64 c ∧ (∃ G hb hc, gs F t c = some G ∧ Mt wr u2.heap.size o t j hb hc G) ∧ Below u2.heap.size u2 wr) (fun _ J _ _ _ _ _ _ _ => j - (intOf J).toNat)
          case atStart => exact ⟨0, Nat.zero_le _, rfl, rfl, ⟨F, hb, hc, rfl, MT.out⟩, HB4.out⟩
          case round =>
            clear MT HB4 R4
            obtain ⟨c, hcj, rfl, rfl, ⟨G, hb, hc, hgs, hmt⟩, hbw⟩ := hrel
            obtain ⟨wo, rfl⟩ : ∃ wo, wo = wr := ⟨_, rfl⟩
            obtain ⟨hcH, hGB0, hU, _⟩ := gs_some HFB.out c G hgs
            have MT := Lib.hid hmt
            have HGS := Lib.hid hgs
            have HGB := Lib.hid hGB0
            have HBW := Lib.hid hbw
            have HCH := Lib.hid hcH
            clear hmt hgs hbw hU hGB0
            by_cases hlt : c < j
            · have hc1 : (c : Int) < j := by omega
              have HCJ := Lib.hid hlt
              have HPT := Lib.hid (show t ≤ 255 from HP255.out.1)
              clear hlt hcj
              go_wp2
              go_loop [19] (fun A => ∃ a : Nat, c ≤ a ∧ a ≤ t ∧ A = .int .i64 a ∧ ∀ i, c ≤ i → i < a → G i c = 0) (fun A => t - (intOf A).toNat)
              case atStart => exact ⟨c, Nat.le_refl _, HCH.out, rfl, fun i h1 h2 => absurd h2 (by omega)⟩
              case round =>
                obtain ⟨a', hca, hat, rfl, hz⟩ := hrel
                have HZ := Lib.hid hz
                have HCA := Lib.hid hca
                clear hz
                by_cases hlt : a' < t
                · have ha1 : (a' : Int) < t := by omega
                  have hc1' := MT.out.head a' hlt
                  have hc2' := MT.out.cell a' c hlt (Nat.le_of_lt HCJ.out)
                  have hcj2 : (c : Int) < (j : Int) + 1 := by omega
                  have HAT := Lib.hid hlt
                  by_cases h0 : G a' c = 0
                  · rw [h0] at hc2'
                    have HZ0 := Lib.hid h0
                    clear h0 hlt hca hat
                    go_wp2
                    go_round
                    case rel => exact ⟨a' + 1, by have := HCA.out; omega, by have := HAT.out; omega, by go_num, fun i h1 h2 => by
                      by_cases e : i = a'
                      · rw [e]; exact HZ0.out
                      · exact HZ.out i h1 (by omega)⟩
                    case measure => simp [intOf]; have := HAT.out; omega
                  · have HNE := Lib.hid h0
                    obtain ⟨x, hx⟩ : ∃ x, G a' c = x := ⟨_, rfl⟩
                    rw [hx] at hc2' h0
                    have HXG := Lib.hid hx
                    have hx0 : ((x : Int) == 0) = false := by simpa using h0
                    have hne : ((a' : Int) == (t : Int)) = false := by simp; omega
                    clear h0 hlt hca hat hx
                    have HX0 := Lib.hid hx0
                    have hc3' := MT.out.head c (by have := HCA.out; have := HAT.out; omega)
                    have hf1 := MT.out.frozenO a'
                    have hf2 := MT.out.frozenO c
                    have hct : (c : Int) < t := by have := HCA.out; omega
                    have hca0 : (c : Int) ≤ (a' : Int) := by have := HCA.out; omega
                    have HSW := Lib.hid (MT.out.swap c a' (by have := HCA.out; have := HAT.out; omega) HAT.out)
                    have HSB : Hid (Below u2.heap.size u2 ((wo.setCell ⟨o, c, none⟩ (.slice (some ⟨hb a', 0, none⟩) (j + 1) (hc a'))).setCell ⟨o, a', none⟩ (.slice (some ⟨hb c, 0, none⟩) (j + 1) (hc c)))) := Lib.hid ((HBW.out.setCell (p := ⟨o, c, none⟩) HOU.out _).setCell (p := ⟨o, a', none⟩) HOU.out _)
                    obtain ⟨E, hE⟩ : ∃ E, swapf G c a' = E := ⟨_, rfl⟩
                    obtain ⟨hb2, hhb⟩ : ∃ f, swapn hb c a' = f := ⟨_, rfl⟩
                    obtain ⟨hc2, hhc⟩ : ∃ f, swapn hc c a' = f := ⟨_, rfl⟩
                    rw [hE, hhb, hhc] at HSW
                    have HEX : Hid (E c c = x) := Lib.hid (by rw [← hE, swap_at]; exact HXG.out)
                    have HEB : Hid (Byf E) := Lib.hid (by rw [← hE]; exact byf_swap HGB.out c a')
                    have HE := Lib.hid hE
                    have hx256 : x < 256 := by rw [← HXG.out]; exact HGB.out a' c
                    have HXB := Lib.hid hx256
                    clear hE hhb hhc hx256
                    by_cases hac : a' = c
                    · subst hac
                      go_wp2
                      go_region
                      obtain ⟨W2, hW2⟩ : ∃ W2, ((wo.setCell ⟨o, a', none⟩ (.slice (some ⟨hb a', 0, none⟩) (j + 1) (hc a'))).setCell ⟨o, a', none⟩ (.slice (some ⟨hb a', 0, none⟩) (j + 1) (hc a'))).drew = W2 := ⟨_, rfl⟩
                      rw [hW2]
                      have M2 : Hid (Mt W2 u2.heap.size o t j hb2 hc2 E) := Lib.hid (by rw [← hW2]; exact HSW.out.drew)
                      have HBW2 : Hid (Below u2.heap.size u2 W2) := Lib.hid (by rw [← hW2]; exact HSB.out.drew)
                      clear hW2 hc1' hc2' hc3' hf1 hf2 HSW HSB
                      have hd1 := M2.out.head a' (by have := HCA.out; have := HAT.out; omega)
                      have hd2 := M2.out.cell a' a' (by have := HCA.out; have := HAT.out; omega) (Nat.le_of_lt HCJ.out)
                      rw [HEX.out] at hd2
                      have HIN : Hid (∀ u, Calls Tryz.prog 107 #[.int .i64 (x : Int)] u fun e w' => e = .returned (.int .i64 (iv x : Int)) ∧ u = w') := Lib.hid fun u => rinv_any x u HXB.out
                      obtain ⟨s, hs⟩ : ∃ s, iv x = s := ⟨_, rfl⟩
                      rw [hs] at HIN
                      have HS := Lib.hid hs
                      have hs256 : s < 256 := by rw [← hs]; exact iv_lt x
                      have HSB := Lib.hid hs256
                      clear hs hs256
                      have hcj2 : (a' : Int) < (j : Int) + 1 := by have := HCJ.out; omega
                      go_wp2_with (go_at_call 107; (with_reducible refine (HIN.out _).mono ?_); rintro e w2 ⟨rfl, rfl⟩)
                      clear hd1 hd2
                      go_loopw [21] (fun M wr => ∃ q : Nat, q ≤ j + 1 ∧ M = .int .i64 q ∧ Mt wr u2.heap.size o t j hb2 hc2 (scalek E a' s q) ∧ Below u2.heap.size u2 wr) (fun M _ => j + 1 - (intOf M).toNat)
                      case atStart => exact ⟨0, Nat.zero_le _, rfl, by rw [scalek_zero]; exact M2.out, HBW2.out⟩
                      case round =>
                        clear M2 HBW2
                        obtain ⟨q, hq, rfl, hmt, hbw⟩ := hrel
                        obtain ⟨wi, rfl⟩ : ∃ wi, wi = wr := ⟨_, rfl⟩
                        by_cases hlt : q ≤ j
                        · have hq1 : (q : Int) ≤ j := by omega
                          have hq2 : (q : Int) < (j : Int) + 1 := by omega
                          have HQJ := Lib.hid hlt
                          have HCT : Hid (a' < t) := Lib.hid (by have := HCA.out; have := HAT.out; omega)
                          have hd1 := hmt.head a' HCT.out
                          have hd2 := hmt.cell a' q HCT.out hlt
                          rw [scalek_at] at hd2
                          have hy8 := HEB.out a' q
                          obtain ⟨y, hy⟩ : ∃ y, E a' q = y := ⟨_, rfl⟩
                          rw [hy] at hd2 hy8
                          have HY := Lib.hid hy
                          have HMU : Hid (∀ u, Calls Tryz.prog 108 #[.int .i64 (y : Int), .int .i64 (s : Int)] u fun e w' => e = .returned (.int .i64 (gm y s : Int)) ∧ w' = u) := Lib.hid fun u => (rmul_any y s u hy8).mono fun e w' h => ⟨h.1, h.2.symm⟩
                          obtain ⟨z, hz'⟩ : ∃ z, gm y s = z := ⟨_, rfl⟩
                          rw [hz'] at HMU
                          have HZZ := Lib.hid hz'
                          have hfz := hmt.frozenI a' q HCT.out
                          have HST := Lib.hid (hmt.set a' q HCT.out hlt z)
                          have HB2 : Hid (Below u2.heap.size u2 (wi.setCell ⟨hb2 a', q, none⟩ (.int .i64 (z : Int)))) := Lib.hid (hbw.setCell (p := ⟨hb2 a', q, none⟩) (hmt.ibase a' HCT.out) _)
                          clear hmt hbw hy hz' hy8 hlt hq
                          go_wp2
                          go_still_tail 14, (by kernel_rfl)
                          repeat (first | still_call (HMU.out _) | still_step)
                          refine wpStill_nil ?_
                          change wpList _ _ _ _ _ wi.drew
                          go_wp2
                          go_roundw
                          case rel => exact ⟨q + 1, by have := HQJ.out; omega, by go_num, (HST.out.congr (fun r d _ _ => by rw [← scalek_next E a' s q r d, HY.out, HZZ.out])).drew, HB2.out.drew⟩
                          case measure => simp [intOf]; have := HQJ.out; omega
                        · have eq' : q = j + 1 := by omega
                          have hqj : ¬ (q : Int) ≤ (j : Int) := by omega
                          obtain ⟨E2, hE2⟩ : ∃ E2, scalef E a' = E2 := ⟨_, rfl⟩
                          have HE2 := Lib.hid hE2
                          have M3 : Hid (Mt wi u2.heap.size o t j hb2 hc2 E2) := Lib.hid (hmt.congr (fun r d _ hd => by rw [eq', ← HS.out, ← HEX.out, ← hE2]; exact scalek_end E a' j r d hd))
                          have HBW3 := Lib.hid hbw
                          have HE2B : Hid (Byf E2) := Lib.hid (by rw [← hE2]; exact byf_scale HEB.out a')
                          clear hmt hbw hE2 hlt hq eq'
                          go_wp2
                          go_loopw [22, 23, 24] (fun I _ _ wr => ∃ i : Nat, i ≤ t ∧ I = .int .i64 i ∧ Mt wr u2.heap.size o t j hb2 hc2 (elimk E2 a' i 0) ∧ Below u2.heap.size u2 wr) (fun I _ _ _ => t - (intOf I).toNat)
                          case atStart => exact ⟨0, Nat.zero_le _, rfl, by rw [elimk_zero]; exact M3.out, HBW3.out⟩
                          case round =>
                            clear M3 HBW3
                            obtain ⟨i, hi, rfl, hmt, hbw⟩ := hrel
                            obtain ⟨wi, rfl⟩ : ∃ wi, wi = wr := ⟨_, rfl⟩
                            have HCT : Hid (a' < t) := Lib.hid (by have := HCA.out; have := HAT.out; omega)
                            by_cases hlt : i < t
                            · have hi1 : (i : Int) < t := by omega
                              have HIT := Lib.hid hlt
                              have hd1 := hmt.head i hlt
                              have hd2 := hmt.cell i a' hlt (Nat.le_of_lt HCJ.out)
                              rw [elimk_at0 E2 a' i] at hd2
                              obtain ⟨f, hf⟩ : ∃ f, E2 i a' = f := ⟨_, rfl⟩
                              rw [hf] at hd2
                              have HF := Lib.hid hf
                              have hf8 : f < 256 := by rw [← hf]; exact HE2B.out i a'
                              have HF8 := Lib.hid hf8
                              have MI := Lib.hid hmt
                              have BI := Lib.hid hbw
                              clear hmt hbw hf hf8 hi hlt
                              by_cases hic : i = a' ∨ f = 0
                              · have HSK : Hid (Mt wi u2.heap.size o t j hb2 hc2 (elimk E2 a' (i + 1) 0)) := Lib.hid (MI.out.congr fun r d _ _ => elimk_skip E2 a' i (hic.imp (fun e => e) (fun e => by rw [HF.out, e])) r d)
                                by_cases hi2 : i = a'
                                · have hi3 : ((i : Int) == (a' : Int)) = true := by rw [hi2]; simp
                                  have HI2 := Lib.hid hi2
                                  clear hic hi2
                                  go_wp2
                                  go_roundw
                                  case rel => exact ⟨i + 1, by have := HIT.out; omega, by go_num, HSK.out, BI.out⟩
                                  case measure => simp [intOf]; have := HIT.out; omega
                                · have hf0 : f = 0 := hic.resolve_left hi2
                                  have hi3 : ((i : Int) == (a' : Int)) = false := by simp; omega
                                  rw [hf0] at hd2
                                  have HF0 := Lib.hid hf0
                                  have HI2 := Lib.hid hi2
                                  clear hic hi2 hf0
                                  go_wp2
                                  go_roundw
                                  case rel => exact ⟨i + 1, by have := HIT.out; omega, by go_num, HSK.out, BI.out⟩
                                  case measure => simp [intOf]; have := HIT.out; omega
                              · have hi2 : i ≠ a' := fun e => hic (Or.inl e)
                                have hf0 : f ≠ 0 := fun e => hic (Or.inr e)
                                have hi3 : ((i : Int) == (a' : Int)) = false := by simp; omega
                                have hf3 : ((f : Int) == 0) = false := by simp; omega
                                have HI2 := Lib.hid hi2
                                have HF0 := Lib.hid hf0
                                clear hic hi2 hf0
                                go_wp2
                                clear hd1 hd2
                                go_loopw [24] (fun M wr => ∃ q : Nat, q ≤ j + 1 ∧ M = .int .i64 q ∧ Mt wr u2.heap.size o t j hb2 hc2 (elimk E2 a' i q) ∧ Below u2.heap.size u2 wr) (fun M _ => j + 1 - (intOf M).toNat)
                                case atStart => exact ⟨0, Nat.zero_le _, rfl, MI.out, BI.out⟩
                                case round =>
                                  clear MI BI
                                  obtain ⟨q, hq, rfl, hmt, hbw⟩ := hrel
                                  obtain ⟨wi2, rfl⟩ : ∃ wi2, wi2 = wr := ⟨_, rfl⟩
                                  by_cases hlt : q ≤ j
                                  · have hq1 : (q : Int) ≤ j := by omega
                                    have hq2 : (q : Int) < (j : Int) + 1 := by omega
                                    have hct2 : (a' : Int) < t := by have := HCT.out; omega
                                    have HQJ := Lib.hid hlt
                                    have hd1 := hmt.head i HIT.out
                                    have hd2 := hmt.cell i q HIT.out hlt
                                    rw [elimk_at] at hd2
                                    have hd3 := hmt.head a' HCT.out
                                    have hd4 := hmt.cell a' q HCT.out hlt
                                    rw [elimk_self] at hd4
                                    have hy8 := HE2B.out i q
                                    have hz8 := HE2B.out a' q
                                    obtain ⟨y, hy⟩ : ∃ y, E2 i q = y := ⟨_, rfl⟩
                                    obtain ⟨z, hz'⟩ : ∃ z, E2 a' q = z := ⟨_, rfl⟩
                                    rw [hy] at hd2 hy8
                                    rw [hz'] at hd4 hz8
                                    have HY := Lib.hid hy
                                    have HZ' := Lib.hid hz'
                                    have HMU : Hid (∀ u, Calls Tryz.prog 108 #[.int .i64 (f : Int), .int .i64 (z : Int)] u fun e w' => e = .returned (.int .i64 (gm f z : Int)) ∧ w' = u) := Lib.hid fun u => (rmul_any f z u HF8.out).mono fun e w' h => ⟨h.1, h.2.symm⟩
                                    have hg8 : gm f z < 256 := gm_lt HF8.out hz8
                                    obtain ⟨v, hv⟩ : ∃ v, gm f z = v := ⟨_, rfl⟩
                                    rw [hv] at HMU hg8
                                    have HV := Lib.hid hv
                                    have hxor : bits .xor .i64 (y : Int) (v : Int) = ((y ^^^ v : Nat) : Int) := xor_i64 y v (by omega) (by omega)
                                    obtain ⟨u', hu'⟩ : ∃ u', y ^^^ v = u' := ⟨_, rfl⟩
                                    rw [hu'] at hxor
                                    have HU' := Lib.hid hu'
                                    have hfz := hmt.frozenI i q HIT.out
                                    have HST := Lib.hid (hmt.set i q HIT.out hlt u')
                                    have HB2 : Hid (Below u2.heap.size u2 (wi2.setCell ⟨hb2 i, q, none⟩ (.int .i64 (u' : Int)))) := Lib.hid (hbw.setCell (p := ⟨hb2 i, q, none⟩) (hmt.ibase i HIT.out) _)
                                    clear hmt hbw hy hz' hy8 hz8 hg8 hv hu' hlt hq
                                    go_wp2
                                    go_still_tail 22, (by kernel_rfl)
                                    repeat (first | still_call (HMU.out _) | still_step)
                                    refine wpStill_nil ?_
                                    change wpList _ _ _ _ _ wi2.drew
                                    go_wp2
                                    go_roundw
                                    case rel => exact ⟨q + 1, by have := HQJ.out; omega, by go_num, (HST.out.congr (fun r d _ _ => by rw [← elimk_next E2 a' i q HI2.out r d, HY.out, HZ'.out, HF.out, HV.out, HU'.out])).drew, HB2.out.drew⟩
                                    case measure => simp [intOf]; have := HQJ.out; omega
                                  · have eq' : q = j + 1 := by omega
                                    have hqj : ¬ (q : Int) ≤ (j : Int) := by omega
                                    have M5 : Hid (Mt wi2 u2.heap.size o t j hb2 hc2 (elimk E2 a' (i + 1) 0)) := Lib.hid (hmt.congr (fun r d _ hd => by rw [eq']; exact elimk_row E2 a' i j r d hd))
                                    have B5 := Lib.hid hbw
                                    clear hmt hbw hlt hq eq'
                                    go_wp2
                                    go_roundw
                                    case rel => exact ⟨i + 1, by have := HIT.out; omega, by go_num, M5.out, B5.out⟩
                                    case measure => simp [intOf]; have := HIT.out; omega
                            · have ei : i = t := by omega
                              subst ei
                              have M6 : Hid (Mt wi u2.heap.size o i j hb2 hc2 (stepf G a' a')) := Lib.hid (hmt.congr (fun r d hr _ => by rw [elimk_end E2 a' i r d hr, stepf, HE.out, HE2.out]))
                              have B6 := Lib.hid hbw
                              have HNX : Hid (gs F i (a' + 1) = some (stepf G a' a')) := Lib.hid (by
                                have h1 : pivf G i a' (i - a') = a' := pivf_at HCH.out HCA.out (Nat.le_of_lt HAT.out) HZ.out (Or.inr HNE.out)
                                rw [gs, HGS.out, Option.bind_some, h1, if_pos HAT.out])
                              clear hmt hbw hlt hi
                              go_wp2
                              go_roundw
                              case rel => exact ⟨a' + 1, by have := HCJ.out; omega, by go_num, by go_num, ⟨_, _, _, HNX.out, M6.out⟩, B6.out⟩
                              case measure => simp [intOf]; have := HCJ.out; omega
                    · have hne1 : ¬ (a' : Int) = (c : Int) := by omega
                      have hne2 : ¬ (c : Int) = (a' : Int) := by omega
                      have hne3 : ¬ c = a' := fun e => hac e.symm
                      go_wp2
                      go_region
                      obtain ⟨W2, hW2⟩ : ∃ W2, ((wo.setCell ⟨o, c, none⟩ (.slice (some ⟨hb a', 0, none⟩) (j + 1) (hc a'))).setCell ⟨o, a', none⟩ (.slice (some ⟨hb c, 0, none⟩) (j + 1) (hc c))).drew = W2 := ⟨_, rfl⟩
                      rw [hW2]
                      have M2 : Hid (Mt W2 u2.heap.size o t j hb2 hc2 E) := Lib.hid (by rw [← hW2]; exact HSW.out.drew)
                      have HBW2 : Hid (Below u2.heap.size u2 W2) := Lib.hid (by rw [← hW2]; exact HSB.out.drew)
                      clear hW2 hc1' hc2' hc3' hf1 hf2 HSW HSB hac hne1 hne2 hne3
                      have hd1 := M2.out.head c (by have := HCA.out; have := HAT.out; omega)
                      have hd2 := M2.out.cell c c (by have := HCA.out; have := HAT.out; omega) (Nat.le_of_lt HCJ.out)
                      rw [HEX.out] at hd2
                      have HIN : Hid (∀ u, Calls Tryz.prog 107 #[.int .i64 (x : Int)] u fun e w' => e = .returned (.int .i64 (iv x : Int)) ∧ u = w') := Lib.hid fun u => rinv_any x u HXB.out
                      obtain ⟨s, hs⟩ : ∃ s, iv x = s := ⟨_, rfl⟩
                      rw [hs] at HIN
                      have HS := Lib.hid hs
                      have hs256 : s < 256 := by rw [← hs]; exact iv_lt x
                      have HSB := Lib.hid hs256
                      clear hs hs256
                      have hcj2 : (c : Int) < (j : Int) + 1 := by have := HCJ.out; omega
                      go_wp2_with (go_at_call 107; (with_reducible refine (HIN.out _).mono ?_); rintro e w2 ⟨rfl, rfl⟩)
                      clear hd1 hd2
                      go_loopw [21] (fun M wr => ∃ q : Nat, q ≤ j + 1 ∧ M = .int .i64 q ∧ Mt wr u2.heap.size o t j hb2 hc2 (scalek E c s q) ∧ Below u2.heap.size u2 wr) (fun M _ => j + 1 - (intOf M).toNat)
                      case atStart => exact ⟨0, Nat.zero_le _, rfl, by rw [scalek_zero]; exact M2.out, HBW2.out⟩
                      case round =>
                        clear M2 HBW2
                        obtain ⟨q, hq, rfl, hmt, hbw⟩ := hrel
                        obtain ⟨wi, rfl⟩ : ∃ wi, wi = wr := ⟨_, rfl⟩
                        by_cases hlt : q ≤ j
                        · have hq1 : (q : Int) ≤ j := by omega
                          have hq2 : (q : Int) < (j : Int) + 1 := by omega
                          have HQJ := Lib.hid hlt
                          have HCT : Hid (c < t) := Lib.hid (by have := HCA.out; have := HAT.out; omega)
                          have hd1 := hmt.head c HCT.out
                          have hd2 := hmt.cell c q HCT.out hlt
                          rw [scalek_at] at hd2
                          have hy8 := HEB.out c q
                          obtain ⟨y, hy⟩ : ∃ y, E c q = y := ⟨_, rfl⟩
                          rw [hy] at hd2 hy8
                          have HY := Lib.hid hy
                          have HMU : Hid (∀ u, Calls Tryz.prog 108 #[.int .i64 (y : Int), .int .i64 (s : Int)] u fun e w' => e = .returned (.int .i64 (gm y s : Int)) ∧ w' = u) := Lib.hid fun u => (rmul_any y s u hy8).mono fun e w' h => ⟨h.1, h.2.symm⟩
                          obtain ⟨z, hz'⟩ : ∃ z, gm y s = z := ⟨_, rfl⟩
                          rw [hz'] at HMU
                          have HZZ := Lib.hid hz'
                          have hfz := hmt.frozenI c q HCT.out
                          have HST := Lib.hid (hmt.set c q HCT.out hlt z)
                          have HB2 : Hid (Below u2.heap.size u2 (wi.setCell ⟨hb2 c, q, none⟩ (.int .i64 (z : Int)))) := Lib.hid (hbw.setCell (p := ⟨hb2 c, q, none⟩) (hmt.ibase c HCT.out) _)
                          clear hmt hbw hy hz' hy8 hlt hq
                          go_wp2
                          go_still_tail 14, (by kernel_rfl)
                          repeat (first | still_call (HMU.out _) | still_step)
                          refine wpStill_nil ?_
                          change wpList _ _ _ _ _ wi.drew
                          go_wp2
                          go_roundw
                          case rel => exact ⟨q + 1, by have := HQJ.out; omega, by go_num, (HST.out.congr (fun r d _ _ => by rw [← scalek_next E c s q r d, HY.out, HZZ.out])).drew, HB2.out.drew⟩
                          case measure => simp [intOf]; have := HQJ.out; omega
                        · have eq' : q = j + 1 := by omega
                          have hqj : ¬ (q : Int) ≤ (j : Int) := by omega
                          obtain ⟨E2, hE2⟩ : ∃ E2, scalef E c = E2 := ⟨_, rfl⟩
                          have HE2 := Lib.hid hE2
                          have M3 : Hid (Mt wi u2.heap.size o t j hb2 hc2 E2) := Lib.hid (hmt.congr (fun r d _ hd => by rw [eq', ← HS.out, ← HEX.out, ← hE2]; exact scalek_end E c j r d hd))
                          have HBW3 := Lib.hid hbw
                          have HE2B : Hid (Byf E2) := Lib.hid (by rw [← hE2]; exact byf_scale HEB.out c)
                          clear hmt hbw hE2 hlt hq eq'
                          go_wp2
                          go_loopw [22, 23, 24] (fun I _ _ wr => ∃ i : Nat, i ≤ t ∧ I = .int .i64 i ∧ Mt wr u2.heap.size o t j hb2 hc2 (elimk E2 c i 0) ∧ Below u2.heap.size u2 wr) (fun I _ _ _ => t - (intOf I).toNat)
                          case atStart => exact ⟨0, Nat.zero_le _, rfl, by rw [elimk_zero]; exact M3.out, HBW3.out⟩
                          case round =>
                            clear M3 HBW3
                            obtain ⟨i, hi, rfl, hmt, hbw⟩ := hrel
                            obtain ⟨wi, rfl⟩ : ∃ wi, wi = wr := ⟨_, rfl⟩
                            have HCT : Hid (c < t) := Lib.hid (by have := HCA.out; have := HAT.out; omega)
                            by_cases hlt : i < t
                            · have hi1 : (i : Int) < t := by omega
                              have HIT := Lib.hid hlt
                              have hd1 := hmt.head i hlt
                              have hd2 := hmt.cell i c hlt (Nat.le_of_lt HCJ.out)
                              rw [elimk_at0 E2 c i] at hd2
                              obtain ⟨f, hf⟩ : ∃ f, E2 i c = f := ⟨_, rfl⟩
                              rw [hf] at hd2
                              have HF := Lib.hid hf
                              have hf8 : f < 256 := by rw [← hf]; exact HE2B.out i c
                              have HF8 := Lib.hid hf8
                              have MI := Lib.hid hmt
                              have BI := Lib.hid hbw
                              clear hmt hbw hf hf8 hi hlt
                              by_cases hic : i = c ∨ f = 0
                              · have HSK : Hid (Mt wi u2.heap.size o t j hb2 hc2 (elimk E2 c (i + 1) 0)) := Lib.hid (MI.out.congr fun r d _ _ => elimk_skip E2 c i (hic.imp (fun e => e) (fun e => by rw [HF.out, e])) r d)
                                by_cases hi2 : i = c
                                · have hi3 : ((i : Int) == (c : Int)) = true := by rw [hi2]; simp
                                  have HI2 := Lib.hid hi2
                                  clear hic hi2
                                  go_wp2
                                  go_roundw
                                  case rel => exact ⟨i + 1, by have := HIT.out; omega, by go_num, HSK.out, BI.out⟩
                                  case measure => simp [intOf]; have := HIT.out; omega
                                · have hf0 : f = 0 := hic.resolve_left hi2
                                  have hi3 : ((i : Int) == (c : Int)) = false := by simp; omega
                                  rw [hf0] at hd2
                                  have HF0 := Lib.hid hf0
                                  have HI2 := Lib.hid hi2
                                  clear hic hi2 hf0
                                  go_wp2
                                  go_roundw
                                  case rel => exact ⟨i + 1, by have := HIT.out; omega, by go_num, HSK.out, BI.out⟩
                                  case measure => simp [intOf]; have := HIT.out; omega
                              · have hi2 : i ≠ c := fun e => hic (Or.inl e)
                                have hf0 : f ≠ 0 := fun e => hic (Or.inr e)
                                have hi3 : ((i : Int) == (c : Int)) = false := by simp; omega
                                have hf3 : ((f : Int) == 0) = false := by simp; omega
                                have HI2 := Lib.hid hi2
                                have HF0 := Lib.hid hf0
                                clear hic hi2 hf0
                                go_wp2
                                clear hd1 hd2
                                go_loopw [24] (fun M wr => ∃ q : Nat, q ≤ j + 1 ∧ M = .int .i64 q ∧ Mt wr u2.heap.size o t j hb2 hc2 (elimk E2 c i q) ∧ Below u2.heap.size u2 wr) (fun M _ => j + 1 - (intOf M).toNat)
                                case atStart => exact ⟨0, Nat.zero_le _, rfl, MI.out, BI.out⟩
                                case round =>
                                  clear MI BI
                                  obtain ⟨q, hq, rfl, hmt, hbw⟩ := hrel
                                  obtain ⟨wi2, rfl⟩ : ∃ wi2, wi2 = wr := ⟨_, rfl⟩
                                  by_cases hlt : q ≤ j
                                  · have hq1 : (q : Int) ≤ j := by omega
                                    have hq2 : (q : Int) < (j : Int) + 1 := by omega
                                    have hct2 : (c : Int) < t := by have := HCT.out; omega
                                    have HQJ := Lib.hid hlt
                                    have hd1 := hmt.head i HIT.out
                                    have hd2 := hmt.cell i q HIT.out hlt
                                    rw [elimk_at] at hd2
                                    have hd3 := hmt.head c HCT.out
                                    have hd4 := hmt.cell c q HCT.out hlt
                                    rw [elimk_self] at hd4
                                    have hy8 := HE2B.out i q
                                    have hz8 := HE2B.out c q
                                    obtain ⟨y, hy⟩ : ∃ y, E2 i q = y := ⟨_, rfl⟩
                                    obtain ⟨z, hz'⟩ : ∃ z, E2 c q = z := ⟨_, rfl⟩
                                    rw [hy] at hd2 hy8
                                    rw [hz'] at hd4 hz8
                                    have HY := Lib.hid hy
                                    have HZ' := Lib.hid hz'
                                    have HMU : Hid (∀ u, Calls Tryz.prog 108 #[.int .i64 (f : Int), .int .i64 (z : Int)] u fun e w' => e = .returned (.int .i64 (gm f z : Int)) ∧ w' = u) := Lib.hid fun u => (rmul_any f z u HF8.out).mono fun e w' h => ⟨h.1, h.2.symm⟩
                                    have hg8 : gm f z < 256 := gm_lt HF8.out hz8
                                    obtain ⟨v, hv⟩ : ∃ v, gm f z = v := ⟨_, rfl⟩
                                    rw [hv] at HMU hg8
                                    have HV := Lib.hid hv
                                    have hxor : bits .xor .i64 (y : Int) (v : Int) = ((y ^^^ v : Nat) : Int) := xor_i64 y v (by omega) (by omega)
                                    obtain ⟨u', hu'⟩ : ∃ u', y ^^^ v = u' := ⟨_, rfl⟩
                                    rw [hu'] at hxor
                                    have HU' := Lib.hid hu'
                                    have hfz := hmt.frozenI i q HIT.out
                                    have HST := Lib.hid (hmt.set i q HIT.out hlt u')
                                    have HB2 : Hid (Below u2.heap.size u2 (wi2.setCell ⟨hb2 i, q, none⟩ (.int .i64 (u' : Int)))) := Lib.hid (hbw.setCell (p := ⟨hb2 i, q, none⟩) (hmt.ibase i HIT.out) _)
                                    clear hmt hbw hy hz' hy8 hz8 hg8 hv hu' hlt hq
                                    go_wp2
                                    go_still_tail 22, (by kernel_rfl)
                                    repeat (first | still_call (HMU.out _) | still_step)
                                    refine wpStill_nil ?_
                                    change wpList _ _ _ _ _ wi2.drew
                                    go_wp2
                                    go_roundw
                                    case rel => exact ⟨q + 1, by have := HQJ.out; omega, by go_num, (HST.out.congr (fun r d _ _ => by rw [← elimk_next E2 c i q HI2.out r d, HY.out, HZ'.out, HF.out, HV.out, HU'.out])).drew, HB2.out.drew⟩
                                    case measure => simp [intOf]; have := HQJ.out; omega
                                  · have eq' : q = j + 1 := by omega
                                    have hqj : ¬ (q : Int) ≤ (j : Int) := by omega
                                    have M5 : Hid (Mt wi2 u2.heap.size o t j hb2 hc2 (elimk E2 c (i + 1) 0)) := Lib.hid (hmt.congr (fun r d _ hd => by rw [eq']; exact elimk_row E2 c i j r d hd))
                                    have B5 := Lib.hid hbw
                                    clear hmt hbw hlt hq eq'
                                    go_wp2
                                    go_roundw
                                    case rel => exact ⟨i + 1, by have := HIT.out; omega, by go_num, M5.out, B5.out⟩
                                    case measure => simp [intOf]; have := HIT.out; omega
                            · have ei : i = t := by omega
                              subst ei
                              have M6 : Hid (Mt wi u2.heap.size o i j hb2 hc2 (stepf G c a')) := Lib.hid (hmt.congr (fun r d hr _ => by rw [elimk_end E2 c i r d hr, stepf, HE.out, HE2.out]))
                              have B6 := Lib.hid hbw
                              have HNX : Hid (gs F i (c + 1) = some (stepf G c a')) := Lib.hid (by
                                have h1 : pivf G i c (i - c) = a' := pivf_at HCH.out HCA.out (Nat.le_of_lt HAT.out) HZ.out (Or.inr HNE.out)
                                rw [gs, HGS.out, Option.bind_some, h1, if_pos HAT.out])
                              clear hmt hbw hlt hi
                              go_wp2
                              go_roundw
                              case rel => exact ⟨c + 1, by have := HCJ.out; omega, by go_num, by go_num, ⟨_, _, _, HNX.out, M6.out⟩, B6.out⟩
                              case measure => simp [intOf]; have := HCJ.out; omega
                · have ea : a' = t := by omega
                  subst ea
                  have HNONE : Hid (r = none) := Lib.hid (by
                    have h1 : pivf G a' c (a' - c) = a' := pivf_at HCH.out HCA.out (Nat.le_refl _) HZ.out (Or.inl rfl)
                    have h2 : gs F a' (c + 1) = none := by rw [gs, HGS.out, Option.bind_some, h1, if_neg (by omega)]
                    have h3 := gs_up h2 (j - (c + 1))
                    rw [show c + 1 + (j - (c + 1)) = j by have := HCJ.out; omega] at h3
                    rw [HRR.out, h3]
                    rfl)
                  clear hlt hca hat
                  go_wp2
                  go_ret2
                  exact ⟨by rw [HNONE.out]; rfl, B3.out.next HBW.out⟩
            · have ec : c = j := by omega
              subst ec
              have HUE := Lib.hid (gs_some HFB.out c G HGS.out).2.2.1
              clear hlt hcj
              go_wp2
              go_loop [25] (fun I => ∃ i : Nat, c ≤ i ∧ i ≤ t ∧ I = .int .i64 i ∧ ∀ r, c ≤ r → r < i → G r c = 0) (fun I => t - (intOf I).toNat)
              case atStart => exact ⟨c, Nat.le_refl _, HCH.out, rfl, fun r h1 h2 => absurd h2 (by omega)⟩
              case round =>
                obtain ⟨i, hci, hit, rfl, hz⟩ := hrel
                have HZ := Lib.hid hz
                have HCI := Lib.hid hci
                clear hz
                by_cases hlt : i < t
                · have hi1 : (i : Int) < t := by omega
                  have hd1 := MT.out.head i hlt
                  have hd2 := MT.out.cell i c hlt (Nat.le_refl _)
                  have hcc : (c : Int) < (c : Int) + 1 := by omega
                  have HIT := Lib.hid hlt
                  by_cases h0 : G i c = 0
                  · rw [h0] at hd2
                    have HG0 := Lib.hid h0
                    clear h0 hlt hci hit
                    go_wp2
                    go_round
                    case rel => exact ⟨i + 1, by have := HCI.out; omega, by have := HIT.out; omega, by go_num, fun r h1 h2 => by
                      by_cases e : r = i
                      · rw [e]; exact HG0.out
                      · exact HZ.out r h1 (by omega)⟩
                    case measure => simp [intOf]; have := HIT.out; omega
                  · have HNONE : Hid (r = none) := Lib.hid (by
                      rw [HRR.out, HGS.out, Option.bind_some, gone_at G c t i HCI.out hlt h0]
                      rfl)
                    obtain ⟨x, hx⟩ : ∃ x, G i c = x := ⟨_, rfl⟩
                    rw [hx] at hd2 h0
                    have hx0 : ((x : Int) != 0) = true := by simpa using h0
                    clear h0 hlt hci hit hx
                    go_wp2
                    go_ret2
                    exact ⟨by rw [HNONE.out]; rfl, B3.out.next HBW.out⟩
                · have hge : ¬ (i : Int) < (t : Int) := by omega
                  have HSOME : Hid (r = some (fillk Z Pl (fun r => G r c) c)) := Lib.hid (by
                    rw [HRR.out, HGS.out, Option.bind_some, if_pos ((gone_iff G c t).2 (fun r h1 h2 => HZ.out r h1 (by omega)))])
                  have R5 := Lib.hid (R3.out.below HBW.out R3.out.lt)
                  have GU : Hid (g < u2.heap.size) := Lib.hid R3.out.lt
                  have BW5 : Hid (Below w.heap.size w wo) := Lib.hid (B3.out.next HBW.out)
                  clear hlt hci hit
                  go_wp2
                  go_loopw [26] (fun I wr => ∃ q : Nat, q ≤ c ∧ I = .int .i64 q ∧ Row wr g 5 (u8s (fillk Z Pl (fun r => G r c) q) ++ ys) ∧ Mt wr u2.heap.size o t c hb hc G ∧ Below w.heap.size w wr) (fun I _ => c - (intOf I).toNat)
                  case atStart => exact ⟨0, Nat.zero_le _, rfl, R5.out, MT.out, BW5.out⟩
                  case round =>
                    clear MT BW5 R5 HBW
                    obtain ⟨q, hq, rfl, hrow, hmt, hbw⟩ := hrel
                    obtain ⟨wi, rfl⟩ : ∃ wi, wi = wr := ⟨_, rfl⟩
                    by_cases hlt : q < c
                    · obtain ⟨bp, off, rfl, hbb, hcp⟩ := HQ.out (by rw [nats_length, HPL.out]; omega)
                      have hcell : wi.cell? ⟨bp, off + q, none⟩ = some (.int .i64 (sq Pl q : Int)) := (hbw.cell (p := ⟨bp, off + q, none⟩) hbb).trans (nats_sq (B := 0) hcp q (by rw [HPL.out]; exact hlt))
                      have hsn := HPLT.out q hlt
                      have HFL : Hid ((fillk Z Pl (fun r => G r c) q).length = n) := Lib.hid (by rw [fillk_length, HZL.out])
                      have hqt : q < t := by have := HCH.out; omega
                      have hd1 := hmt.head q hqt
                      have hd2 := hmt.cell q c hqt (Nat.le_refl _)
                      have hx8 := HGB.out q c
                      have hst := rs_take_set hrow (sq Pl q) (G q c) (by rw [HFL.out]; exact hsn)
                      rw [show (fillk Z Pl (fun r => G r c) q).set (sq Pl q) (G q c) = fillk Z Pl (fun r => G r c) (q + 1) from rfl] at hst
                      obtain ⟨x, hx⟩ : ∃ x, G q c = x := ⟨_, rfl⟩
                      obtain ⟨s, hs⟩ : ∃ s, sq Pl q = s := ⟨_, rfl⟩
                      rw [hx] at hd2 hx8 hst
                      rw [hs] at hcell hsn hst
                      obtain ⟨u, hu⟩ : ∃ u, wi.cell? ⟨g, s, none⟩ = some u := ⟨_, by rw [hrow.cell, List.getElem?_append_left (by rw [u8s_length, HFL.out]; exact hsn)]; exact List.getElem?_eq_getElem (by rw [u8s_length, HFL.out]; exact hsn)⟩
                      have hfz := hrow.frozen s
                      have HST := Lib.hid hst
                      have HB2 : Hid (Below w.heap.size w (wi.setCell ⟨g, s, none⟩ (.int .u8 (x : Int)))) := Lib.hid (hbw.setCell (p := ⟨g, s, none⟩) GW.out _)
                      have HM2 : Hid (Mt (wi.setCell ⟨g, s, none⟩ (.int .u8 (x : Int))) u2.heap.size o t c hb hc G) := Lib.hid (hmt.far _ _ (by have := hmt.obase; have := GU.out; show o ≠ g; omega) (fun i hi => by have := hmt.ibase i hi; have := GU.out; show hb i ≠ g; omega))
                      have HQC := Lib.hid hlt
                      have hs1 : (s : Int) < n := by omega
                      have hq1 : (q : Int) < c := by omega
                      have hq2 : (q : Int) < t := by omega
                      have hcc : (c : Int) < (c : Int) + 1 := by omega
                      have hx1 : (x : Int) < 256 := by omega
                      have hxm : (x : Int) % 256 = (x : Int) := by omega
                      have hxw : IntKind.u8.wrap (x : Int) = (x : Int) := by rw [IntKind.wrap_u8']; omega
                      clear hrow hmt hbw hst hx hs hcp hlt hq hx8 hsn hqt
                      go_wp2
                      go_still_tail 14, (by kernel_rfl)
                      change wpList _ _ _ _ _ wi.drew
                      go_wp2
                      go_roundw
                      case rel => exact ⟨q + 1, by have := HQC.out; omega, by go_num, HST.out.drew, HM2.out.drew, HB2.out.drew⟩
                      case measure => simp [intOf]; have := HQC.out; omega
                    · have eq' : q = c := by omega
                      have hge2 : ¬ (q : Int) < (c : Int) := by omega
                      have HRD : Hid (Rd (fillk Z Pl (fun r => G r c) c) (.slice (some ⟨g, 0, none⟩) n cg) wi) := Lib.hid (by
                        rw [eq'] at hrow
                        refine ⟨some ⟨g, 0, none⟩, cg, by rw [fillk_length, HZL.out], by rw [fillk_length, HZL.out]; exact CG.out, rs_lies hrow⟩)
                      clear hrow hmt hlt hq eq'
                      go_wp2
                      go_ret2
                      exact ⟨by rw [HSOME.out]; exact ⟨_, rfl, HRD.out, fun g' o' n' c' e' => by cases e'; exact GW.out⟩, hbw⟩
end Go.Proofs.YtnbjaijhdjneoaaGreat

namespace Go.Proofs.YtnbjaijhdjneoaaGreat
open Go.RowKit GfMath PolyMath RsMath
set_option linter.unusedVariables false
set_option maxRecDepth 100000

end Go.Proofs.YtnbjaijhdjneoaaGreat

namespace Go.Proofs.YtnbjaijhdjneoaaGreat
open Go.RowKit CrcMath GfMath PolyMath RsMath SolMath GeoMath
set_option linter.unusedVariables false
set_option maxRecDepth 100000

def RdF (B : Nat) (l : List Nat) : Value → World → Prop := fun v w => Rd l v w ∧ FrB B v
theorem RdF.monot (B : Nat) (l : List Nat) : Monot (RdF B l) := fun _ _ _ ⟨h1, h2⟩ hb => ⟨Rd.monot l _ _ _ h1 hb, h2⟩
theorem tab_snoc' (n : Nat) (f : Nat → Nat) : tab (n + 1) f = tab n f ++ [f n] := by rw [tab, tab, List.range_succ, List.map_append]; rfl
set_option maxHeartbeats 1000000 in
theorem refColumn_any (a : Option Addr) (cap n : Nat) (f : Fb) (b : Nat) (w : World) (hn : n ≤ 1000) (hb : b < 60) (hr : Lies w w.heap.size a (bytes (grid n f))) :
    Calls Tryz.prog 30 #[.slice a n cap, .int .i64 (b : Int)] w fun e w' => (∃ v, e = .returned v ∧ Rd (colF f n b) v w') ∧ Below w.heap.size w w' := by
  have HR := Lib.hid hr
  have HB := Lib.hid hb
  have HOW0 := Lib.hid (own_zero w 5)
  have HB0 := Lib.hid (alloc_below w (.cells #[] 5))
  have hb1 : (b : Int) < 60 := by omega
  have hn1 : (n : Int) ≤ 1000 := by omega
  clear hr hb hn
  go_enter Tryz.func30, Tryz.ntmps30
  go_wp2
  go_loopw [5, 6] (fun v x wr => ∃ i : Nat, i ≤ n ∧ x = .int .i64 i ∧ wr.ownsRow w.heap.size 5 1 v i (u8s (colF f i b)) ∧ Below w.heap.size w wr) (fun _ x _ => n - (intOf x).toNat)
  case atStart => exact ⟨0, Nat.zero_le _, rfl, HOW0.out, HB0.out⟩
  case round =>
    clear HOW0 HB0
    obtain ⟨i, hi, rfl, hown, hbw⟩ := hrel
    obtain ⟨av, cv, rfl, hcv, hlv⟩ := own_form2 hown
    by_cases hlt : i < n
    · have hii : (i : Int) < (n : Int) := by omega
      obtain ⟨bl, off, rfl, hbb, hc⟩ := HR.out (by rw [bytes_length, grid_length]; omega)
      obtain ⟨x, hx⟩ : ∃ x, (f i b).toNat = x := ⟨_, rfl⟩
      have hcell : wr.cell? ⟨bl, off + i * 60 + b, none⟩ = some (.int .u8 (x : Int)) := by
        have h1 := (hbw.cell (p := ⟨bl, off + (i * 60 + b), none⟩) hbb).trans (hc (i * 60 + b) (.int .u8 (x : Int)) (by
          have := grid_cell_ys n f [] i b hlt HB.out
          rw [List.append_nil, hx] at this
          exact this))
        rwa [← Nat.add_assoc] at h1
      have HNX : Hid (u8s (colF f i b) ++ [.int .u8 (x : Int)] = u8s (colF f (i + 1) b)) := Lib.hid (by
        rw [colF, colF, tab_snoc', ← hx, u8s_snoc])
      have HOWN := Lib.hid (hown.alloc (.cells #[.int .u8 (x : Int)] 5))
      have HL := Lib.hid (Lies.new [Value.int .u8 (x : Int)] wr 5)
      have HBW := Lib.hid (hbw.alloc hbw.size (.cells #[.int .u8 (x : Int)] 5))
      have HZZ := Lib.hid HBW.out.size
      have HO1 : Hid ((Value.int .u8 (x : Int)).oneCell' = true) := Lib.hid rfl
      have HPK : Big (i + 1 ≤ 1099511627776) := ⟨by omega⟩
      have HOL : Hid (∀ s, (Value.slice av i cv).ownBlock = some s → w.heap.size ≤ s) := Lib.hid fun s hs => (hown.lt s hs).1
      clear hown hbw hcv hlv hc hbb hx hlt
      go_wp2_with ((with_reducible refine wpAppend1K HOWN.out Tryz.underlying67 one_byte HL.out HO1.out HPK HZZ.out ?_ ?_); rfl; intro v3 w3 g3 q3 k3; rw [HNX.out] at g3; have O3 := Lib.hid g3; have B3 : Hid (Below w.heap.size w w3) := Lib.hid (HBW.out.grown q3 HBW.out.size HOL.out); clear g3 q3 k3)
      go_roundw
      case rel => exact ⟨i + 1, by omega, by go_num, O3.out, B3.out⟩
      case measure => simp [intOf]; omega
    · obtain rfl : i = n := by omega
      have HV : Hid (Rd (colF f i b) (.slice av i cv) wr) := Lib.hid ⟨av, cv, by rw [colF_length], by rw [colF_length]; exact hcv, hlv⟩
      have HBW := Lib.hid hbw
      clear hown hbw hcv hlv
      go_wp2
      go_ret
      exact ⟨⟨_, rfl, HV.out⟩, HBW.out⟩

end Go.Proofs.YtnbjaijhdjneoaaGreat

namespace SolMath
open GfMath PolyMath RsMath
set_option linter.unusedVariables false

theorem snocInd {α : Type} {P : List α → Prop} (h0 : P []) (h1 : ∀ l a, P l → P (l ++ [a])) (l : List α) : P l := by
  rw [← List.reverse_reverse l]
  induction l.reverse with
  | nil => exact h0
  | cons a l ih => rw [List.reverse_cons]; exact h1 _ _ ih
theorem setG_snoc (G : List Bool) (er : List Int) (x : Int) : setG G (er ++ [x]) = (setG G er).set x.toNat true := by rw [setG, List.foldl_append]; rfl
/-- One turn: a place, and by what. -/
structure Tv where
  at_ : Int
  by_ : Nat
/-! The places that differ, in order. -/
theorem atF_succ (d : Nat → Nat) (i : Nat) : atF d (i + 1) = atF d i ++ (if d i = 0 then [] else [i]) := by
  rw [atF, List.range_succ, List.filter_append, atF]
  by_cases h : d i = 0 <;> simp [h]
end SolMath

namespace SolMath
open GfMath PolyMath RsMath
set_option linter.unusedVariables false

def tryL (g : Nat → Option (List Nat)) (Pl : List Nat) : Nat → Nat → Option (List Nat)
  | 0, _ => none
  | t + 1, i => if i ∈ Pl then tryL g Pl t (i + 1) else match g i with
    | some D => some D
    | none => tryL g Pl t (i + 1)
def tryF (W : List Nat) (p n : Nat) : Nat → List Nat → Nat → Option (List Nat)
  | 0, Pl, _ => solveF W Pl p
  | m + 1, Pl, f => match solveF W Pl p with
    | some D => some D
    | none => tryL (fun i => tryF W p n m (Pl ++ [i]) (i + 1)) Pl (n - f) f
theorem tryL_some {g : Nat → Option (List Nat)} {Pl D : List Nat} : ∀ {t i : Nat}, tryL g Pl t i = some D → ∃ j, i ≤ j ∧ j < i + t ∧ j ∉ Pl ∧ g j = some D
  | 0, i, h => by cases h
  | t + 1, i, h => by
    rw [tryL] at h
    by_cases hi : i ∈ Pl
    · rw [if_pos hi] at h
      obtain ⟨j, h1, h2, h3⟩ := tryL_some h
      exact ⟨j, by omega, by omega, h3⟩
    · rw [if_neg hi] at h
      cases hg : g i with
      | some E => rw [hg] at h; exact ⟨i, Nat.le_refl _, by omega, hi, by rw [hg]; exact h⟩
      | none =>
        rw [hg] at h
        obtain ⟨j, h1, h2, h3⟩ := tryL_some h
        exact ⟨j, by omega, by omega, h3⟩
theorem tryL_none {g : Nat → Option (List Nat)} {Pl : List Nat} : ∀ {t i : Nat}, tryL g Pl t i = none → ∀ j, i ≤ j → j < i + t → j ∉ Pl → g j = none
  | 0, i, h, j, h1, h2, _ => by omega
  | t + 1, i, h, j, h1, h2, h3 => by
    rw [tryL] at h
    by_cases hi : i ∈ Pl
    · rw [if_pos hi] at h
      have : j ≠ i := fun e => h3 (e ▸ hi)
      exact tryL_none h j (by omega) (by omega) h3
    · rw [if_neg hi] at h
      cases hg : g i with
      | some E => rw [hg] at h; cases h
      | none =>
        rw [hg] at h
        by_cases e : j = i
        · rw [e, hg]
        · exact tryL_none h j (by omega) (by omega) h3
theorem not_mem_sq {Pl : List Nat} {q : Nat} : (∀ c, c < Pl.length → sq Pl c ≠ q) ↔ q ∉ Pl := by
  constructor
  · intro h hm
    obtain ⟨c, hc, e⟩ := List.getElem_of_mem hm
    exact h c hc (by rw [sq_get _ _ hc]; exact e)
  · intro h c hc e
    rw [sq_get _ _ hc] at e
    exact h (e ▸ List.getElem_mem hc)
theorem plc_snoc {Pl : List Nat} {n i : Nat} (h : Plc Pl n) (hi : i < n) (hm : i ∉ Pl) : Plc (Pl ++ [i]) n where
  lt := fun c hc => by
    rw [List.length_append, List.length_singleton] at hc
    by_cases e : c < Pl.length
    · rw [sq_get _ _ (by simp; omega), List.getElem_append_left e, ← sq_get _ _ e]; exact h.lt c e
    · rw [sq_get _ _ (by simp; omega), List.getElem_append_right (by omega)]; simpa using hi
  ne := fun a b hab hb => by
    rw [List.length_append, List.length_singleton] at hb
    rw [sq_get _ _ (by simp; omega), sq_get _ _ (by simp; omega), List.getElem_append_left (by omega)]
    by_cases e : b < Pl.length
    · rw [List.getElem_append_left e, ← sq_get _ _ (by omega), ← sq_get _ _ e]; exact h.ne a b hab e
    · rw [List.getElem_append_right (by omega)]
      simp only [List.getElem_singleton]
      intro e2
      exact hm (e2 ▸ List.getElem_mem _)
theorem least {P : Nat → Prop} : ∀ n : Nat, (∃ q, q < n ∧ P q) → ∃ q, q < n ∧ P q ∧ ∀ r, r < q → ¬ P r
  | 0, ⟨q, h, _⟩ => by omega
  | n + 1, ⟨q, h, hP⟩ => by
    by_cases hx : ∃ q, q < n ∧ P q
    · obtain ⟨q, h1, h2, h3⟩ := least n hx
      exact ⟨q, by omega, h2, h3⟩
    · have e : q = n := by
        by_cases e : q = n
        · exact e
        · exact absurd ⟨q, by omega, hP⟩ hx
      subst e
      exact ⟨q, h, hP, fun r hr hr2 => hx ⟨r, hr, hr2⟩⟩
theorem tryF_some {W : List Nat} {p n : Nat} (hW : By W) (hn : W.length = n) : ∀ (m : Nat) (Pl : List Nat) (f : Nat) (D : List Nat), Plc Pl n → Pl.length + m ≤ p → tryF W p n m Pl f = some D → ∃ X, X.length ≤ m ∧ Agree W (Pl ++ X) D ∧ allz (vals D p) = true
  | 0, Pl, f, D, hP, hm, h => by
    obtain ⟨h1, h2⟩ := solveF_some hW (by rw [hn]; exact hP) (by omega) h
    exact ⟨[], Nat.le_refl _, by rw [List.append_nil]; exact h1, h2⟩
  | m + 1, Pl, f, D, hP, hm, h => by
    rw [tryF] at h
    cases hs : solveF W Pl p with
    | some E =>
      rw [hs] at h
      obtain ⟨h1, h2⟩ := solveF_some hW (by rw [hn]; exact hP) (by omega) (hs.trans h)
      exact ⟨[], by simp, by rw [List.append_nil]; exact h1, h2⟩
    | none =>
      rw [hs] at h
      obtain ⟨j, h1, h2, h3, h4⟩ := tryL_some h
      obtain ⟨X, x1, x2, x3⟩ := tryF_some hW hn m (Pl ++ [j]) (j + 1) D (plc_snoc hP (by omega) h3) (by simp; omega) h4
      exact ⟨j :: X, by simp; omega, by rw [List.append_cons]; exact x2, x3⟩
def difO (W D Pl : List Nat) (n : Nat) : List Nat := (List.range n).filter fun q => !decide (q ∈ Pl) && decide (sq D q ≠ sq W q)
theorem difO_mem {W D Pl : List Nat} {n q : Nat} : q ∈ difO W D Pl n ↔ q < n ∧ q ∉ Pl ∧ sq D q ≠ sq W q := by
  unfold difO
  simp
theorem difO_nodup (W D Pl : List Nat) (n : Nat) : (difO W D Pl n).Nodup := List.Pairwise.filter _ List.nodup_range
theorem tryF_none {W : List Nat} {p n : Nat} (hW : By W) (hn : W.length = n) (h255 : n ≤ 255) {D : List Nat} (hD : By D) (hDl : D.length = n) : ∀ (m : Nat) (Pl : List Nat) (f : Nat), Plc Pl n → Pl.length + m ≤ p → tryF W p n m Pl f = none → (∀ q, q < f → q ∉ Pl → sq D q = sq W q) → (difO W D Pl n).length ≤ m → allz (vals D p) = false
  | 0, Pl, f, hP, hm, h, hf, hd => by
    refine solveF_none hW (by omega) (by rw [hn]; exact hP) (by omega) h ⟨by omega, hD, fun q hq => ?_⟩
    refine Classical.byContradiction fun hne => ?_
    have hqn : q < n := by
      refine Classical.byContradiction fun hx => hne ?_
      rw [sq_out _ _ (by omega), sq_out _ _ (by omega)]
    have : q ∈ difO W D Pl n := difO_mem.2 ⟨hqn, not_mem_sq.1 hq, hne⟩
    have h0 : difO W D Pl n = [] := List.length_eq_zero_iff.1 (by omega)
    rw [h0] at this
    cases this
  | m + 1, Pl, f, hP, hm, h, hf, hd => by
    rw [tryF] at h
    cases hs : solveF W Pl p with
    | some E => rw [hs] at h; cases h
    | none =>
      rw [hs] at h
      by_cases hx : ∃ q, q < n ∧ (q ∉ Pl ∧ sq D q ≠ sq W q)
      · obtain ⟨q, h1, ⟨h2, h3⟩, h4⟩ := least n hx
        have hfq : f ≤ q := Classical.byContradiction fun hlt => h3 (hf q (by omega) h2)
        have hg := tryL_none h q hfq (by omega) h2
        refine tryF_none hW hn h255 hD hDl m (Pl ++ [q]) (q + 1) (plc_snoc hP h1 h2) (by simp; omega) hg (fun r hr hrm => ?_) ?_
        · simp only [List.mem_append, List.mem_singleton, not_or] at hrm
          exact Classical.byContradiction fun hne => h4 r (by omega) ⟨hrm.1, hne⟩
        · have hsub := sub_length (q :: difO W D (Pl ++ [q]) n) (difO W D Pl n) (List.nodup_cons.2 ⟨fun hm => by
            have := (difO_mem.1 hm).2.1
            simp at this, difO_nodup _ _ _ _⟩) (fun x hx => by
            rcases List.mem_cons.1 hx with rfl | hx
            · exact difO_mem.2 ⟨h1, h2, h3⟩
            · obtain ⟨x1, x2, x3⟩ := difO_mem.1 hx
              simp only [List.mem_append, List.mem_singleton, not_or] at x2
              exact difO_mem.2 ⟨x1, x2.1, x3⟩)
          rw [List.length_cons] at hsub
          omega
      · refine solveF_none hW (by omega) (by rw [hn]; exact hP) (by omega) hs ⟨by omega, hD, fun q hq => ?_⟩
        refine Classical.byContradiction fun hne => hx ⟨q, ?_, not_mem_sq.1 hq, hne⟩
        refine Classical.byContradiction fun hx => hne ?_
        rw [sq_out _ _ (by omega), sq_out _ _ (by omega)]
/-! The erased places, each once, in their order. -/
def plStep (P : List Nat) (x : Int) : List Nat := if x.toNat ∈ P then P else P ++ [x.toNat]
def plF (er : List Int) : List Nat := er.foldl plStep []
theorem plF_snoc (er : List Int) (x : Int) : plF (er ++ [x]) = plStep (plF er) x := by rw [plF, List.foldl_append]; rfl
theorem plF_next (er : List Int) (k : Nat) (h : k < er.length) : plF (er.take (k + 1)) = plStep (plF (er.take k)) er[k] := by rw [List.take_succ_eq_append_getElem h, plF_snoc]
theorem markE_length (n : Nat) (el : List Int) : (markE n el).length = n := by unfold markE; rw [setG_length]; exact List.length_replicate
theorem plF_spec {n : Nat} (er : List Int) : inB n er = true → Plc (plF er) n ∧ (∀ q, q ∈ plF er ↔ gAt (markE n er) q = true) ∧ (plF er).length = cnt (markE n er) := by
  induction er using snocInd with
  | h0 =>
    intro _
    refine ⟨⟨fun c hc => absurd hc (Nat.not_lt_zero _), fun a b _ hb => absurd hb (Nat.not_lt_zero _)⟩, fun q => ?_, ?_⟩
    · show q ∈ [] ↔ gAt (noneG n) q = true
      have : gAt (noneG n) q = false := by
        unfold gAt noneG
        rw [List.getD_eq_getElem?_getD, List.getElem?_replicate]
        split <;> rfl
      rw [this]
      simp
    · show 0 = cnt (noneG n)
      unfold cnt noneG
      rw [List.count_replicate]
      simp
  | h1 l a ih =>
    intro hb
    unfold inB at hb
    rw [List.all_append, Bool.and_eq_true] at hb
    obtain ⟨hb1, hb2⟩ := hb
    have ha : 0 ≤ a ∧ a < (n : Int) := by simpa using hb2
    obtain ⟨i1, i2, i3⟩ := ih hb1
    have hat : a.toNat < n := by omega
    have hm : markE n (l ++ [a]) = (markE n l).set a.toNat true := by unfold markE; exact setG_snoc _ _ _
    rw [plF_snoc, hm]
    unfold plStep
    by_cases hx : a.toNat ∈ plF l
    · rw [if_pos hx, set_self ((i2 _).1 hx)]
      exact ⟨i1, i2, i3⟩
    · rw [if_neg hx]
      refine ⟨plc_snoc i1 hat hx, fun q => ?_, ?_⟩
      · rw [gAt_set _ _ _ (by rw [markE_length]; exact hat), List.mem_append, List.mem_singleton, i2 q, Bool.or_eq_true, decide_eq_true_eq]
        exact ⟨fun h => h.imp id Eq.symm, fun h => h.imp id Eq.symm⟩
      · have hf : gAt (markE n l) a.toNat = false := by
          cases hg : gAt (markE n l) a.toNat with
          | false => rfl
          | true => exact absurd ((i2 _).2 hg) hx
        rw [cnt_set (by rw [markE_length]; exact hat) hf, List.length_append, i3]
        rfl
/-! What is mended is near. -/
theorem mendF_near {seek : Nat → List Nat → Nat → List Nat} {n p : Nat} {W m l : List Nat} {el : List Int} (hn : W.length = n) (h : mendF seek n p W el = .ok m l) : ocnt (oth W m (markE n el)) n ≤ (p - cnt (markE n el)) / 2 := by
  rw [mendF_eq] at h
  split at h
  · cases h
  · unfold mendG at h
    simp only at h
    split at h
    · rename_i hc
      injection h with h1 h2
      refine Nat.le_trans (Nat.le_of_eq ?_) hc.2.2
      rw [← h1]
      unfold othF ocnt layP layW atF
      rw [List.filter_filter]
      congr 1
      refine List.filter_congr fun j hj => ?_
      have hj := List.mem_range.1 hj
      unfold oth er wordF
      rw [sq_tab, if_pos (show j < W.length by rw [hn]; exact hj), if_pos hj, ← Nat.xor_assoc, Nat.xor_self, Nat.zero_xor]
      cases gAt (markE n el) j <;> simp
    · cases h
theorem difO_oth {W D Pl : List Nat} {n : Nat} {G : List Bool} (h : ∀ q, q ∈ Pl ↔ gAt G q = true) : (difO W D Pl n).length = ocnt (oth W D G) n := by
  unfold difO ocnt
  congr 1
  refine List.filter_congr fun j _ => ?_
  unfold oth er
  cases hg : gAt G j with
  | true => rw [decide_eq_true ((h j).2 hg)]; simp
  | false =>
    rw [decide_eq_false (fun hx => by rw [(h j).1 hx] at hg; cases hg)]
    by_cases e : sq D j = sq W j
    · simp [e]
    · have : ¬ (sq W j ^^^ sq D j = 0) := fun hx => e (xor_zero_iff.1 hx)
      simp [e, this]
theorem ref_some {n p : Nat} {W D : List Nat} {el : List Int} (hW : By W) (hn : W.length = n) (h255 : n ≤ 255) (hp : 1 ≤ p) (hb : inB n el = true) (hc : (plF el).length ≤ p) (h : tryF W p n ((p - (plF el).length) / 2) (plF el) 0 = some D) : mendF masseyF n p W el = .ok D (atF (er W D) n) := by
  obtain ⟨h1, h2, h3⟩ := plF_spec el hb
  obtain ⟨X, x1, ⟨x2, x3, x4⟩, x5⟩ := tryF_some hW hn _ _ _ _ h1 (by omega) h
  refine decode ⟨h255, hW, hn, x3, by omega, allz_zero.1 x5⟩ hp hb ?_
  rw [← h3, ← difO_oth h2]
  have : (difO W D (plF el) n).length ≤ X.length := sub_length _ _ (difO_nodup _ _ _ _) fun q hq => by
    obtain ⟨q1, q2, q3⟩ := difO_mem.1 hq
    refine Classical.byContradiction fun hx => q3 (x4 q (not_mem_sq.2 fun hm => ?_))
    rcases List.mem_append.1 hm with hm | hm
    · exact q2 hm
    · exact hx hm
  omega
theorem ref_none {n p : Nat} {W : List Nat} {el : List Int} (hW : By W) (hn : W.length = n) (h255 : n ≤ 255) (hb : inB n el = true) (hc : (plF el).length ≤ p) (h : tryF W p n ((p - (plF el).length) / 2) (plF el) 0 = none) : mendF masseyF n p W el = .bad := by
  obtain ⟨h1, h2, h3⟩ := plF_spec el hb
  cases hm : mendF masseyF n p W el with
  | bad => rfl
  | arg =>
    rw [mendF_eq, if_neg (by rw [hb]; simp)] at hm
    unfold mendG at hm
    simp only at hm
    split at hm <;> cases hm
  | ok m l =>
    exfalso
    obtain ⟨o1, o2, o3, o4⟩ := mendF_ok hm
    have hnear := mendF_near hn hm
    rw [← h3, ← difO_oth h2] at hnear
    have := tryF_none hW hn h255 (mendF_by hW hm) (by omega) _ _ 0 h1 (by omega) h (fun q hq => absurd hq (Nat.not_lt_zero _)) hnear
    rw [this] at o2
    cases o2
theorem ref_much {n p : Nat} {W : List Nat} {el : List Int} (hb : inB n el = true) (hc : p < (plF el).length) : mendF masseyF n p W el = .bad := by
  obtain ⟨h1, h2, h3⟩ := plF_spec el hb
  rw [mendF_eq, if_neg (by rw [hb]; simp)]
  unfold mendG
  simp only
  rw [if_neg (by omega)]
theorem ref_arg {n p : Nat} {W : List Nat} {el : List Int} (hb : inB n el = false) : mendF masseyF n p W el = .arg := by rw [mendF_eq, if_pos hb]
end SolMath

namespace Go.Proofs.YtnbjaijhdjneoaaGreat
open Go.RowKit GfMath PolyMath RsMath SolMath
set_option linter.unusedVariables false
set_option maxRecDepth 100000

end Go.Proofs.YtnbjaijhdjneoaaGreat

namespace Go.Proofs.YtnbjaijhdjneoaaGreat
open Go.RowKit GfMath PolyMath RsMath SolMath
set_option linter.unusedVariables false
set_option linter.unusedSimpArgs false
set_option maxRecDepth 100000

set_option maxHeartbeats 1000000 in
theorem rhas_any (a : Option Addr) (cap : Nat) (l : List Nat) (q : Nat) (w : World) (hl : l.length ≤ 1000) (hr : Lies w w.heap.size a (nats l)) :
    Calls Tryz.prog 55 #[.slice a l.length cap, .int .i64 (q : Int)] w fun e w' => e = .returned (.bool (decide (q ∈ l))) ∧ w = w' := by
  obtain ⟨n, hn⟩ : ∃ n, l.length = n := ⟨_, rfl⟩
  rw [hn] at hl ⊢
  have HN := Lib.hid hn
  have HR := Lib.hid hr
  have hni : (n : Int) ≤ 1000 := by omega
  obtain ⟨b, hb⟩ : ∃ b, decide (q ∈ l) = b := ⟨_, rfl⟩
  have HB := Lib.hid hb
  rw [hb]
  clear hn hr hl hb
  go_enter Tryz.func55, Tryz.ntmps55
  go_wp2
  go_loopw [5] (fun i wr => ∃ j : Nat, j ≤ n ∧ i = .int .i64 j ∧ (∀ c, c < j → sq l c ≠ q) ∧ wr = w) (fun i _ => n - (intOf i).toNat)
  case atStart => exact ⟨0, Nat.zero_le _, rfl, fun c hc => absurd hc (Nat.not_lt_zero _), rfl⟩
  case round =>
    obtain ⟨j, hj, rfl, hno, rfl⟩ := hrel
    have HNO := Lib.hid hno
    clear hno
    by_cases hlt : j < n
    · have hji : (j : Int) < (n : Int) := by omega
      obtain ⟨bp, off, rfl, hbb, hc⟩ := HR.out (by rw [nats_length, HN.out]; omega)
      have hcell : wr.cell? ⟨bp, off + j, none⟩ = some (.int .i64 (sq l j : Int)) := nats_sq (B := 0) hc j (by rw [HN.out]; exact hlt)
      clear hc
      by_cases e : sq l j = q
      · have e1 : ((sq l j : Int) == (q : Int)) = true := by simp [e]
        have ht : b = true := by rw [← HB.out, decide_eq_true_eq, ← e, sq_get _ _ (by rw [HN.out]; exact hlt)]; exact List.getElem_mem _
        subst ht
        generalize sq l j = y at *
        clear e
        go_wp2
        go_ret
        exact ⟨rfl, rfl⟩
      · have e1 : ((sq l j : Int) == (q : Int)) = false := by
          cases h : ((sq l j : Int) == (q : Int)) with
          | false => rfl
          | true => exact absurd (by have := eq_of_beq h; omega) e
        have HE := Lib.hid e
        clear e
        have HNO2 : Hid (∀ c, c < j + 1 → sq l c ≠ q) := Lib.hid fun c hc => by
          by_cases h : c = j
          · rw [h]; exact HE.out
          · exact HNO.out c (by omega)
        clear HE HNO
        generalize sq l j = y at *
        go_wp2
        go_roundw
        case rel => exact ⟨j + 1, by omega, by go_num, HNO2.out, by first | rfl | trivial⟩
        case measure => simp [intOf]; omega
    · have hji : ¬ (j : Int) < (n : Int) := by omega
      have hf : b = false := by rw [← HB.out, decide_eq_false_iff_not]; exact not_mem_sq.1 fun c hc => HNO.out c (by rw [HN.out] at hc; omega)
      subst hf
      go_wp2
      go_ret
      exact ⟨rfl, rfl⟩

/-- append(v, l...): l a row of memory, empty or not. -/
theorem wpAppendR {P : Program} {ops : Array Oper} {rest : List Oper} {o : Oper} {a : Act} {w : World} {Q : Exit → Act → World → Prop} {base n m b : Nat} {T e t : TypeId} {v : Value} {xs news zs : List Value} (c : Nat)
    (hown : w.ownsRow base e 1 v n xs) (hT : P.underlying T = some (.slice e)) (he : One P e) (hs : Row w b t (news ++ zs)) (hl : news.length = m) (h1 : news.all (·.oneCell') = true) (hn : Big (n + m ≤ 1099511627776)) (hbase : base ≤ w.heap.size)
    (ho : appendOf o a = some (T, T, v, .slice (some ⟨b, 0, none⟩) m c))
    (k : ∀ v' w', w'.ownsRow base e 1 v' (n + m) (xs ++ news) → w.grownBy w' v.ownBlock → wpList P ops Q rest (a.put o.dst v') w') : wpList P ops Q (o :: rest) a w := by
  obtain ⟨hg, x, y, hop, hx, hy⟩ := appendOf_spec ho
  obtain ⟨i, z, hi, hz, h2, h3, h4⟩ := he.row
  refine wpList_append_own_at w hg x y T hop base e i z 1 i.bytes hT hi hz h2 rfl h3 (by omega) v n xs hx hown ⟨b, 0, none⟩ m c news hy (by omega) ?_ (fun u hu => (List.all_eq_true.1 h1) u hu) ?_ ?_ hbase fun v' w' g1 g2 _ g4 => k v' w' g1 g2
  · intro j u hj
    rw [Addr.add_mid, Nat.zero_add, hs.cell, List.getElem?_append_left (List.getElem?_eq_some_iff.1 hj).1]
    exact hj
  · have := hn.out; unfold maxLen; omega
  · exact Nat.le_trans (Nat.mul_le_mul hn.out h4) (by omega)
theorem FrB.mono {B B' : Nat} {v : Value} (h : FrB B' v) (hb : B ≤ B') : FrB B v := fun g o n c e => Nat.le_trans hb (h g o n c e)
set_option maxHeartbeats 4000000 in
theorem try_any (a : Option Addr) (cap : Nat) (W : List Nat) (n k p : Nat) (hW : By W) (hn : W.length = n) (h255 : n ≤ 255) (hp0 : 0 < p) (hkp : k + p = n) : ∀ (m : Nat) (Pl : List Nat) (f pb capP : Nat) (zs : List Value) (w : World), Plc Pl n → Pl.length + m ≤ p → f ≤ n → Lies w w.heap.size a (u8s W) → Row w pb 3 (nats Pl ++ zs) →
    Calls Tryz.prog 56 #[.slice a n cap, .int .i64 (n : Int), .int .i64 (k : Int), .slice (some ⟨pb, 0, none⟩) Pl.length capP, .int .i64 (f : Int), .int .i64 (m : Int)] w fun e w' => SolP w.heap.size (tryF W p n m Pl f) e w' ∧ Below w.heap.size w w' := by
  intro m
  induction m with
  | zero =>
    intro Pl f pb capP zs w hP hm hf hr hq
    have HS : Calls Tryz.prog 81 #[.slice a n cap, .int .i64 (n : Int), .int .i64 (k : Int), .slice (some ⟨pb, 0, none⟩) Pl.length capP] w fun e w' => SolP w.heap.size (solveF W Pl p) e w' ∧ Below w.heap.size w w' := rsolve_any a cap W (some ⟨pb, 0, none⟩) capP Pl n k p w hW hn h255 hp0 hkp hP (by omega) hr (rs_lies hq)
    show Calls _ _ _ w fun e w' => SolP w.heap.size (solveF W Pl p) e w' ∧ Below w.heap.size w w'
    cases hs : solveF W Pl p with
    | some D =>
      rw [hs] at HS
      have HS := Lib.hid HS
      clear hP hm hf hr hq hs hW hn h255 hp0 hkp
      go_enter Tryz.func56, Tryz.ntmps56
      go_wp2_with (go_at_call 81; (with_reducible refine HS.out.mono ?_); rintro e u1 ⟨⟨v, rfl, h1, h2⟩, b1⟩; have H1 := Lib.hid h1; have H2 := Lib.hid h2; have B1 := Lib.hid b1; clear h1 h2 b1)
      go_ret2
      exact ⟨⟨v, rfl, H1.out, H2.out⟩, B1.out⟩
    | none =>
      rw [hs] at HS
      have HS := Lib.hid HS
      clear hP hm hf hr hq hs hW hn h255 hp0 hkp
      go_enter Tryz.func56, Tryz.ntmps56
      go_wp2_with (go_at_call 81; (with_reducible refine HS.out.mono ?_); rintro e u1 ⟨h1, b1⟩; obtain rfl : e = _ := h1; have B1 := Lib.hid b1; clear b1)
      go_ret2
      exact ⟨rfl, B1.out⟩
  | succ m ih =>
    intro Pl f pb capP zs w hP hm hf hr hq
    have HS : Calls Tryz.prog 81 #[.slice a n cap, .int .i64 (n : Int), .int .i64 (k : Int), .slice (some ⟨pb, 0, none⟩) Pl.length capP] w fun e w' => SolP w.heap.size (solveF W Pl p) e w' ∧ Below w.heap.size w w' := rsolve_any a cap W (some ⟨pb, 0, none⟩) capP Pl n k p w hW hn h255 hp0 hkp hP (by omega) hr (rs_lies hq)
    have hz : ((m + 1 : Nat) : Int) = (m : Int) + 1 := by omega
    have hz1 : (((m : Int) + 1) == 0) = false := by
      cases h : (((m : Int) + 1) == 0) with
      | false => rfl
      | true => have := eq_of_beq h; omega
    have hmi : (m : Int) ≤ 255 := by omega
    have hni : (n : Int) ≤ 255 := by omega
    cases hs : solveF W Pl p with
    | some D =>
      have ht : tryF W p n (m + 1) Pl f = some D := by rw [tryF, hs]
      rw [ht, hz]
      rw [hs] at HS
      have HS := Lib.hid HS
      clear hP hm hf hr hq hs hW hn h255 hp0 hkp ih ht hz
      go_enter Tryz.func56, Tryz.ntmps56
      go_wp2_with (go_at_call 81; (with_reducible refine HS.out.mono ?_); rintro e u1 ⟨⟨v, rfl, h1, h2⟩, b1⟩; have H1 := Lib.hid h1; have H2 := Lib.hid h2; have B1 := Lib.hid b1; clear h1 h2 b1)
      go_ret2
      exact ⟨⟨v, rfl, H1.out, H2.out⟩, B1.out⟩
    | none =>
      obtain ⟨r, ht⟩ : ∃ r, tryL (fun i => tryF W p n m (Pl ++ [i]) (i + 1)) Pl (n - f) f = r := ⟨_, rfl⟩
      have ht2 : tryF W p n (m + 1) Pl f = r := by rw [tryF, hs]; exact ht
      rw [ht2, hz]
      rw [hs] at HS
      have HS := Lib.hid HS
      have HT := Lib.hid ht
      have HR := Lib.hid hr
      have HQ := Lib.hid hq
      have HPC := Lib.hid hP
      have HIH : Hid (∀ (i pb2 cap2 : Nat) (ys : List Value) (u : World), i < n → i ∉ Pl → Lies u u.heap.size a (u8s W) → Row u pb2 3 (nats (Pl ++ [i]) ++ ys) →
          Calls Tryz.prog 56 #[.slice a n cap, .int .i64 (n : Int), .int .i64 (k : Int), .slice (some ⟨pb2, 0, none⟩) (Pl.length + 1) cap2, .int .i64 ((i : Int) + 1), .int .i64 (m : Int)] u fun e w' => SolP u.heap.size (tryF W p n m (Pl ++ [i]) (i + 1)) e w' ∧ Below u.heap.size u w') := Lib.hid fun i pb2 cap2 ys u h1 h2 h3 h4 => by
        have := ih (Pl ++ [i]) (i + 1) pb2 cap2 ys u (plc_snoc hP h1 h2) (by simp; omega) (by omega) h3 h4
        rwa [List.length_append, List.length_singleton, show ((i + 1 : Nat) : Int) = (i : Int) + 1 by omega] at this
      have HHA : Hid (∀ (u : World) (i : Nat), Row u pb 3 (nats Pl ++ zs) → Calls Tryz.prog 55 #[.slice (some ⟨pb, 0, none⟩) Pl.length capP, .int .i64 (i : Int)] u fun e w' => e = .returned (.bool (decide (i ∈ Pl))) ∧ u = w') := Lib.hid fun u i h => rhas_any _ _ _ _ u (by omega) (rs_lies h)
      have HNL : Hid ((nats Pl).length = Pl.length) := Lib.hid (nats_length Pl)
      have HN1 : Hid ((nats Pl).all (·.oneCell') = true) := Lib.hid (by unfold nats; rw [List.all_map]; exact List.all_eq_true.2 fun _ _ => rfl)
      have HBG : Big (0 + Pl.length ≤ 1099511627776) := ⟨by omega⟩
      have HBG1 : Big (0 + Pl.length + 1 ≤ 1099511627776) := ⟨by omega⟩
      have HF := Lib.hid hf
      have hfi : (f : Int) ≤ 255 := by omega
      have hPl : (Pl.length : Int) ≤ 255 := by omega
      obtain ⟨q, hq2⟩ : ∃ q, Pl.length = q := ⟨_, rfl⟩
      rw [hq2] at HS HIH HHA HNL HBG HBG1 hPl ⊢
      clear hP hm hf hr hq hs hW hn h255 hp0 hkp ih ht ht2 hz hq2
      go_enter Tryz.func56, Tryz.ntmps56
      go_wp2_with (go_at_call 81; (with_reducible refine HS.out.mono ?_); rintro e u1 ⟨h1, b1⟩; obtain rfl : e = _ := h1; have B1 := Lib.hid b1; clear b1)
      go_loopw [16] (fun x wr => ∃ i : Nat, i ≤ n ∧ x = .int .i64 i ∧ tryL (fun i => tryF W p n m (Pl ++ [i]) (i + 1)) Pl (n - i) i = r ∧ Below w.heap.size w wr) (fun x _ => n - (intOf x).toNat)
      case atStart => exact ⟨f, HF.out, rfl, HT.out, B1.out⟩
      case round =>
        clear B1 HT
        obtain ⟨i, hi, rfl, htr, hbw⟩ := hrel
        have HTR := Lib.hid htr
        have HBW := Lib.hid hbw
        clear htr hbw
        by_cases hlt : i < n
        · have hii : (i : Int) < (n : Int) := by omega
          have HRW := Lib.hid (HQ.out.step HBW.out)
          by_cases hmem : i ∈ Pl
          · have HTR2 : Hid (tryL (fun i => tryF W p n m (Pl ++ [i]) (i + 1)) Pl (n - (i + 1)) (i + 1) = r) := Lib.hid (by
              have h := HTR.out
              rw [show n - i = (n - (i + 1)) + 1 by omega, tryL, if_pos hmem] at h
              exact h)
            have HHI := Lib.hid (HHA.out wr i HRW.out)
            rw [decide_eq_true hmem] at HHI
            clear hmem HTR
            go_wp2_with (go_at_call 55; (with_reducible refine HHI.out.mono ?_); rintro e w2 ⟨rfl, rfl⟩)
            go_roundw
            case rel => exact ⟨i + 1, by omega, by go_num, HTR2.out, HBW.out⟩
            case measure => simp [intOf]; omega
          · have HHI := Lib.hid (HHA.out wr i HRW.out)
            rw [decide_eq_false hmem] at HHI
            have HZA := Lib.hid (alloc_below wr (.cells #[] 3)).size
            have HO1 : Hid ((Value.int .i64 (i : Int)).oneCell' = true) := Lib.hid rfl
            have HOWZ := Lib.hid (own_zero wr 3)
            have HRW2 := Lib.hid (HRW.out.step (alloc_below wr (.cells #[] 3)))
            have HIHI := Lib.hid fun pb2 cap2 ys u h3 h4 => HIH.out i pb2 cap2 ys u hlt hmem h3 h4
            have HNN : Hid (nats Pl ++ [.int .i64 (i : Int)] = nats (Pl ++ [i])) := Lib.hid (nats_snoc Pl i).symm
            cases hg : tryF W p n m (Pl ++ [i]) (i + 1) with
            | some D =>
              have hr2 : some D = r := by
                have h := HTR.out
                rw [show n - i = (n - (i + 1)) + 1 by omega, tryL, if_neg hmem] at h
                simp only [hg] at h
                exact h
              subst hr2
              rw [hg] at HIHI
              clear hmem HTR hg HIH HHA
              go_wp2_with (first
                | (go_at_call 55; (with_reducible refine HHI.out.mono ?_); rintro e w2 ⟨rfl, rfl⟩)
                | ((with_reducible refine wpAppendR capP HOWZ.out Tryz.underlying38 one_int HRW2.out HNL.out HN1.out HBG HZA.out ?_ ?_); rfl; intro v1 w2 g1 g2; have BW2 : Hid (Below wr.heap.size wr w2) := Lib.hid ((alloc_below wr _).grown g2 HZA.out (fun j hj => (HOWZ.out.lt j hj).1)); have HL2 := Lib.hid (Lies.new [Value.int .i64 (i : Int)] w2 3); have HOW2 := Lib.hid (own_below g1 (alloc_below w2 (.cells [Value.int .i64 (i : Int)].toArray 3))); have BW3 : Hid (Below wr.heap.size wr (w2.alloc (.cells [Value.int .i64 (i : Int)].toArray 3))) := Lib.hid (BW2.out.next (alloc_below w2 _)); have HZ2 := Lib.hid BW3.out.size; clear g1 g2)
                | ((with_reducible refine wpAppend1K HOW2.out Tryz.underlying38 one_int HL2.out HO1.out HBG1 HZ2.out ?_ ?_); rfl; intro v3 w3 g1 g2 g3; rw [List.nil_append, HNN.out, Nat.zero_add] at g1; obtain ⟨pb2, cap2, ys, rfl, _, _, row⟩ := own_some g1 (Nat.succ_pos _); have R3 := Lib.hid row; have BW4 : Hid (Below wr.heap.size wr w3) := Lib.hid (BW3.out.grown g2 HZ2.out (fun j hj => (HOW2.out.lt j hj).1)); have B4 := Lib.hid (HBW.out.next BW4.out); have L4 := Lib.hid (HR.out.step B4.out); clear g1 g2 g3 row)
                | (go_at_call 56; (with_reducible refine (HIHI.out pb2 cap2 ys w3 L4.out R3.out).mono ?_); rintro e w5 ⟨⟨v, rfl, h1, h2⟩, b5⟩; have H1 := Lib.hid h1; have H2 := Lib.hid (h2.mono B4.out.size); have B5 := Lib.hid (B4.out.next b5); clear h1 h2 b5))
              go_ret2
              exact ⟨⟨v, rfl, H1.out, H2.out⟩, B5.out⟩
            | none =>
              have HTR2 : Hid (tryL (fun i => tryF W p n m (Pl ++ [i]) (i + 1)) Pl (n - (i + 1)) (i + 1) = r) := Lib.hid (by
                have h := HTR.out
                rw [show n - i = (n - (i + 1)) + 1 by omega, tryL, if_neg hmem] at h
                simp only [hg] at h
                exact h)
              rw [hg] at HIHI
              clear hmem HTR hg HIH HHA
              go_wp2_with (first
                | (go_at_call 55; (with_reducible refine HHI.out.mono ?_); rintro e w2 ⟨rfl, rfl⟩)
                | ((with_reducible refine wpAppendR capP HOWZ.out Tryz.underlying38 one_int HRW2.out HNL.out HN1.out HBG HZA.out ?_ ?_); rfl; intro v1 w2 g1 g2; have BW2 : Hid (Below wr.heap.size wr w2) := Lib.hid ((alloc_below wr _).grown g2 HZA.out (fun j hj => (HOWZ.out.lt j hj).1)); have HL2 := Lib.hid (Lies.new [Value.int .i64 (i : Int)] w2 3); have HOW2 := Lib.hid (own_below g1 (alloc_below w2 (.cells [Value.int .i64 (i : Int)].toArray 3))); have BW3 : Hid (Below wr.heap.size wr (w2.alloc (.cells [Value.int .i64 (i : Int)].toArray 3))) := Lib.hid (BW2.out.next (alloc_below w2 _)); have HZ2 := Lib.hid BW3.out.size; clear g1 g2)
                | ((with_reducible refine wpAppend1K HOW2.out Tryz.underlying38 one_int HL2.out HO1.out HBG1 HZ2.out ?_ ?_); rfl; intro v3 w3 g1 g2 g3; rw [List.nil_append, HNN.out, Nat.zero_add] at g1; obtain ⟨pb2, cap2, ys, rfl, _, _, row⟩ := own_some g1 (Nat.succ_pos _); have R3 := Lib.hid row; have BW4 : Hid (Below wr.heap.size wr w3) := Lib.hid (BW3.out.grown g2 HZ2.out (fun j hj => (HOW2.out.lt j hj).1)); have B4 := Lib.hid (HBW.out.next BW4.out); have L4 := Lib.hid (HR.out.step B4.out); clear g1 g2 g3 row)
                | (go_at_call 56; (with_reducible refine (HIHI.out pb2 cap2 ys w3 L4.out R3.out).mono ?_); rintro e w5 ⟨h1, b5⟩; obtain rfl : e = _ := h1; have B5 := Lib.hid (B4.out.next b5); clear b5))
              go_roundw
              case rel => exact ⟨i + 1, by omega, by go_num, HTR2.out, B5.out⟩
              case measure => simp [intOf]; omega
        · have hie : i = n := by omega
          have hii : ¬ (i : Int) < (n : Int) := by omega
          have hr2 : none = r := by
            have h := HTR.out
            rw [hie, Nat.sub_self, tryL] at h
            exact h
          subst hr2
          go_wp2
          go_ret2
          exact ⟨rfl, HBW.out⟩
end Go.Proofs.YtnbjaijhdjneoaaGreat

namespace Go.Proofs.YtnbjaijhdjneoaaGreat
open Go.RowKit GfMath PolyMath RsMath SolMath
set_option linter.unusedVariables false
set_option linter.unusedSimpArgs false
set_option maxRecDepth 100000

/-- What the document's Mend tells. -/
def Mr (B : Nat) (d : Md) (e : Ending) (w' : World) : Prop :=
  match d with
  | .arg => e = .returned (.tuple #[.slice none 0 0, .slice none 0 0, .int .i64 1])
  | .bad => e = .returned (.tuple #[.slice none 0 0, .slice none 0 0, .int .i64 8])
  | .ok m l => ∃ v y, e = .returned (.tuple #[v, y, .int .i64 0]) ∧ Rd m v w' ∧ IReads w' y l ∧ FrB B v
set_option maxHeartbeats 8000000 in
theorem rmend_any (a : Option Addr) (cap : Nat) (W : List Nat) (n k p : Nat) (ea : Option Addr) (ecap : Nat) (er : List Int) (w : World) (hW : By W) (hn : W.length = n) (h255 : n ≤ 255) (hp0 : 0 < p) (hkp : k + p = n) (hel : er.length ≤ 1000) (hr : Lies w w.heap.size a (u8s W)) (her : Lies w w.heap.size ea (ints er)) :
    Calls Tryz.prog 29 #[.slice a n cap, .int .i64 (n : Int), .int .i64 (k : Int), .slice ea er.length ecap] w fun e w' => Mr w.heap.size (mendF masseyF n p W er) e w' ∧ Below w.heap.size w w' := by
  have HR := Lib.hid hr
  have HE := Lib.hid her
  have HARG : Hid (inB n er = false → mendF masseyF n p W er = .arg) := Lib.hid fun h => ref_arg h
  have HMUCH : Hid (inB n er = true → p < (plF er).length → mendF masseyF n p W er = .bad) := Lib.hid fun h1 h2 => ref_much h1 h2
  have HNONE : Hid (inB n er = true → (plF er).length ≤ p → tryF W p n ((p - (plF er).length) / 2) (plF er) 0 = none → mendF masseyF n p W er = .bad) := Lib.hid fun h1 h2 h3 => ref_none hW hn h255 h1 h2 h3
  have HSOME : Hid (∀ D, inB n er = true → (plF er).length ≤ p → tryF W p n ((p - (plF er).length) / 2) (plF er) 0 = some D → mendF masseyF n p W er = .ok D (atF (SolMath.er W D) n)) := Lib.hid fun D h1 h2 h3 => ref_some hW hn h255 hp0 h1 h2 h3
  have HOKL : Hid (∀ D l, mendF masseyF n p W er = .ok D l → D.length = n ∧ By D) := Lib.hid fun D l h => ⟨by rw [(mendF_ok h).2.2.2, hn], mendF_by hW h⟩
  have HPL : Hid (inB n er = true → Plc (plF er) n) := Lib.hid fun h => (plF_spec er h).1
  have HTRY : Hid (∀ (m pb capP : Nat) (zs : List Value) (u : World), inB n er = true → (plF er).length + m ≤ p → Lies u u.heap.size a (u8s W) → Row u pb 3 (nats (plF er) ++ zs) →
      Calls Tryz.prog 56 #[.slice a n cap, .int .i64 (n : Int), .int .i64 (k : Int), .slice (some ⟨pb, 0, none⟩) (plF er).length capP, .int .i64 0, .int .i64 (m : Int)] u fun e w' => SolP u.heap.size (tryF W p n m (plF er) 0) e w' ∧ Below u.heap.size u w') := Lib.hid fun m pb capP zs u h1 h2 h3 h4 => try_any a cap W n k p hW hn h255 hp0 hkp m (plF er) 0 pb capP zs u (HPL.out h1) h2 (Nat.zero_le _) h3 h4
  have HHA : Hid (∀ (u : World) (P : List Nat) (pb capP q : Nat) (zs : List Value), P.length ≤ 1000 → Row u pb 3 (nats P ++ zs) → Calls Tryz.prog 55 #[.slice (some ⟨pb, 0, none⟩) P.length capP, .int .i64 (q : Int)] u fun e w' => e = .returned (.bool (decide (q ∈ P))) ∧ u = w') := Lib.hid fun u P pb capP q zs h1 h2 => rhas_any _ _ _ _ u h1 (rs_lies h2)
  have HNEXT : Hid (∀ (j : Nat) (h : j < er.length), plF (er.take (j + 1)) = plStep (plF (er.take j)) er[j]) := Lib.hid fun j h => plF_next er j h
  have HLEN : Hid (∀ j, j ≤ er.length → (plF (er.take j)).length ≤ j) := Lib.hid fun j => by
    induction j with
    | zero => intro _; exact Nat.le_refl _
    | succ j ih =>
      intro h
      rw [plF_next er j (by omega)]
      have := ih (by omega)
      unfold plStep
      split
      · omega
      · rw [List.length_append, List.length_singleton]; omega
  have HTAKE : Hid (er.take er.length = er) := Lib.hid List.take_length
  have HINB : Hid ((∀ c (h : c < er.length), 0 ≤ er[c] ∧ er[c] < (n : Int)) → inB n er = true) := Lib.hid fun h => inB_true h
  have HOUT : Hid (∀ (j : Nat) (h : j < er.length), er[j] < 0 ∨ (n : Int) ≤ er[j] → inB n er = false) := Lib.hid fun j h hb => inB_false j h hb
  have hb3 : (n : Int) - (k : Int) = (p : Int) := by omega
  have hni : (n : Int) ≤ 255 := by omega
  have hki : (k : Int) ≤ 255 := by omega
  have hpi : (p : Int) ≤ 255 := by omega
  have hnn : ((n : Int) == (n : Int)) = true := by simp
  have HWL := Lib.hid hn
  have HP255 : Hid (n ≤ 255 ∧ 0 < n) := Lib.hid (by omega)
  obtain ⟨t, ht⟩ : ∃ t, er.length = t := ⟨_, rfl⟩
  have HT := Lib.hid ht
  have hti : (t : Int) ≤ 1000 := by omega
  rw [ht]
  clear hr her hW hn h255 hp0 hkp hel HPL ht
  go_enter Tryz.func29, Tryz.ntmps29
  go_wp2
  go_loopw [11, 12] (fun v x wr => ∃ (j g cg : Nat), j ≤ t ∧ x = .int .i64 j ∧ v = .slice (some ⟨g, 0, none⟩) (plF (er.take j)).length cg ∧ wr.ownsRow w.heap.size 3 1 (.slice (some ⟨g, 0, none⟩) (plF (er.take j)).length cg) (plF (er.take j)).length (nats (plF (er.take j))) ∧ (∀ c (h : c < er.length), c < j → 0 ≤ er[c] ∧ er[c] < (n : Int)) ∧ Below w.heap.size w wr) (fun _ x _ => t - (intOf x).toNat)
  case atStart => exact ⟨0, w.heap.size, 0, Nat.zero_le _, rfl, rfl, own_zero w _, fun c _ h => absurd h (Nat.not_lt_zero _), alloc_below _ _⟩
  case round =>
    obtain ⟨j, g, cg, hj, rfl, rfl, hown, hin, hbw⟩ := hrel
    have HOWN := Lib.hid hown
    have HIN := Lib.hid hin
    have HBW := Lib.hid hbw
    obtain ⟨_, zs, hrow⟩ := own_row hown
    have HROW := Lib.hid hrow
    clear hown hin hbw hrow
    by_cases hlt : j < t
    · have hjl : Hid (j < er.length) := Lib.hid (by rw [HT.out]; exact hlt)
      have hji : (j : Int) < (t : Int) := by omega
      obtain ⟨bb, off, rfl, hbb, hcl⟩ := HE.out (by rw [ints_length, HT.out]; omega)
      have hc : wr.cell? ⟨bb, off + j, none⟩ = some (.int .i64 (er[j]'hjl.out)) := by
        rw [HBW.out.cell (p := ⟨bb, off + j, none⟩) hbb]
        exact hcl j _ (ints_get er j hjl.out)
      have HOUTJ := Lib.hid (HOUT.out j hjl.out)
      have HNX := Lib.hid (HNEXT.out j hjl.out)
      have HLJ := Lib.hid (HLEN.out j (Nat.le_of_lt hjl.out))
      have HIN2 : Hid (0 ≤ er[j]'hjl.out → er[j]'hjl.out < (n : Int) → ∀ c (h : c < er.length), c < j + 1 → 0 ≤ er[c] ∧ er[c] < (n : Int)) := Lib.hid fun h1 h2 c h h3 => by
        by_cases e : c = j
        · subst e; exact ⟨h1, h2⟩
        · exact HIN.out c h (by omega)
      obtain ⟨x, hx⟩ : ∃ x, er[j]'hjl.out = x := ⟨_, rfl⟩
      rw [hx] at hc HOUTJ HNX HIN2
      clear hcl hx hbb
      by_cases hx0 : x < 0
      · have d1 : decide (x < 0) = true := decide_eq_true hx0
        have HF : Hid (mendF masseyF n p W er = .arg) := Lib.hid (HARG.out (HOUTJ.out (Or.inl hx0)))
        go_wp2
        go_ret3
        rw [HF.out]
        exact ⟨rfl, HBW.out⟩
      have d1 : decide (x < 0) = false := decide_eq_false hx0
      by_cases hxn : (n : Int) ≤ x
      · have d2 : decide ((n : Int) ≤ x) = true := decide_eq_true hxn
        have HF : Hid (mendF masseyF n p W er = .arg) := Lib.hid (HARG.out (HOUTJ.out (Or.inr hxn)))
        go_wp2
        go_ret3
        rw [HF.out]
        exact ⟨rfl, HBW.out⟩
      have d2 : decide ((n : Int) ≤ x) = false := decide_eq_false hxn
      obtain ⟨q, rfl⟩ : ∃ q : Nat, x = (q : Int) := ⟨x.toNat, by omega⟩
      have HIN3 := Lib.hid (HIN2.out (by omega) (by omega))
      have HHI := Lib.hid (HHA.out wr (plF (er.take j)) g cg q zs (by have := HLJ.out; omega) HROW.out)
      rw [plStep, Int.toNat_natCast] at HNX
      clear HOUTJ HIN2 HIN HARG HMUCH HNONE HSOME HOKL HTRY HHA HINB HOUT HTAKE
      by_cases hmem : q ∈ plF (er.take j)
      · rw [if_pos hmem] at HNX
        rw [decide_eq_true hmem] at HHI
        clear hmem
        go_wp2_with (go_at_call 55; (with_reducible refine HHI.out.mono ?_); rintro e w2 ⟨rfl, rfl⟩)
        go_roundw
        case rel => exact ⟨j + 1, g, cg, by omega, by go_num, by rw [HNX.out], by rw [HNX.out]; exact HOWN.out, HIN3.out, HBW.out⟩
        case measure => simp [intOf]; omega
      · rw [if_neg hmem] at HNX
        rw [decide_eq_false hmem] at HHI
        have HOW2 := Lib.hid (own_below HOWN.out (alloc_below wr (.cells #[.int .i64 (q : Int)] 3)))
        have HL2 : Hid (Lies (wr.alloc (.cells #[.int .i64 (q : Int)] 3)) (wr.alloc (.cells #[.int .i64 (q : Int)] 3)).heap.size (some ⟨wr.heap.size, 0, none⟩) [.int .i64 (q : Int)]) := Lib.hid (Lies.new [_] _ _)
        have HBW2 := Lib.hid (HBW.out.next (alloc_below wr (.cells #[.int .i64 (q : Int)] 3)))
        have HZ2 := Lib.hid HBW2.out.size
        have HO1 : Hid ((Value.int .i64 (q : Int)).oneCell' = true) := Lib.hid rfl
        have HSN : Hid (nats (plF (er.take j)) ++ [.int .i64 (q : Int)] = nats (plF (er.take (j + 1)))) := Lib.hid (by rw [HNX.out, nats_snoc])
        have HLN : Hid ((plF (er.take j)).length + 1 = (plF (er.take (j + 1))).length) := Lib.hid (by rw [HNX.out, List.length_append]; rfl)
        obtain ⟨P, hP⟩ : ∃ P, plF (er.take j) = P := ⟨_, rfl⟩
        obtain ⟨P2, hP2⟩ : ∃ P, plF (er.take (j + 1)) = P := ⟨_, rfl⟩
        rw [hP] at HOW2 HHI HSN HLN HLJ ⊢
        rw [hP2] at HSN HLN
        have HP2 := Lib.hid hP2
        have HBG : Big (P.length + 1 ≤ 1099511627776) := ⟨by have := HLJ.out; omega⟩
        clear hmem hP hP2 HOWN HROW HNX
        go_wp2_with (first
          | (go_at_call 55; (with_reducible refine HHI.out.mono ?_); rintro e w2 ⟨rfl, rfl⟩)
          | ((with_reducible refine wpAppend1K HOW2.out Tryz.underlying38 one_int HL2.out HO1.out HBG HZ2.out ?_ ?_); rfl; intro v3 w3 g1 g2 g3; rw [HSN.out, HLN.out] at g1; obtain ⟨g9, c9, ys, rfl, _, _, _⟩ := own_some g1 (by rw [← HLN.out]; exact Nat.succ_pos _); have G1 := Lib.hid g1; have BW3 : Hid (Below w.heap.size w w3) := Lib.hid (HBW2.out.grown g2 HZ2.out (fun j hj => (HOW2.out.lt j hj).1)); clear g1 g2 g3))
        go_roundw
        case rel => exact ⟨j + 1, g9, c9, by omega, by go_num, by rw [HP2.out], by rw [HP2.out]; exact G1.out, HIN3.out, BW3.out⟩
        case measure => simp [intOf]; omega
    · have ej : j = er.length := by have := HT.out; omega
      have hji : ¬ (j : Int) < (t : Int) := by omega
      have HB : Hid (inB n er = true) := Lib.hid (HINB.out fun c h => HIN.out c h (by omega))
      have hle : (plF er).length ≤ 1000 := by have := HLEN.out er.length (Nat.le_refl _); rw [HTAKE.out] at this; have := HT.out; omega
      rw [ej, HTAKE.out] at HROW
      have hpe : plF (er.take j) = plF er := by rw [ej, HTAKE.out]
      rw [hpe]
      clear hpe HOWN HIN HOUT HNEXT HLEN HTAKE HINB HHA HARG
      by_cases hmu : p < (plF er).length
      · have d1 : decide ((p : Int) < ((plF er).length : Int)) = true := decide_eq_true (by omega)
        have HF : Hid (mendF masseyF n p W er = .bad) := Lib.hid (HMUCH.out HB.out hmu)
        have d3 : (p : Int) < ((plF er).length : Int) := by omega
        go_wp2
        go_ret3
        rw [HF.out]
        exact ⟨rfl, HBW.out⟩
      have d1 : decide ((p : Int) < ((plF er).length : Int)) = false := decide_eq_false (by omega)
      have d3 : ¬ (p : Int) < ((plF er).length : Int) := by omega
      have HBIG : Hid ((plF er).length ≤ p) := Lib.hid (by omega)
      obtain ⟨m, hm⟩ : ∃ m, (p - (plF er).length) / 2 = m := ⟨_, rfl⟩
      have HTR := Lib.hid (HTRY.out m g cg zs wr HB.out (by omega) (HR.out.step HBW.out) HROW.out)
      have e2 : ((p : Int) - ((plF er).length : Int)) / 2 = (m : Int) := by omega
      have e2t : ((p : Int) - ((plF er).length : Int)).tdiv 2 = (m : Int) := by rw [Int.tdiv_eq_ediv_of_nonneg (by omega)]; exact e2
      have HN2 := Lib.hid (HNONE.out HB.out HBIG.out)
      have HS2 := Lib.hid fun D => HSOME.out D HB.out HBIG.out
      rw [hm] at HN2 HS2
      obtain ⟨r, hr⟩ : ∃ r, tryF W p n m (plF er) 0 = r := ⟨_, rfl⟩
      rw [hr] at HTR HN2
      rw [hr] at HS2
      obtain ⟨L, hL⟩ : ∃ L, (plF er).length = L := ⟨_, rfl⟩
      rw [hL] at d1 d3 HTR e2 e2t hle ⊢
      have hLi : (L : Int) ≤ 1000 := by omega
      have hmi : (m : Int) ≤ 255 := by omega
      clear hm hr hL HBIG HTRY HNONE HSOME HMUCH hmu hle HROW
      cases r with
      | none =>
        have HF : Hid (mendF masseyF n p W er = .bad) := Lib.hid (HN2.out rfl)
        clear HN2 HS2
        go_wp2_with (go_at_call 56; (with_reducible refine HTR.out.mono ?_); rintro e u1 ⟨h1, b1⟩; obtain rfl : e = _ := h1; have B1 := Lib.hid (HBW.out.next b1); clear b1)
        go_ret3
        rw [HF.out]
        exact ⟨rfl, B1.out⟩
      | some D =>
        have HF : Hid (mendF masseyF n p W er = .ok D (atF (SolMath.er W D) n)) := Lib.hid (HS2.out D rfl)
        have HDL : Hid (D.length = n) := Lib.hid (HOKL.out _ _ HF.out).1
        clear HN2 HS2
        go_wp2_with (go_at_call 56; (with_reducible refine HTR.out.mono ?_); rintro e u1 ⟨⟨v, rfl, ⟨va, vc, rfl, hvc, hvl⟩, h2⟩, b1⟩; have B1 := Lib.hid (HBW.out.next b1); have HV := Lib.hid hvl; have HVC := Lib.hid hvc; have HFR : Hid (FrB w.heap.size (.slice va n vc)) := Lib.hid (by have h3 := FrB.mono h2 HBW.out.size; rwa [HDL.out] at h3); clear b1 h2 hvl hvc)
        rw [HDL.out]
        go_loopw [15, 16] (fun y x w2 => ∃ (i g2 c2 : Nat), i ≤ n ∧ x = .int .i64 i ∧ y = .slice (some ⟨g2, 0, none⟩) (atF (SolMath.er W D) i).length c2 ∧ w2.ownsRow u1.heap.size 3 1 (.slice (some ⟨g2, 0, none⟩) (atF (SolMath.er W D) i).length c2) (atF (SolMath.er W D) i).length (nats (atF (SolMath.er W D) i)) ∧ Below u1.heap.size u1 w2) (fun _ x _ => n - (intOf x).toNat)
        case atStart => exact ⟨0, u1.heap.size, 0, Nat.zero_le _, rfl, rfl, own_zero u1 _, alloc_below _ _⟩
        case round =>
          obtain ⟨i, g2, c2, hi, rfl, rfl, hown, hbw2⟩ := hrel
          have HOWN := Lib.hid hown
          have HBW3 := Lib.hid hbw2
          clear hown hbw2
          by_cases hlt2 : i < n
          · have hii : (i : Int) < (n : Int) := by omega
            obtain ⟨b1, o1, rfl, hb1, hc1⟩ := HV.out (by rw [u8s_length, HDL.out]; omega)
            obtain ⟨b2, o2, rfl, hb2, hc2⟩ := HR.out (by rw [u8s_length, HWL.out]; omega)
            have k1 : wr.cell? ⟨b1, o1 + i, none⟩ = some (.int .u8 (sq D i : Int)) := (HBW3.out.cell (p := ⟨b1, o1 + i, none⟩) hb1).trans (u8s_sq hc1 i (by rw [HDL.out]; exact hlt2))
            have k2 : wr.cell? ⟨b2, o2 + i, none⟩ = some (.int .u8 (sq W i : Int)) := ((B1.out.next HBW3.out).cell (p := ⟨b2, o2 + i, none⟩) hb2).trans (u8s_sq hc2 i (by rw [HWL.out]; exact hlt2))
            have HAT := Lib.hid (atF_succ (SolMath.er W D) i)
            have hle2 := atF_le (SolMath.er W D) i
            by_cases heq : sq D i = sq W i
            · have hz : SolMath.er W D i = 0 := by unfold SolMath.er; rw [heq, Nat.xor_self]
              rw [if_pos hz, List.append_nil] at HAT
              have e5 : ((sq D i : Int) == (sq W i : Int)) = true := by simp [heq]
              clear hz hc1 hc2 hb1 hb2 heq
              generalize sq D i = y1 at *
              generalize sq W i = y2 at *
              go_wp2
              go_quiet (fail)
              go_wp2
              go_roundw
              case rel => exact ⟨i + 1, g2, c2, by omega, by go_num, by rw [HAT.out], by rw [HAT.out]; exact own_below HOWN.out ((Below.refl _ _).drewN nq), HBW3.out.drewN nq⟩
              case measure => simp [intOf]; omega
            · have hz : ¬ SolMath.er W D i = 0 := by unfold SolMath.er; exact fun h => heq (xor_zero_iff.1 h)
              rw [if_neg hz] at HAT
              have e5 : ((sq D i : Int) == (sq W i : Int)) = false := by
                cases h : ((sq D i : Int) == (sq W i : Int)) with
                | false => rfl
                | true => exact absurd (by have := eq_of_beq h; omega) heq
              clear hz hc1 hc2 hb1 hb2 heq
              generalize sq D i = y1 at *
              generalize sq W i = y2 at *
              go_wp2
              go_quiet (fail)
              have HO9 := Lib.hid (own_below HOWN.out ((Below.refl _ _).drewN nq))
              have HB9 := Lib.hid (HBW3.out.drewN nq)
              generalize wr.drewN nq = wq at *
              have HOW2 := Lib.hid (own_below HO9.out (alloc_below wq (.cells #[.int .i64 (i : Int)] 3)))
              have HL2 : Hid (Lies (wq.alloc (.cells #[.int .i64 (i : Int)] 3)) (wq.alloc (.cells #[.int .i64 (i : Int)] 3)).heap.size (some ⟨wq.heap.size, 0, none⟩) [.int .i64 (i : Int)]) := Lib.hid (Lies.new [_] _ _)
              have HBW2 := Lib.hid (HB9.out.next (alloc_below wq (.cells #[.int .i64 (i : Int)] 3)))
              have HZ2 := Lib.hid HBW2.out.size
              have HO1 : Hid ((Value.int .i64 (i : Int)).oneCell' = true) := Lib.hid rfl
              have HSN : Hid (nats (atF (SolMath.er W D) i) ++ [.int .i64 (i : Int)] = nats (atF (SolMath.er W D) (i + 1))) := Lib.hid (by rw [HAT.out, nats_snoc])
              have HLN : Hid ((atF (SolMath.er W D) i).length + 1 = (atF (SolMath.er W D) (i + 1)).length) := Lib.hid (by rw [HAT.out, List.length_append]; rfl)
              obtain ⟨P, hP⟩ : ∃ P, atF (SolMath.er W D) i = P := ⟨_, rfl⟩
              obtain ⟨P2, hP2⟩ : ∃ P, atF (SolMath.er W D) (i + 1) = P := ⟨_, rfl⟩
              rw [hP] at HOW2 HSN HLN hle2 ⊢
              rw [hP2] at HSN HLN
              have HP2 := Lib.hid hP2
              have HBG : Big (P.length + 1 ≤ 1099511627776) := ⟨by have := HP255.out; omega⟩
              clear HAT HO9 HOWN hP hP2
              go_wp2_with ((with_reducible refine wpAppend1K HOW2.out Tryz.underlying38 one_int HL2.out HO1.out HBG HZ2.out ?_ ?_); rfl; intro v3 w3 g1 g2 g3; rw [HSN.out, HLN.out] at g1; obtain ⟨g9, c9, ys, rfl, _, _, _⟩ := own_some g1 (by rw [← HLN.out]; exact Nat.succ_pos _); have G1 := Lib.hid g1; have BW3 := Lib.hid (HBW2.out.grown g2 HZ2.out (fun j hj => (HOW2.out.lt j hj).1)); clear g1 g2 g3)
              go_roundw
              case rel => exact ⟨i + 1, g9, c9, by omega, by go_num, by rw [HP2.out], by rw [HP2.out]; exact G1.out, BW3.out⟩
              case measure => simp [intOf]; omega
          · have ei : i = n := by omega
            have hii : ¬ (i : Int) < (n : Int) := by omega
            rw [ei] at HOWN
            obtain ⟨a9, c9, e9, h9, l9⟩ := own_form2 HOWN.out
            cases e9
            have HIR : Hid (IReads wr (.slice (some ⟨g2, 0, none⟩) (atF (SolMath.er W D) n).length c2) (atF (SolMath.er W D) n)) := Lib.hid ⟨_, _, rfl, h9, l9⟩
            have HVR : Hid (Rd D (.slice va n vc) wr) := Lib.hid ⟨va, vc, by rw [HDL.out], HVC.out, HV.out.step HBW3.out⟩
            have HB9 := Lib.hid (B1.out.next HBW3.out)
            rw [ei]
            clear h9 l9 HOWN
            go_wp2
            go_ret3
            rw [HF.out]
            exact ⟨⟨_, _, rfl, HVR.out, HIR.out, HFR.out⟩, HB9.out⟩
end Go.Proofs.YtnbjaijhdjneoaaGreat

namespace Go.Proofs.YtnbjaijhdjneoaaGreat
open Go.RowKit Go.Maps
set_option linter.unusedVariables false

theorem size_put_new {H : Type} {D : DataW H} (hD : IsMap D) {k : Lit} (d : DataW H) (h : Maps.has D k = false) : Maps.size (D.put k d) = Maps.size D + 1 := by
  obtain ⟨es, rfl⟩ := hD
  rw [has_eq, List.any_eq_false] at h
  show (DataW.insert (k, d) (es.filter fun p => !p.1.sameKey k)).length = es.length + 1
  rw [length_insert, List.filter_eq_self.2 fun p hp => by simpa using h p hp]

/-- How keys of a kind stand in a map: as values, and as literals. -/
structure KeyKind (P : Program) (T k e : TypeId) (ι : Type) where
  val : ι → Value
  lit : ι → Lit
  ok : ι → Prop
  keyed : Keyed P k
  typ : P.underlying T = some (.map k e)
  elem : P.underlying e = some .bool
  zero : ∀ w, (zeroValue e).run P w = .ok (.bool false) w
  key : ∀ i, ok i → keyOf P k (val i) = some (lit i)
  inj : ∀ i j, val i = val j → i = j
section
variable {P : Program} {T k e : TypeId} {ι : Type} (K : KeyKind P T k e ι)
theorem KeyKind.lit_inj {i j : ι} (hi : K.ok i) (hj : K.ok j) (h : K.lit i = K.lit j) : i = j :=
  K.inj i j (K.keyed.inj (K.key i hi) (by rw [h]; exact K.key j hj))
/-- Block B is a map of n entries: those keys of which S tells. -/
structure SeenG (w : World) (B n : Nat) (S : ι → Bool) : Prop where
  own : ∃ D : DataW Unit, w.ownsMap P k (plainElem P e) B n D ∧ Maps.size D = n ∧ ∀ i, K.ok i → D.atKey (K.lit i) (.lit (.bool false)) = .lit (.bool (S i)) ∧ Maps.has D (K.lit i) = S i
variable {K}
theorem SeenG.lt {w : World} {B n : Nat} {S : ι → Bool} (h : SeenG K w B n S) : B < w.heap.size := by
  obtain ⟨D, h1, _⟩ := h.own
  exact h1.lt
theorem SeenG.below {w w' : World} {B n : Nat} {S : ι → Bool} (h : SeenG K w B n S) (hb : Below w.heap.size w w') : SeenG K w' B n S := by
  obtain ⟨D, ⟨es, clock, h1, h2⟩, h3⟩ := h.own
  exact ⟨D, ⟨es, clock, (hb.block B (Array.getElem?_eq_some_iff.1 h1).1).trans h1, h2⟩, h3⟩
theorem SeenG.congr {w : World} {B n m : Nat} {S S' : ι → Bool} (h : SeenG K w B n S) (hn : n = m) (hS : ∀ i, K.ok i → S i = S' i) : SeenG K w B m S' := by
  subst hn
  obtain ⟨D, h1, h2, h3⟩ := h.own
  exact ⟨D, h1, h2, fun i hi => by rw [← hS i hi]; exact h3 i hi⟩
theorem SeenG.made (w : World) : SeenG K (w.alloc (.map #[] 0)) w.heap.size 0 (fun _ => false) :=
  ⟨.map [], World.ownsMap_made w _ _ _, rfl, fun i _ => ⟨by simp [DataW.atKey], rfl⟩⟩
theorem SeenG.wpPut [DecidableEq ι] {ops : Array Oper} {rest : List Oper} {o : Oper} {a : Act} {w : World} {Q : Exit → Act → World → Prop} {B n : Nat} {S : ι → Bool} (h : SeenG K w B n S) {i : ι} (hi : K.ok i) (hnew : S i = false) (hn : n < 100000) (hg : o.guard = none) (m y v : Operand) (hop : o.op = Op.mapUpdate T m y v)
    (hm : a.eval m = .map (some B)) (hy : a.eval y = K.val i) (hv : a.eval v = .bool true)
    (hK : ∀ w', SeenG K w' B (n + 1) (fun j => S j || decide (j = i)) → w.grownBy w' (some B) → wpList P ops Q rest (a.put o.dst undef) w') : wpList P ops Q (o :: rest) a w := by
  obtain ⟨D, h1, h0, h2⟩ := h.own
  refine wpList_mapUpdate_own w hg m y v T hop k e K.keyed K.typ _ B n D hm h1 (by unfold maxLen; omega) _ _ (K.lit i) hy hv (K.key i hi) (.lit (.bool true)) [] (plainElem_bool K.elem true) fun w' h3 h4 => hK w' ⟨_, h3, ?_, fun z hz => ?_⟩ h4
  · have hmap : IsMap D := by obtain ⟨es, clock, _, _, _, e⟩ := h1; exact ⟨_, e⟩
    rw [size_put_new hmap _ (by rw [(h2 i hi).2, hnew]), h0]
  · have hmap : IsMap D := by obtain ⟨es, clock, _, _, _, e⟩ := h1; exact ⟨_, e⟩
    by_cases e : z = i
    · subst e
      rw [atKey_put_same hmap (K.keyed.key (K.key z hz)), has_put_same hmap (K.keyed.key (K.key z hz))]
      simp
    · have hne : K.lit z ≠ K.lit i := fun e2 => e (K.lit_inj hz hi e2)
      rw [atKey_put_other hne, has_put_other hne, (h2 z hz).1, (h2 z hz).2]
      simp [e]
end
end Go.Proofs.YtnbjaijhdjneoaaGreat

namespace Go.Proofs.YtnbjaijhdjneoaaGreat
open Go.RowKit
set_option linter.unusedVariables false
theorem bs_int_cells (k : IntKind) (x : Int) : (Value.int k x).cells = #[.int k x] := rfl
section
variable {P : Program}
theorem Bytes.wpStore1 {ops : Array Oper} {rest : List Oper} {o : Oper} {a : Act} {w : World} {Q : Exit → Act → World → Prop} {g : Nat} {l : List UInt8} (h : Bytes w g l) (i : Nat) (ty : TypeId) (b : UInt8) (hf : (P.info? ty).map (·.size) = some 1) (hi : i < l.length)
    (ho : storeOf o a = some (ty, .pointer (some ⟨g, i, none⟩), .int .u8 (b.toNat : Int)))
    (k : ∀ w', Bytes w' g (l.set i b) → Only g w w' → w'.heap.size = w.heap.size → wpList P ops Q rest (a.put o.dst undef) w') : wpList P ops Q (o :: rest) a w := by
  obtain ⟨hg, x, y, ho, hx, hy⟩ := storeOf_spec ho
  have hc : w.cell? ⟨g, i, none⟩ = some (.int .u8 (l[i].toNat : Int)) := h.cell i hi
  have hr := run_storeCells_cells (P := P) g i [.int .u8 (b.toNat : Int)] 0 w (fun j hj => by
    have : j = 0 := by simpa using hj
    subst this
    simpa using by rw [hc]; rfl) (fun j hj => by
    have : j = 0 := by simpa using hj
    subst this
    simpa using h.frozen i hi) (fun u hu => by
    have : u = .int .u8 (b.toNat : Int) := by simpa using hu
    rw [this]; rfl)
  refine wpList_plain hg fun K hK => ?_
  cases hq : P.info? ty with
  | none => simp [hq] at hf
  | some ie =>
    have hs : ie.size = 1 := by simpa [hq] using hf
    unfold Oper.wp execOp
    simp only [ho, hx, hy, Instr.storeAt, Instr.sureAddr, Sem.run_bind, Sem.run_pure, Result.andThen_ok, storeVar, bs_int_cells, sizeOf, typeInfo]
    simp only [Nat.add_zero, World.setCells] at hr
    simp [hq, hs, hr]
    exact hK _ _ (k _ (h.set i b hi) ((Only.refl g w).setCell ⟨g, i, none⟩ _ (Or.inl rfl)) (by simp [World.setCell]))
end
end Go.Proofs.YtnbjaijhdjneoaaGreat

namespace Go.Proofs.YtnbjaijhdjneoaaGreat
open Go.RowKit CrcMath GfMath PolyMath RsMath SolMath GeoMath Go.Maps
set_option linter.unusedVariables false
set_option maxRecDepth 100000

/-- A turn. -/
structure Tu where
  sec : Int
  at_ : Int
  by_ : UInt8
  all_ : Bool
def tuv (t : Tu) : List Value := [.int .i64 t.sec, .int .i64 t.at_, .int .u8 (t.by_.toNat : Int), .bool t.all_]
def tucs (l : List Tu) : List Value := l.flatMap tuv
theorem tucs_cons (r : Tu) (l : List Tu) : tucs (r :: l) = tuv r ++ tucs l := rfl
theorem tucs_length (l : List Tu) : (tucs l).length = l.length * 4 := by
  induction l with
  | nil => rfl
  | cons r l ih => rw [tucs_cons, List.length_append, ih, List.length_cons]; show 4 + _ = _; omega
theorem tucs_get (l : List Tu) (i : Nat) (h : i < l.length) (j : Nat) (u : Value) (hj : (tuv l[i])[j]? = some u) : (tucs l)[i * 4 + j]? = some u := by
  induction l generalizing i with
  | nil => exact absurd h (Nat.not_lt_zero _)
  | cons r l ih =>
    rw [tucs_cons]
    have h4 : (tuv r).length = 4 := rfl
    cases i with
    | zero =>
      have hj4 : j < 4 := (List.getElem?_eq_some_iff.1 hj).1
      rw [Nat.zero_mul, Nat.zero_add, List.getElem?_append_left (by rw [h4]; exact hj4)]
      exact hj
    | succ i =>
      rw [List.getElem?_append_right (by rw [h4]; omega), h4, show (i + 1) * 4 + j - 4 = i * 4 + j by omega]
      exact ih i (by simpa using h) (by simpa using hj)
theorem tucs_at {w : World} {bl off : Nat} {l : List Tu} (hc : ∀ j u, (tucs l)[j]? = some u → w.cell? ⟨bl, off + j, none⟩ = some u) (i : Nat) (h : i < l.length) : w.rangeAt bl (off + i * 4) (tuv l[i]) := by
  intro j u hj
  have := hc (i * 4 + j) u (tucs_get l i h j u hj)
  rwa [← Nat.add_assoc] at this
theorem tucs_back {l : List Tu} {j : Nat} {u : Value} (h : (tucs l)[j]? = some u) : ∃ hi : j / 4 < l.length, (tuv l[j / 4])[j % 4]? = some u := by
  have hj : j < l.length * 4 := by
    rw [← tucs_length]
    exact (List.getElem?_eq_some_iff.1 h).1
  have hi : j / 4 < l.length := by omega
  refine ⟨hi, ?_⟩
  have hl : (tuv l[j / 4]).length = 4 := rfl
  have hm : j % 4 < (tuv l[j / 4]).length := by rw [hl]; omega
  have := tucs_get l (j / 4) hi (j % 4) _ (List.getElem?_eq_getElem hm)
  rw [show j / 4 * 4 + j % 4 = j by omega, h] at this
  rw [List.getElem?_eq_getElem hm, ← this]
/-- What comes of a sector. -/
def tuS (s : ByteArray) (a : Nat) (b : UInt8) (all : Bool) : ByteArray := if all = true then str (List.replicate 64 255) else str (s.data.toList.set a (s.data.toList.getD a 0 ^^^ b))
theorem tuS_size {s : ByteArray} (h : s.size = 64) (a : Nat) (b : UInt8) (all : Bool) : (tuS s a b all).size = 64 := by
  unfold tuS
  split
  · rw [str_size, List.length_replicate]
  · rw [str_size, List.length_set, size_list, h]
def tuOk (n : Nat) (t : Tu) : Prop := 0 ≤ t.sec ∧ t.sec < (n : Int) ∧ 0 ≤ t.at_ ∧ t.at_ ≤ 63
instance (n : Nat) (t : Tu) : Decidable (tuOk n t) := by unfold tuOk; infer_instance
def tuStep (n : Nat) (L : List ByteArray) (t : Tu) : List ByteArray := if tuOk n t then L.set t.sec.toNat (tuS (L.getD t.sec.toNat ByteArray.empty) t.at_.toNat t.by_ t.all_) else L
def tuF (n : Nat) (L : List ByteArray) (ts : List Tu) : List ByteArray := ts.foldl (tuStep n) L
/-- n sectors of 64 bytes. -/
def Sx (n : Nat) (L : List ByteArray) : Prop := L.length = n ∧ ∀ x ∈ L, x.size = 64
theorem Sx.set {n : Nat} {L : List ByteArray} (h : Sx n L) (i : Nat) {s : ByteArray} (hs : s.size = 64) : Sx n (L.set i s) :=
  ⟨by rw [List.length_set]; exact h.1, fun x hx => by
    rcases List.mem_or_eq_of_mem_set hx with h2 | h2
    · exact h.2 x h2
    · rw [h2]; exact hs⟩
theorem Sx.get {n : Nat} {L : List ByteArray} (h : Sx n L) {i : Nat} (hi : i < n) : (L.getD i ByteArray.empty).size = 64 := by
  rw [List.getD_eq_getElem?_getD, List.getElem?_eq_getElem (by rw [h.1]; exact hi)]
  exact h.2 _ (List.getElem_mem _)
theorem Sx.step {n : Nat} {L : List ByteArray} (h : Sx n L) (t : Tu) : Sx n (tuStep n L t) := by
  unfold tuStep
  split
  · rename_i ho
    exact h.set _ (tuS_size (h.get (by have := ho.1; have := ho.2.1; omega)) _ _ _)
  · exact h
theorem Sx.all {n : Nat} {ts : List Tu} : ∀ {L : List ByteArray}, Sx n L → Sx n (tuF n L ts) := by
  unfold tuF
  induction ts with
  | nil => exact fun h => h
  | cons t ts ih => exact fun h => ih (h.step t)
theorem tuF_next (n : Nat) (L : List ByteArray) (ts : List Tu) (k : Nat) (h : k < ts.length) : tuF n L (ts.take (k + 1)) = tuStep n (tuF n L (ts.take k)) ts[k] := by
  unfold tuF
  rw [List.take_succ_eq_append_getElem h, List.foldl_append]
  rfl
/-- Which ones are others than they were. -/
def neS (L M : List ByteArray) (i : Nat) : Bool := decide (M.getD i ByteArray.empty ≠ L.getD i ByteArray.empty)
def neK (L M : List ByteArray) (k : Nat) (z : Int) : Bool := decide (0 ≤ z ∧ z < (k : Int)) && neS L M z.toNat
def neN (L M : List ByteArray) (k : Nat) : Nat := ((List.range k).filter (neS L M)).length
theorem neN_succ (L M : List ByteArray) (k : Nat) : neN L M (k + 1) = neN L M k + if neS L M k = true then 1 else 0 := by
  unfold neN
  rw [List.range_succ, List.filter_append, List.length_append]
  cases h : neS L M k <;> simp [h]
theorem neN_le (L M : List ByteArray) (k : Nat) : neN L M k ≤ k := by
  unfold neN
  refine Nat.le_trans (List.length_filter_le _ _) ?_
  rw [List.length_range]
  exact Nat.le_refl _
theorem neK_zero (L M : List ByteArray) (z : Int) : neK L M 0 z = false := by
  unfold neK
  rw [decide_eq_false (by omega)]
  rfl
theorem neK_succ (L M : List ByteArray) (k : Nat) (z : Int) : neK L M (k + 1) z = if neS L M k = true then (neK L M k z || decide (z = (k : Int))) else neK L M k z := by
  unfold neK
  by_cases e : z = (k : Int)
  · subst e
    rw [decide_eq_true (by omega : 0 ≤ (k : Int) ∧ (k : Int) < ((k + 1 : Nat) : Int)), decide_eq_false (by omega : ¬ (0 ≤ (k : Int) ∧ (k : Int) < (k : Int))), Int.toNat_natCast]
    cases h : neS L M k <;> simp
  · have e2 : decide (0 ≤ z ∧ z < ((k + 1 : Nat) : Int)) = decide (0 ≤ z ∧ z < (k : Int)) := by
      by_cases h : 0 ≤ z ∧ z < (k : Int)
      · rw [decide_eq_true h, decide_eq_true (by omega)]
      · rw [decide_eq_false h, decide_eq_false (by omega)]
    rw [e2, decide_eq_false e, Bool.or_false]
    split <;> rfl
theorem me_zero_bool (w : World) : (zeroValue 4).run Tryz.prog w = .ok (.bool false) w := by kernel_rfl
theorem me_wf {x : Int} (hx : -9223372036854775808 ≤ x ∧ x < 9223372036854775808) : (Lit.int .i64 x).wf = true := by
  simp [Lit.wf, IntKind.min, IntKind.max, IntKind.bits, IntKind.signed]; omega
def KM : KeyKind Tryz.prog 35 3 4 Int where
  val := fun i => .int .i64 i
  lit := fun i => .int .i64 i
  ok := fun i => -9223372036854775808 ≤ i ∧ i < 9223372036854775808
  keyed := int_keyed Tryz.underlying3
  typ := Tryz.underlying35
  elem := Tryz.underlying4
  zero := me_zero_bool
  key := fun i hi => keyOf_int_mk Tryz.underlying3 (me_wf hi)
  inj := fun i j h => by cases h; rfl
theorem SeenG.keepM {P : Program} {T k e : TypeId} {ι : Type} {K : KeyKind P T k e ι} {w w' : World} {B n : Nat} {S : ι → Bool} (h : SeenG K w B n S) (hb : w'.heap[B]? = w.heap[B]?) : SeenG K w' B n S := by
  obtain ⟨D, ⟨es, clock, h1, h2⟩, h3⟩ := h.own
  exact ⟨D, ⟨es, clock, hb.trans h1, h2⟩, h3⟩
theorem KM_ok (k : Nat) (h : k < 1000) : KM.ok (k : Int) := by show -9223372036854775808 ≤ (k : Int) ∧ (k : Int) < 9223372036854775808; omega
end Go.Proofs.YtnbjaijhdjneoaaGreat

namespace Go.Proofs.YtnbjaijhdjneoaaGreat
open Go.RowKit CrcMath GfMath PolyMath RsMath SolMath GeoMath
set_option linter.unusedVariables false
set_option linter.unusedSimpArgs false
set_option maxRecDepth 100000

/-- Two lists that grow, side by side: blocks, and numbers. -/
structure TwoM (U w : World) (v u : Value) (n m : Nat) (xs ys : List Value) : Prop where
  own1 : w.ownsRow U.heap.size 48 60 v n xs
  own2 : w.ownsRow U.heap.size 3 1 u m ys
  ne : ∀ x, v.ownBlock = some x → u.ownBlock ≠ some x
  below : Below U.heap.size U w
theorem TwoM.step {U w w1 : World} {v u : Value} {n m : Nat} {xs ys : List Value} (h : TwoM U w v u n m xs ys) (hb : Below w.heap.size w w1) : TwoM U w1 v u n m xs ys := ⟨own_below h.own1 hb, own_below h.own2 hb, h.ne, h.below.next hb⟩
theorem TwoM.grow1 {U w w1 : World} {v u v' : Value} {n m n' : Nat} {xs ys xs' : List Value} (h : TwoM U w v u n m xs ys)
    (g1 : w1.ownsRow U.heap.size 48 60 v' n' xs') (g2 : w.grownBy w1 v.ownBlock) (g3 : v'.ownBlock = v.ownBlock ∨ v'.ownBlock = some w.heap.size) : TwoM U w1 v' u n' m xs' ys := by
  have hk : w1.ownsRow U.heap.size 3 1 u m ys := h.own2.kept g2 (by
    cases hv : v.ownBlock with
    | none => cases hu : u.ownBlock with
      | none => exact .inl rfl
      | some y => exact .inr (fun e => by cases e)
    | some y => exact .inr (h.ne y hv))
  refine ⟨g1, hk, fun y hy => ?_, h.below.grown g2 h.below.size (fun j hj => (h.own1.lt j hj).1)⟩
  rcases g3 with e | e
  · exact h.ne y (e ▸ hy)
  · intro hu
    have := (h.own2.lt y hu).2
    rw [e] at hy
    cases hy
    omega
theorem TwoM.grow2 {U w w1 : World} {v u u' : Value} {n m m' : Nat} {xs ys ys' : List Value} (h : TwoM U w v u n m xs ys)
    (g1 : w1.ownsRow U.heap.size 3 1 u' m' ys') (g2 : w.grownBy w1 u.ownBlock) (g3 : u'.ownBlock = u.ownBlock ∨ u'.ownBlock = some w.heap.size) : TwoM U w1 v u' n m' xs ys' := by
  have hk : w1.ownsRow U.heap.size 48 60 v n xs := h.own1.kept g2 (by
    cases hv : v.ownBlock with
    | none => cases hu : u.ownBlock with
      | none => exact .inl rfl
      | some y => exact .inr (fun e => by cases e)
    | some y => exact .inr (fun e => h.ne y hv e.symm))
  refine ⟨hk, g1, fun y hy => ?_, h.below.grown g2 h.below.size (fun j hj => (h.own2.lt j hj).1)⟩
  rcases g3 with e | e
  · rw [e]; exact h.ne y hy
  · intro hu
    have := (h.own1.lt y hy).2
    rw [e] at hu
    cases hu
    omega
theorem twoM_start (U : World) : TwoM U ((U.alloc (.cells #[] 48)).alloc (.cells #[] 3)) (.slice (some ⟨U.heap.size, 0, none⟩) 0 0) (.slice (some ⟨U.heap.size + 1, 0, none⟩) 0 0) 0 0 [] [] := by
  have hs : (U.alloc (.cells #[] 48)).heap.size = U.heap.size + 1 := by simp
  refine ⟨?_, ?_, ?_, ?_⟩
  · have h1 : Row (U.alloc (.cells #[] 48)) U.heap.size 48 ([] ++ []) := Row.new U _ []
    exact (h1.ownsM (base := U.heap.size) (n := 0) (cap := 0) (Nat.le_refl _) rfl rfl (by omega) (by unfold maxLen; omega)).alloc _
  · have h1 : Row ((U.alloc (.cells #[] 48)).alloc (.cells #[] 3)) (U.alloc (.cells #[] 48)).heap.size 3 ([] ++ []) := Row.new (U.alloc (.cells #[] 48)) _ []
    rw [hs] at h1
    exact h1.ownsM (base := U.heap.size) (n := 0) (cap := 0) (by omega) rfl rfl (by omega) (by unfold maxLen; omega)
  · intro x hx hy
    simp only [Value.ownBlock, Option.some.injEq] at hx hy
    omega
  · exact (alloc_below _ _).next (alloc_below _ _)
theorem own_someN {w : World} {base s : Nat} {e : TypeId} {v : Value} {n : Nat} {xs : List Value} (h : w.ownsRow base e s v n xs) (hn : 0 < n) : ∃ g cap, v = .slice (some ⟨g, 0, none⟩) n cap ∧ n ≤ cap := by
  rcases h.2 with ⟨_, h0⟩ | ⟨g, cap, cur, rfl, _, _, h3, _⟩
  · omega
  · exact ⟨g, cap, rfl, h3⟩
/-- What Mend tells of a word that it mends. -/
def MtR (B : Nat) (m : List Nat) : Value → World → Prop := fun v w => ∃ u y, v = .tuple #[u, y, .int .i64 0] ∧ RdF B m u w
theorem MtR.monot (B : Nat) (m : List Nat) : Monot (MtR B m) := fun _ _ _ ⟨u, y, h1, h2⟩ hb => ⟨u, y, h1, RdF.monot B m _ _ _ h2 hb⟩

/-- The blocks, mended at the first t places. -/
def mdX (n p : Nat) (f : Fb) (er : List Int) (t : Nat) : Fb := fun i b => if b < t then mdF n p f er i b else f i b
theorem mdX_zero (n p : Nat) (f : Fb) (er : List Int) : grid n (mdX n p f er 0) = grid n f := grid_congr fun i _ b _ => if_neg (Nat.not_lt_zero _)
theorem mdX_full (n p : Nat) (f : Fb) (er : List Int) : grid n (mdX n p f er 60) = grid n (mdF n p f er) := grid_congr fun i _ b hb => if_pos hb
theorem mdX_col (n p : Nat) (f : Fb) (er : List Int) (t : Nat) : colF (mdX n p f er t) n t = colF f n t := colF_congr fun i _ => if_neg (Nat.lt_irrefl _)
theorem mdX_next (n p : Nat) (f : Fb) (er : List Int) (t : Nat) (m : List Nat) (l : List Nat) (h : mendF masseyF n p (colF f n t) er = .ok m l) : grid n (putF (mdX n p f er t) 0 t m n) = grid n (mdX n p f er (t + 1)) := by
  refine grid_congr fun i hi b _ => ?_
  unfold putF mdX
  by_cases e : b = t
  · subst e
    rw [if_pos (by omega), if_pos (by omega), mdF, h, Nat.sub_zero]
  · rw [if_neg (by omega)]
    by_cases h3 : b < t
    · rw [if_pos h3, if_pos (by omega)]
    · rw [if_neg h3, if_neg (by omega)]
theorem badL_succ (S : List (List UInt8)) (F : Fb) (n : Nat) : badL S F (n + 1) = badL S F n ++ if S.getD n [] ≠ sealB (bkF F n) then [n] else [] := by
  unfold badL
  rw [List.range_succ, List.filter_append]
  congr 1
  by_cases h : S.getD n [] ≠ sealB (bkF F n)
  · rw [if_pos h]; exact List.filter_cons_of_pos (decide_eq_true h)
  · rw [if_neg h]; exact List.filter_cons_of_neg (by rw [decide_eq_false h]; exact Bool.false_ne_true)
theorem badL_le (S : List (List UInt8)) (F : Fb) (n : Nat) : (badL S F n).length ≤ n := by
  unfold badL
  refine Nat.le_trans (List.length_filter_le _ _) ?_
  rw [List.length_range]
  exact Nat.le_refl _
/-- Where the mended blocks' sectors are others: where the blocks are, or a tag isn't right. -/
theorem bad_unl (S : List (List UInt8)) (F : Fb) (n : Nat) : badL S F n = unlF n (seenF S) F (erasedF S n) := by
  unfold badL unlF
  refine List.filter_congr fun i hi => ?_
  have hin := List.mem_range.1 hi
  rw [bkF_seen]
  have hm : i ∈ erasedF S n ↔ rightT (S.getD i []) = false := by
    unfold erasedF
    rw [List.mem_filter]
    constructor
    · intro ⟨_, h⟩
      simpa using h
    · intro h
      exact ⟨hi, by rw [h]; rfl⟩
  cases hr : rightT (S.getD i []) with
  | false =>
    rw [decide_eq_true (hm.2 hr), Bool.or_true, decide_eq_true]
    intro e
    rw [e, right_seal _ (bkF_length _ _)] at hr
    cases hr
  | true =>
    have hd : decide (i ∈ erasedF S n) = false := decide_eq_false (fun h => by rw [hm.1 h] at hr; cases hr)
    rw [hd, Bool.or_false]
    have e := right_is_seal hr
    by_cases h : blk (S.getD i []) = bkF F i
    · rw [decide_eq_false (fun h2 => h2 (by rw [← h]; exact e)), decide_eq_false (fun h2 => h2 h)]
    · rw [decide_eq_true h, decide_eq_true]
      intro h2
      exact h (sealB_inj (blk_length _) (bkF_length _ _) (e.symm.trans h2))

/-- What the document's Read tells. -/
def RRead (n p : Nat) (S : List (List UInt8)) (e : Ending) (w' : World) : Prop :=
  if okTo n p (seenF S) ((erasedF S n).map fun x : Nat => (x : Int)) 60 = true then
    ∃ g c vs, e = .returned (.tuple #[.slice (some ⟨g, 0, none⟩) n c, vs, .int .i64 0]) ∧ Lies w' w'.heap.size (some ⟨g, 0, none⟩) (bytes (grid n (mdF n p (seenF S) ((erasedF S n).map fun x : Nat => (x : Int))))) ∧
      IReads w' vs (unlF n (seenF S) (mdF n p (seenF S) ((erasedF S n).map fun x : Nat => (x : Int))) (erasedF S n))
  else e = .returned (.tuple #[.slice none 0 0, .slice none 0 0, .int .i64 8])

set_option maxHeartbeats 8000000 in
theorem refSRead_any (k p s : Nat) (a : Option Addr) (cap n : Nat) (L : List ByteArray) (w : World) (hk : 1 ≤ k) (hk8 : k ≤ 8) (hp : 2 ≤ p) (hp6 : p ≤ 6) (hn : k + p = n) (hL : Sx n L) (hr : Lies w w.heap.size a (strs L)) :
    Calls Tryz.prog 10 #[.agg #[.int .i64 (k : Int), .int .i64 (p : Int), .int .i64 (s : Int)], .slice a n cap] w fun e w' => RRead n p (tl L) e w' ∧ Below w.heap.size w w' := by
  have HR := Lib.hid hr
  have HLL : Hid (L.length = n) := Lib.hid hL.1
  have HSZ : Hid (∀ i (hi : i < L.length), L[i].size = 64) := Lib.hid fun i hi => hL.2 _ (List.getElem_mem hi)
  have HTL : Hid (∀ i (hi : i < L.length), (tl L).getD i [] = L[i].data.toList) := Lib.hid fun i hi => tl_get L i hi
  obtain ⟨S, hS⟩ : ∃ S, tl L = S := ⟨_, rfl⟩
  rw [hS] at HTL ⊢
  have hin := nats_inB (erasedF_lt S n)
  have HIN := Lib.hid hin
  have HNE := Lib.hid (nats_ints (erasedF S n))
  have hEl := erasedF_le S n
  have HEL : Hid ((erasedF S n).length ≤ n) := Lib.hid hEl
  have HES : Hid (∀ i, erasedF S (i + 1) = erasedF S i ++ if rightT (S.getD i []) = false then [i] else []) := Lib.hid fun i => erasedF_succ S i
  have HEI : Hid (∀ i, (erasedF S i).length ≤ i) := Lib.hid fun i => erasedF_le S i
  have HBK : Hid (∀ i, bytes (grid (i + 1) (seenF S)) = bytes (grid i (seenF S)) ++ [bytes (blk (S.getD i []))].flatten) := Lib.hid fun i => by
    rw [grid_succ, bytes_append, bkF_seen]; simp
  have HFIN : Hid (∀ e w', (okTo n p (seenF S) ((erasedF S n).map fun x : Nat => (x : Int)) 60 = true → ∃ g c vs, e = .returned (.tuple #[.slice (some ⟨g, 0, none⟩) n c, vs, .int .i64 0]) ∧ Lies w' w'.heap.size (some ⟨g, 0, none⟩) (bytes (grid n (mdF n p (seenF S) ((erasedF S n).map fun x : Nat => (x : Int))))) ∧
      IReads w' vs (badL S (mdF n p (seenF S) ((erasedF S n).map fun x : Nat => (x : Int))) n)) → (okTo n p (seenF S) ((erasedF S n).map fun x : Nat => (x : Int)) 60 = false → e = .returned (.tuple #[.slice none 0 0, .slice none 0 0, .int .i64 8])) → RRead n p S e w') := Lib.hid fun e w' h1 h2 => by
    unfold RRead
    rw [bad_unl] at h1
    cases ho : okTo n p (seenF S) ((erasedF S n).map fun x : Nat => (x : Int)) 60 with
    | true => rw [if_pos rfl]; exact h1 ho
    | false => rw [if_neg (by simp)]; exact h2 ho
  have hn8 : n ≤ 14 := by omega
  have HN14 : Hid (n ≤ 14 ∧ 3 ≤ n ∧ 2 ≤ p ∧ p ≤ n ∧ n ≤ 255 ∧ k + p = n) := Lib.hid (by omega)
  have hnk : (k : Int) + (p : Int) = (n : Int) := by omega
  have hnw : IntKind.i64.wrap (n : Int) = (n : Int) := by rw [IntKind.wrap_i64]; omega
  have hnn : ((n : Int) != (n : Int)) = false := by simp
  have hni : (n : Int) ≤ 14 := by omega
  have hki : (k : Int) ≤ 8 := by omega
  have HIB := Lib.hid info_block3
  have HP0 : Hid (0 < 60) := Lib.hid (by omega)
  clear hk hk8 hp hp6 hr hn hL hS hin hEl hn8
  go_enter Tryz.func10, Tryz.ntmps10
  go_wp2_with ((with_reducible refine wpBoxK (w := w) [Value.int .i64 (k : Int), .int .i64 (p : Int), .int .i64 (s : Int)] 45 ?_ ?_); rfl; intro u1 r1 b1 s1; have R1 := Lib.hid r1; have c0 := r1.cell 0; have c1 := r1.cell 1; have B1 := Lib.hid b1; clear r1 b1 s1)
  clear c0 c1
  go_loopw [8, 9, 10] (fun v u x wr => ∃ i : Nat, i ≤ n ∧ x = .int .i64 i ∧ TwoM u1 wr v u i (erasedF S i).length (bytes (grid i (seenF S))) (nats (erasedF S i))) (fun _ _ x _ => n - (intOf x).toNat)
  case atStart => exact ⟨0, Nat.zero_le _, rfl, twoM_start u1⟩
  case round =>
  obtain ⟨i, hi, rfl, hT⟩ := hrel
  by_cases hlt : i < n
  · have hii : (i : Int) < (n : Int) := by omega
    have hiL : i < L.length := by rw [HLL.out]; exact hlt
    obtain ⟨bl, off, rfl, hbb, hc⟩ := HR.out (by rw [strs_length]; omega)
    have HCL : Hid (∀ u, Below u1.heap.size u1 u → u.cell? ⟨bl, off + i, none⟩ = some (.string L[i])) := Lib.hid fun u hu => ((B1.out.next hu).cell (p := ⟨bl, off + i, none⟩) hbb).trans (hc i _ (strs_get L i hiL))
    have hti := HTL.out i hiL
    have hsz := HSZ.out i hiL
    obtain ⟨T, hTT⟩ : ∃ T, L[i] = T := ⟨_, rfl⟩
    rw [hTT] at HCL hti hsz
    have HBL : Hid (∀ u, Calls Tryz.prog 12 #[.string T] u fun e w' => e = .returned (.agg (bytes (blk (S.getD i []))).toArray) ∧ Below u.heap.size u w') := Lib.hid fun u => by
      rw [hti]; exact refBlock_any T u (by rw [hsz]; decide)
    have HRT : Hid (∀ u, Calls Tryz.prog 28 #[.string T] u fun e w' => e = .returned (.bool (rightT (S.getD i []))) ∧ Below u.heap.size u w') := Lib.hid fun u => by
      rw [hti]; exact refRight_any T u (by rw [hsz]; decide)
    have HCW : Hid (wr.cell? ⟨bl, off + i, none⟩ = some (.string T)) := Lib.hid (HCL.out wr hT.below)
    have hcw := HCW.out
    have hbk := HBK.out i
    have hes := HES.out i
    have hei := HEI.out i
    obtain ⟨C, hC⟩ : ∃ C, blk (S.getD i []) = C := ⟨_, rfl⟩
    have hCl : C.length = 60 := by rw [← hC, blk_length]
    rw [hC] at HBL hbk
    have HNL : Hid (([bytes C] : List (List Value)).flatten.length = 1 * 60) := Lib.hid (by simp [bytes_length, hCl])
    have HM1 : Hid (([bytes C] : List (List Value)).flatten.all (·.oneCell') = true) := Lib.hid (by simpa using bytes_oneC C)
    have HVS : Hid (∀ l ∈ ([bytes C] : List (List Value)), l.length = 60) := Lib.hid fun l hl => by
      rcases List.mem_cons.1 hl with rfl | hl
      · rw [bytes_length, hCl]
      · cases hl
    obtain ⟨MC, hMC⟩ : ∃ M, bytes C = M := ⟨_, rfl⟩
    rw [hMC] at HBL hbk HNL HM1 HVS
    have HVL : Hid (0 < ([MC] : List (List Value)).length) := Lib.hid (by show 0 < 1; omega)
    have HVM : Hid (([MC] : List (List Value)).length * 60 ≤ 2 ^ 24) := Lib.hid (by show 1 * 60 ≤ 2 ^ 24; omega)
    have HBKI := Lib.hid hbk
    obtain ⟨r, hrr⟩ : ∃ r, rightT (S.getD i []) = r := ⟨_, rfl⟩
    rw [hrr] at HRT hes
    obtain ⟨U, hU⟩ : ∃ U, erasedF S i = U := ⟨_, rfl⟩
    rw [hU] at hes hei hT
    have HESI := Lib.hid hes
    have HBG : Big (i + 1 ≤ 1099511627776) := ⟨by omega⟩
    have HBG2 : Big (U.length + 1 ≤ 1099511627776) := ⟨by omega⟩
    have HO1 : Hid ((Value.int .i64 (i : Int)).oneCell' = true) := Lib.hid rfl
    have HTT := Lib.hid hT
    clear hT hbb hc hti hsz hTT hC hCl hMC hbk hrr hU hes hei hlt hiL
    cases r
    · have HLN : Hid (U.length + 1 = (erasedF S (i + 1)).length) := Lib.hid (by rw [HESI.out]; simp)
      have HNN : Hid (nats U ++ [.int .i64 (i : Int)] = nats (erasedF S (i + 1))) := Lib.hid (by rw [HESI.out, ← nats_snoc]; simp)
      clear HESI
      go_wp2_with (first
        | (go_at_call 12; (with_reducible refine (HBL.out wr).mono ?_); rintro e v1 ⟨rfl, b1⟩; have T1 := Lib.hid (HTT.out.step b1); clear b1)
        | ((with_reducible refine wpBuildBK (w := v1) [MC] 60 24 48 Tryz.underlying24 HIB.out HP0.out HVS.out HVL.out HVM.out ?_ ?_); rfl; intro v2 r2 b2 s2; have L2 := Lib.hid (row_lies r2); have T2 := Lib.hid (T1.out.step b2); have Z2 : Hid (u1.heap.size ≤ v2.heap.size) := Lib.hid T2.out.below.size; clear r2 b2 s2)
        | ((with_reducible refine wpAppendM 1 T2.out.own1 Tryz.underlying24 many_block L2.out HNL.out Nat.one_pos HP0.out HM1.out HBG Z2.out ?_ ?_); rfl; intro v7 v3 g1 g2 g8; have T3 := Lib.hid (T2.out.grow1 g1 g2 g8); have hcl3 := HCL.out v3 T3.out.below; clear g1 g2 g8 hcw)
        | (go_at_call 28; (with_reducible refine (HRT.out v3).mono ?_); rintro e v4 ⟨rfl, b4⟩; have T4 := Lib.hid (T3.out.step b4); have TA := Lib.hid (T4.out.step (alloc_below v4 (.cells #[.int .i64 (i : Int)] 3))); have LA := Lib.hid (Lies.new [Value.int .i64 (i : Int)] v4 3); have ZA : Hid (u1.heap.size ≤ (v4.alloc (.cells #[.int .i64 (i : Int)] 3)).heap.size) := Lib.hid TA.out.below.size; clear b4 hcl3)
        | ((with_reducible refine wpAppend1K TA.out.own2 Tryz.underlying38 one_int LA.out HO1.out HBG2 ZA.out ?_ ?_); rfl; intro v8 v5 g1 g2 g3; rw [HNN.out, HLN.out] at g1; have T6 := Lib.hid (TA.out.grow2 g1 g2 g3); clear g1 g2 g3))
      go_roundw
      case rel => exact ⟨i + 1, by omega, by go_num, by rw [HBKI.out]; exact T6.out⟩
      case measure => simp [intOf]; omega
    · have HLN : Hid (erasedF S (i + 1) = U) := Lib.hid (by rw [HESI.out]; simp)
      clear HESI
      go_wp2_with (first
        | (go_at_call 12; (with_reducible refine (HBL.out wr).mono ?_); rintro e v1 ⟨rfl, b1⟩; have T1 := Lib.hid (HTT.out.step b1); clear b1)
        | ((with_reducible refine wpBuildBK (w := v1) [MC] 60 24 48 Tryz.underlying24 HIB.out HP0.out HVS.out HVL.out HVM.out ?_ ?_); rfl; intro v2 r2 b2 s2; have L2 := Lib.hid (row_lies r2); have T2 := Lib.hid (T1.out.step b2); have Z2 : Hid (u1.heap.size ≤ v2.heap.size) := Lib.hid T2.out.below.size; clear r2 b2 s2)
        | ((with_reducible refine wpAppendM 1 T2.out.own1 Tryz.underlying24 many_block L2.out HNL.out Nat.one_pos HP0.out HM1.out HBG Z2.out ?_ ?_); rfl; intro v7 v3 g1 g2 g8; have T3 := Lib.hid (T2.out.grow1 g1 g2 g8); have hcl3 := HCL.out v3 T3.out.below; clear g1 g2 g8 hcw)
        | (go_at_call 28; (with_reducible refine (HRT.out v3).mono ?_); rintro e v4 ⟨rfl, b4⟩; have T4 := Lib.hid (T3.out.step b4); clear b4 hcl3))
      go_roundw
      case rel => exact ⟨i + 1, by omega, by go_num, by rw [HBKI.out, HLN.out]; exact T4.out⟩
      case measure => simp [intOf]; omega
  · obtain rfl : i = n := by omega
    obtain ⟨w2, rfl⟩ : ∃ x, x = wr := ⟨_, rfl⟩
    obtain ⟨gA, cA, rfl, hcA⟩ := own_someN hT.own1 (by have := HN14.out; omega)
    obtain ⟨hgA, ys, hrow⟩ := own_rowM hT.own1
    obtain ⟨ea, ec, rfl, hec, hlE⟩ := own_form2 hT.own2
    have HNEA : Hid (∀ x, ea = some x → x.block ≠ gA) := Lib.hid fun x hx h => by
      subst hx
      exact hT.ne gA rfl (by rw [← h]; rfl)
    have HB2 : Hid (Below w.heap.size w w2) := Lib.hid (B1.out.next hT.below)
    have R2 := Lib.hid (R1.out.step hT.below)
    have HGN : Hid (w.heap.size ≠ gA) := Lib.hid (by have := R1.out.lt; omega)
    have HGW : Hid (w.heap.size ≤ gA) := Lib.hid (Nat.le_trans B1.out.size hgA)
    have LE2 := Lib.hid hlE
    have HRW2 : Hid (Row w2 gA 48 (bytes (grid i (mdX i p (seenF S) ((erasedF S i).map fun x : Nat => (x : Int)) 0)) ++ ys)) := Lib.hid (by rw [mdX_zero]; exact hrow)
    obtain ⟨E, hE⟩ : ∃ E, erasedF S i = E := ⟨_, rfl⟩
    rw [hE] at LE2 HIN HNE HEL HFIN HRW2 ⊢
    obtain ⟨er, her⟩ : ∃ er, E.map (fun x : Nat => (x : Int)) = er := ⟨_, rfl⟩
    rw [her] at HIN HNE HFIN HRW2
    have HEN : Hid (E.length = er.length) := Lib.hid (by rw [← her, List.length_map])
    obtain ⟨F0, hF0⟩ : ∃ F, seenF S = F := ⟨_, rfl⟩
    rw [hF0] at HFIN HRW2
    have hnl : ¬ (i : Int) < (i : Int) := by omega
    clear hT hrow hgA hlE hec hcA hlt hi hE her hF0 HES HEI HBK HIB
    go_wp2
    go_loopw [11] (fun x wr => ∃ t : Nat, t ≤ 60 ∧ x = .int .i64 t ∧ okTo i p F0 er t = true ∧ Row wr gA 48 (bytes (grid i (mdX i p F0 er t)) ++ ys) ∧ Only gA w2 wr) (fun x _ => 60 - (intOf x).toNat)
    case atStart => exact ⟨0, by omega, rfl, rfl, HRW2.out, Only.refl _ _⟩
    case round =>
    clear HRW2
    obtain ⟨t, ht, rfl, hok, hrow, hon⟩ := hrel
    have HBWR : Hid (Below w.heap.size w wr) := Lib.hid (HB2.out.trans (hon.below HGW.out HB2.out.size))
    by_cases hlt : t < 60
    · have hti : (t : Int) < 60 := by omega
      have R3 := Lib.hid (R2.out.only hon HGN.out)
      have C0 : Hid (wr.cell? ⟨w.heap.size, 0, none⟩ = some (.int .i64 (k : Int))) := Lib.hid (R3.out.cell 0)
      have HLT : Hid (w.heap.size < wr.heap.size) := Lib.hid R3.out.lt
      have LE3 := Lib.hid (LE2.out.onlyNe hon (fun x hx _ => HNEA.out x hx))
      have hX8 := colF_by F0 i t
      have hXl := colF_length F0 i t
      have hnx := mdX_next i p F0 er t
      have hsu := okTo_succ i p F0 er t
      rw [hok] at hsu
      have hfa := @okTo_false i p F0 er t hlt
      unfold okAt at hsu hfa
      have hna := mendF_notarg (p := p) (W := colF F0 i t) HIN.out
      have hco : ∀ wx, Below wr.heap.size wr wx → Calls Tryz.prog 30 #[.slice (some ⟨gA, 0, none⟩) i cA, .int .i64 (t : Int)] wx fun e w' => (∃ v, e = .returned v ∧ Rd (colF F0 i t) v w') ∧ Below wx.heap.size wx w' := fun wx hb => by
        have := refColumn_any (some ⟨gA, 0, none⟩) cA i (mdX i p F0 er t) t wx (by have := HN14.out; omega) hlt (rs_lies (hrow.step hb))
        rwa [mdX_col] at this
      obtain ⟨X, hX⟩ : ∃ X, colF F0 i t = X := ⟨_, rfl⟩
      rw [hX] at hX8 hXl hnx hsu hfa hna hco
      have HCO := Lib.hid hco
      have hme : ∀ wx, Below wr.heap.size wr wx → ∀ v, Rd X v wx → Calls Tryz.prog 29 #[v, .int .i64 (i : Int), .int .i64 (k : Int), .slice ea E.length ec] wx fun e w' => Mr wx.heap.size (mendF masseyF i p X er) e w' ∧ Below wx.heap.size wx w' := fun wx hb v ⟨av, cv, e, h1, h2⟩ => by
        subst e
        rw [hXl, HEN.out]
        exact rmend_any av cv X i k p ea ec er wx hX8 hXl (by have := HN14.out; omega) (by have := HN14.out; omega) (by have := HN14.out; omega) (by have := HEL.out; have := HEN.out; have := HN14.out; omega) h2 (by rw [← HNE.out]; exact LE3.out.step hb)
      have HMB : Hid (∀ m l, mendF masseyF i p X er = .ok m l → By m ∧ m.length = i) := Lib.hid fun m l hm => ⟨mendF_by hX8 hm, by rw [(mendF_ok hm).2.2.2, hXl]⟩
      have HROW := Lib.hid hrow
      have HON := Lib.hid hon
      have HT6 := Lib.hid hlt
      cases hmf : mendF masseyF i p X er with
      | arg => exact absurd hmf hna
      | ok m l =>
        obtain ⟨hm8, hml⟩ := HMB.out m l hmf
        have HGR := Lib.hid (hnx m l hmf)
        rw [hmf] at hsu hme
        have HOK1 : Hid (okTo i p F0 er (t + 1) = true) := Lib.hid (by rw [hsu]; rfl)
        have HME : Hid (∀ wx, Below wr.heap.size wr wx → ∀ v, Rd X v wx → Calls Tryz.prog 29 #[v, .int .i64 (i : Int), .int .i64 (k : Int), .slice ea E.length ec] wx fun e w' => (∃ v, e = .returned v ∧ MtR wr.heap.size m v w') ∧ Below wx.heap.size wx w') := Lib.hid fun wx hb v hv =>
          (hme wx hb v hv).mono fun e w' ⟨⟨u, y, h1, h2, h3, h4⟩, h5⟩ => ⟨⟨_, h1, u, y, rfl, h2, fun g o n c e => Nat.le_trans hb.size (h4 g o n c e)⟩, h5⟩
        have HML := Lib.hid hml
        have HM8 := Lib.hid hm8
        clear hrow hon hlt hX8 hXl hnx hX hco hme hmf hm8 hml HMB hsu hfa hna hok
        go_wp2
        refine region_invX [(0, 57), (1, 58), (2, 59), (3, 60), (4, 61), (5, 62), (6, 63), (7, 64), (8, 56), (9, 65), (10, 66), (11, 67), (12, 12), (13, 13), (14, 14)]
          (fun ii => [Is (.slice (some ⟨gA, 0, none⟩) i cA), Is (.int .i64 (t : Int)), Rd X, Is (.int .i64 (i : Int)), Is (.pointer (some ⟨w.heap.size, 0, none⟩)), Is (.int .i64 (k : Int)), Is (.slice ea E.length ec), MtR wr.heap.size m, MtR wr.heap.size m, RdF wr.heap.size m, Any, Is (.int .i64 0), RdF wr.heap.size m, Any, Is (.int .i64 0)].getD ii (Is undef))
          (fun w' => Below wr.heap.size wr w') (by kernel_rfl) (by kernel_rfl) (by decide) (by decide) (by kernel_rfl) rfl ?monok ((Below.refl _ _).drew) ?stepk ?fink
        case monok =>
          intro i
          match i with
          | 0 | 1 | 3 | 4 | 5 | 6 | 11 | 14 => exact Is.monot _
          | 2 => exact Rd.monot _
          | 7 | 8 => exact MtR.monot _ _
          | 9 | 12 => exact RdF.monot _ _
          | 10 | 13 => exact Any.monot
          | _ + 15 => exact Is.monot _
        case stepk =>
          refine List.forall_mem_cons.2 ⟨?ks0, List.forall_mem_cons.2 ⟨?ks1, List.forall_mem_cons.2 ⟨?ks2, List.forall_mem_cons.2 ⟨?ks3, List.forall_mem_cons.2 ⟨?ks4, List.forall_mem_cons.2 ⟨?ks5, List.forall_mem_cons.2 ⟨?ks6, List.forall_mem_cons.2 ⟨?ks7, List.forall_mem_cons.2 ⟨?ks8, List.forall_mem_cons.2 ⟨?ks9, List.forall_mem_cons.2 ⟨?ks10, List.forall_mem_cons.2 ⟨?ks11, List.forall_mem_cons.2 ⟨?ks12, List.forall_mem_cons.2 ⟨?ks13, List.forall_mem_cons.2 ⟨?ks14, List.forall_mem_nil _⟩⟩⟩⟩⟩⟩⟩⟩⟩⟩⟩⟩⟩⟩⟩
          case ks0 =>
            intro u wx hg hC
            clear hC
            refine wpOp_step rfl (fun K hK => ?_)
            simp only [puts, List.foldl]
            go_simp
            exact hK _ _ ⟨rfl, rfl, hg, Below.refl _ _⟩
          case ks1 =>
            intro u wx hg hC
            clear hC
            refine wpOp_step rfl (fun K hK => ?_)
            simp only [puts, List.foldl]
            go_simp
            exact hK _ _ ⟨rfl, rfl, hg, Below.refl _ _⟩
          case ks2 =>
            intro u wx hg hC
            have hJ0 : u 0 = (.slice (some ⟨gA, 0, none⟩) i cA) := hC.at 0 (by kernel_rfl)
            have hJ1 : u 1 = (.int .i64 (t : Int)) := hC.at 1 (by kernel_rfl)
            clear hC
            refine wpOp_step rfl (fun K hK => ?_)
            simp only [puts, List.foldl]
            go_simp
            refine (HCO.out wx hg).mono ?_
            rintro e w' ⟨⟨v, rfl, hv⟩, hb'⟩
            exact hK _ _ ⟨rfl, hv, hg.next hb', hb'⟩
          case ks3 =>
            intro u wx hg hC
            clear hC
            refine wpOp_step rfl (fun K hK => ?_)
            simp only [puts, List.foldl]
            go_simp
            exact hK _ _ ⟨rfl, rfl, hg, Below.refl _ _⟩
          case ks4 =>
            intro u wx hg hC
            clear hC
            refine wpOp_step rfl (fun K hK => ?_)
            simp only [puts, List.foldl]
            go_simp
            exact hK _ _ ⟨rfl, rfl, hg, Below.refl _ _⟩
          case ks5 =>
            intro u wx hg hC
            have hJ4 : u 4 = (.pointer (some ⟨w.heap.size, 0, none⟩)) := hC.at 4 (by kernel_rfl)
            clear hC
            have hcl : wx.cell? ⟨w.heap.size, 0, none⟩ = some (.int .i64 (k : Int)) := (hg.cell (p := ⟨w.heap.size, 0, none⟩) HLT.out).trans C0.out
            refine wpOp_step rfl (fun K hK => ?_)
            simp only [puts, List.foldl]
            go_simp
            exact hK _ _ ⟨rfl, rfl, hg, Below.refl _ _⟩
          case ks6 =>
            intro u wx hg hC
            clear hC
            refine wpOp_step rfl (fun K hK => ?_)
            simp only [puts, List.foldl]
            go_simp
            exact hK _ _ ⟨rfl, rfl, hg, Below.refl _ _⟩
          case ks7 =>
            intro u wx hg hC
            have hJ2 : (Rd X) (u 2) wx := hC.at 2 (by kernel_rfl)
            have hJ3 : u 3 = (.int .i64 (i : Int)) := hC.at 3 (by kernel_rfl)
            have hJ5 : u 5 = (.int .i64 (k : Int)) := hC.at 5 (by kernel_rfl)
            have hJ6 : u 6 = (.slice ea E.length ec) := hC.at 6 (by kernel_rfl)
            clear hC
            refine wpOp_step rfl (fun K hK => ?_)
            simp only [puts, List.foldl]
            go_simp
            refine (HME.out wx hg _ hJ2).mono ?_
            rintro e w' ⟨⟨v, rfl, hv⟩, hb'⟩
            exact hK _ _ ⟨rfl, hv, hg.next hb', hb'⟩
          case ks8 =>
            intro u wx hg hC
            have hJ7 : (MtR wr.heap.size m) (u 7) wx := hC.at 7 (by kernel_rfl)
            clear hC
            refine wpOp_step rfl (fun K hK => ?_)
            simp only [puts, List.foldl]
            go_simp
            exact hK _ _ ⟨rfl, hJ7, hg, Below.refl _ _⟩
          case ks9 =>
            intro u wx hg hC
            have hJ8 : (MtR wr.heap.size m) (u 8) wx := hC.at 8 (by kernel_rfl)
            clear hC
            obtain ⟨u9, y9, e9, q9⟩ := hJ8
            refine wpOp_step rfl (fun K hK => ?_)
            simp only [puts, List.foldl]
            go_simp
            exact hK _ _ ⟨rfl, q9, hg, Below.refl _ _⟩
          case ks10 =>
            intro u wx hg hC
            have hJ8 : (MtR wr.heap.size m) (u 8) wx := hC.at 8 (by kernel_rfl)
            clear hC
            obtain ⟨u9, y9, e9, q9⟩ := hJ8
            refine wpOp_step rfl (fun K hK => ?_)
            simp only [puts, List.foldl]
            go_simp
            exact hK _ _ ⟨rfl, trivial, hg, Below.refl _ _⟩
          case ks11 =>
            intro u wx hg hC
            have hJ8 : (MtR wr.heap.size m) (u 8) wx := hC.at 8 (by kernel_rfl)
            clear hC
            obtain ⟨u9, y9, e9, q9⟩ := hJ8
            refine wpOp_step rfl (fun K hK => ?_)
            simp only [puts, List.foldl]
            go_simp
            exact hK _ _ ⟨rfl, rfl, hg, Below.refl _ _⟩
          case ks12 =>
            intro u wx hg hC
            have hJ9 : (RdF wr.heap.size m) (u 9) wx := hC.at 9 (by kernel_rfl)
            clear hC
            refine wpOp_step rfl (fun K hK => ?_)
            simp only [puts, List.foldl]
            go_simp
            exact hK _ _ ⟨rfl, hJ9, hg, Below.refl _ _⟩
          case ks13 =>
            intro u wx hg hC
            have hJ10 : (Any) (u 10) wx := hC.at 10 (by kernel_rfl)
            clear hC
            refine wpOp_step rfl (fun K hK => ?_)
            simp only [puts, List.foldl]
            go_simp
            exact hK _ _ ⟨rfl, hJ10, hg, Below.refl _ _⟩
          case ks14 =>
            intro u wx hg hC
            have hJ11 : u 11 = (.int .i64 0) := hC.at 11 (by kernel_rfl)
            clear hC
            refine wpOp_step rfl (fun K hK => ?_)
            simp only [puts, List.foldl]
            go_simp
            exact hK _ _ ⟨rfl, rfl, hg, Below.refl _ _⟩
        case fink =>
          intro u w4 hb4 hφ
          obtain ⟨⟨aw, cw, e8, hcw, hlw⟩, hfr⟩ : RdF wr.heap.size m (u 12) w4 := hφ (12, 12) (by decide)
          have e14 : u 14 = .int .i64 0 := hφ (14, 14) (by decide)
          rw [HML.out] at e8
          have HFRE : Hid (∀ x, aw = some x → wr.heap.size ≤ x.block) := Lib.hid fun x e => by
            obtain ⟨b3, o3, e3, _, _⟩ := hlw (by rw [u8s_length, HML.out]; have := HN14.out; omega)
            have h9 := hfr b3 o3 _ _ (by rw [e8, e3])
            rw [e3] at e
            cases e
            exact h9
          clear hφ hfr
          simp only [puts, List.foldl]
          rw [e8, e14]
          go_simp
          have HLW := Lib.hid hlw
          have RW4 := Lib.hid (HROW.out.step hb4)
          have O4 := Lib.hid (HON.out.step hb4)
          clear hb4 hlw hcw e8 e14
          go_wp2
          obtain ⟨T0, hT0⟩ : ∃ T, T = 48 := ⟨_, rfl⟩
          rw [← hT0] at RW4
          have HT0 := Lib.hid hT0
          clear hT0
          go_loopw [15] (fun x wi => ∃ q : Nat, q ≤ i ∧ x = .int .i64 q ∧ Row wi gA T0 (bytes (grid i (putF (mdX i p F0 er t) 0 t m q)) ++ ys) ∧ Only gA w4 wi) (fun x _ => i - (intOf x).toNat)
          case atStart => exact ⟨0, Nat.zero_le _, rfl, by rw [putF_zero]; exact RW4.out, Only.refl _ _⟩
          case round =>
            obtain ⟨q, hq, rfl, hrow, hon⟩ := hrel
            by_cases hlt2 : q < i
            · have hqi : (q : Int) < (i : Int) := by omega
              obtain ⟨b3, o3, rfl, hb3, hc3⟩ := HLW.out (by rw [u8s_length, HML.out]; omega)
              have hne : b3 ≠ gA := by have := HFRE.out _ rfl; have := HROW.out.lt; simp only at *; omega
              have hx8 := HM8.out.sq q
              obtain ⟨x, hx⟩ : ∃ x, sq m q = x := ⟨_, rfl⟩
              have hcw : w4.cell? ⟨b3, o3 + q, none⟩ = some (.int .u8 (x : Int)) := hc3 q _ (by rw [u8s_get _ _ (by rw [HML.out]; exact hlt2), ← hx, sq_get _ _ (by rw [HML.out]; exact hlt2)])
              have hcell : wr.cell? ⟨b3, o3 + q, none⟩ = some (.int .u8 (x : Int)) := by
                rw [← hcw]
                simp only [World.cell?]
                rw [hon.2.2.2.2 b3 hb3 hne]
              have hdst : wr.cell? ⟨gA, q * 60 + t, none⟩ = some (.int .u8 ((putF (mdX i p F0 er t) 0 t m q q t).toNat : Int)) := by
                rw [hrow.cell]
                exact grid_cell_ys i (putF (mdX i p F0 er t) 0 t m q) ys q t hlt2 HT6.out
              have hfr : wr.frozen? ⟨gA, q * 60 + t, none⟩ = false := hrow.frozen _
              have HNX : Hid ((bytes (grid i (putF (mdX i p F0 er t) 0 t m q)) ++ ys).set (q * 60 + t) (.int .u8 (x : Int)) = bytes (grid i (putF (mdX i p F0 er t) 0 t m (q + 1))) ++ ys) := Lib.hid (by
                rw [grid_set_ys i (putF (mdX i p F0 er t) 0 t m q) ys q t (UInt8.ofNat x) x (ofNat_toNat (by rw [← hx]; exact hx8)) hlt2 HT6.out, ← hx]
                have h2 := putF_succ (mdX i p F0 er t) 0 t m q
                rw [Nat.zero_add] at h2
                rw [h2])
              have HRI := Lib.hid hrow
              have HON2 := Lib.hid hon
              obtain ⟨y, hy⟩ : ∃ y, ((putF (mdX i p F0 er t) 0 t m q q t).toNat : Int) = y := ⟨_, rfl⟩
              rw [hy] at hdst
              clear hrow hon hc3 hx hlt2 hcw hy hb3 hne
              go_wp2
              go_region
              have R2' : Hid (Row ((wr.setCell ⟨gA, q * 60 + t, none⟩ (.int .u8 (x : Int))).drew) gA T0 (bytes (grid i (putF (mdX i p F0 er t) 0 t m (q + 1))) ++ ys)) := Lib.hid (by
                have h := HRI.out.set (q * 60 + t) (.int .u8 (x : Int))
                rw [HNX.out] at h
                exact h.drew)
              have O2' : Hid (Only gA w4 ((wr.setCell ⟨gA, q * 60 + t, none⟩ (.int .u8 (x : Int))).drew)) := Lib.hid (HON2.out.setCell ⟨gA, q * 60 + t, none⟩ _ (Or.inl rfl)).drew
              generalize (wr.setCell ⟨gA, q * 60 + t, none⟩ (.int .u8 (x : Int))).drew = W2 at *
              clear hcell hdst hfr HRI HON2
              go_wp2
              go_roundw
              case rel => exact ⟨q + 1, by omega, by go_num, R2'.out, O2'.out⟩
              case measure => simp [intOf]; omega
            · obtain rfl : q = i := by omega
              rw [HGR.out, HT0.out] at hrow
              have R6 := Lib.hid hrow
              have O6 := Lib.hid (O4.out.trans hon)
              have hnl2 : ¬ (q : Int) < (q : Int) := by omega
              clear hrow hon hlt2
              go_wp2
              go_roundw
              case rel => exact ⟨t + 1, by omega, by go_num, HOK1.out, R6.out, O6.out⟩
              case measure => simp [intOf]; omega
      | bad =>
        rw [hmf] at hfa hme
        have HBAD : Hid (∀ w', RRead i p S (.returned (.tuple #[.slice none 0 0, .slice none 0 0, .int .i64 8])) w') := Lib.hid fun w' => HFIN.out _ w' (fun h => by rw [hfa rfl] at h; cases h) fun _ => rfl
        have HME : Hid (∀ wx, Below wr.heap.size wr wx → ∀ v, Rd X v wx → Calls Tryz.prog 29 #[v, .int .i64 (i : Int), .int .i64 (k : Int), .slice ea E.length ec] wx fun e w' => e = .returned (.tuple #[.slice none 0 0, .slice none 0 0, .int .i64 8]) ∧ Below wx.heap.size wx w') := Lib.hid hme
        clear hrow hon hlt hX8 hXl hnx hX hco hme hmf HMB hsu hfa hna hok
        go_wp2
        refine region_invX [(0, 57), (1, 58), (2, 59), (3, 60), (4, 61), (5, 62), (6, 63), (7, 64), (8, 56), (9, 65), (10, 66), (11, 67), (12, 12), (13, 13), (14, 14)]
          (fun ii => [Is (.slice (some ⟨gA, 0, none⟩) i cA), Is (.int .i64 (t : Int)), Rd X, Is (.int .i64 (i : Int)), Is (.pointer (some ⟨w.heap.size, 0, none⟩)), Is (.int .i64 (k : Int)), Is (.slice ea E.length ec), Is (.tuple #[.slice none 0 0, .slice none 0 0, .int .i64 8]), Is (.tuple #[.slice none 0 0, .slice none 0 0, .int .i64 8]), Is (.slice none 0 0), Is (.slice none 0 0), Is (.int .i64 8), Is (.slice none 0 0), Is (.slice none 0 0), Is (.int .i64 8)].getD ii (Is undef))
          (fun w' => Below wr.heap.size wr w') (by kernel_rfl) (by kernel_rfl) (by decide) (by decide) (by kernel_rfl) rfl ?monob ((Below.refl _ _).drew) ?stepb ?finb
        case monob =>
          intro i
          match i with
          | 0 | 1 | 3 | 4 | 5 | 6 | 7 | 8 | 9 | 10 | 11 | 12 | 13 | 14 => exact Is.monot _
          | 2 => exact Rd.monot _
          | _ + 15 => exact Is.monot _
        case stepb =>
          refine List.forall_mem_cons.2 ⟨?bs0, List.forall_mem_cons.2 ⟨?bs1, List.forall_mem_cons.2 ⟨?bs2, List.forall_mem_cons.2 ⟨?bs3, List.forall_mem_cons.2 ⟨?bs4, List.forall_mem_cons.2 ⟨?bs5, List.forall_mem_cons.2 ⟨?bs6, List.forall_mem_cons.2 ⟨?bs7, List.forall_mem_cons.2 ⟨?bs8, List.forall_mem_cons.2 ⟨?bs9, List.forall_mem_cons.2 ⟨?bs10, List.forall_mem_cons.2 ⟨?bs11, List.forall_mem_cons.2 ⟨?bs12, List.forall_mem_cons.2 ⟨?bs13, List.forall_mem_cons.2 ⟨?bs14, List.forall_mem_nil _⟩⟩⟩⟩⟩⟩⟩⟩⟩⟩⟩⟩⟩⟩⟩
          case bs0 =>
            intro u wx hg hC
            clear hC
            refine wpOp_step rfl (fun K hK => ?_)
            simp only [puts, List.foldl]
            go_simp
            exact hK _ _ ⟨rfl, rfl, hg, Below.refl _ _⟩
          case bs1 =>
            intro u wx hg hC
            clear hC
            refine wpOp_step rfl (fun K hK => ?_)
            simp only [puts, List.foldl]
            go_simp
            exact hK _ _ ⟨rfl, rfl, hg, Below.refl _ _⟩
          case bs2 =>
            intro u wx hg hC
            have hJ0 : u 0 = (.slice (some ⟨gA, 0, none⟩) i cA) := hC.at 0 (by kernel_rfl)
            have hJ1 : u 1 = (.int .i64 (t : Int)) := hC.at 1 (by kernel_rfl)
            clear hC
            refine wpOp_step rfl (fun K hK => ?_)
            simp only [puts, List.foldl]
            go_simp
            refine (HCO.out wx hg).mono ?_
            rintro e w' ⟨⟨v, rfl, hv⟩, hb'⟩
            exact hK _ _ ⟨rfl, hv, hg.next hb', hb'⟩
          case bs3 =>
            intro u wx hg hC
            clear hC
            refine wpOp_step rfl (fun K hK => ?_)
            simp only [puts, List.foldl]
            go_simp
            exact hK _ _ ⟨rfl, rfl, hg, Below.refl _ _⟩
          case bs4 =>
            intro u wx hg hC
            clear hC
            refine wpOp_step rfl (fun K hK => ?_)
            simp only [puts, List.foldl]
            go_simp
            exact hK _ _ ⟨rfl, rfl, hg, Below.refl _ _⟩
          case bs5 =>
            intro u wx hg hC
            have hJ4 : u 4 = (.pointer (some ⟨w.heap.size, 0, none⟩)) := hC.at 4 (by kernel_rfl)
            clear hC
            have hcl : wx.cell? ⟨w.heap.size, 0, none⟩ = some (.int .i64 (k : Int)) := (hg.cell (p := ⟨w.heap.size, 0, none⟩) HLT.out).trans C0.out
            refine wpOp_step rfl (fun K hK => ?_)
            simp only [puts, List.foldl]
            go_simp
            exact hK _ _ ⟨rfl, rfl, hg, Below.refl _ _⟩
          case bs6 =>
            intro u wx hg hC
            clear hC
            refine wpOp_step rfl (fun K hK => ?_)
            simp only [puts, List.foldl]
            go_simp
            exact hK _ _ ⟨rfl, rfl, hg, Below.refl _ _⟩
          case bs7 =>
            intro u wx hg hC
            have hJ2 : (Rd X) (u 2) wx := hC.at 2 (by kernel_rfl)
            have hJ3 : u 3 = (.int .i64 (i : Int)) := hC.at 3 (by kernel_rfl)
            have hJ5 : u 5 = (.int .i64 (k : Int)) := hC.at 5 (by kernel_rfl)
            have hJ6 : u 6 = (.slice ea E.length ec) := hC.at 6 (by kernel_rfl)
            clear hC
            refine wpOp_step rfl (fun K hK => ?_)
            simp only [puts, List.foldl]
            go_simp
            refine (HME.out wx hg _ hJ2).mono ?_
            rintro e w' ⟨rfl, hb'⟩
            exact hK _ _ ⟨rfl, rfl, hg.next hb', hb'⟩
          case bs8 =>
            intro u wx hg hC
            have hJ7 : u 7 = (.tuple #[.slice none 0 0, .slice none 0 0, .int .i64 8]) := hC.at 7 (by kernel_rfl)
            clear hC
            refine wpOp_step rfl (fun K hK => ?_)
            simp only [puts, List.foldl]
            go_simp
            exact hK _ _ ⟨rfl, rfl, hg, Below.refl _ _⟩
          case bs9 =>
            intro u wx hg hC
            have hJ8 : u 8 = (.tuple #[.slice none 0 0, .slice none 0 0, .int .i64 8]) := hC.at 8 (by kernel_rfl)
            clear hC
            refine wpOp_step rfl (fun K hK => ?_)
            simp only [puts, List.foldl]
            go_simp
            exact hK _ _ ⟨rfl, rfl, hg, Below.refl _ _⟩
          case bs10 =>
            intro u wx hg hC
            have hJ8 : u 8 = (.tuple #[.slice none 0 0, .slice none 0 0, .int .i64 8]) := hC.at 8 (by kernel_rfl)
            clear hC
            refine wpOp_step rfl (fun K hK => ?_)
            simp only [puts, List.foldl]
            go_simp
            exact hK _ _ ⟨rfl, rfl, hg, Below.refl _ _⟩
          case bs11 =>
            intro u wx hg hC
            have hJ8 : u 8 = (.tuple #[.slice none 0 0, .slice none 0 0, .int .i64 8]) := hC.at 8 (by kernel_rfl)
            clear hC
            refine wpOp_step rfl (fun K hK => ?_)
            simp only [puts, List.foldl]
            go_simp
            exact hK _ _ ⟨rfl, rfl, hg, Below.refl _ _⟩
          case bs12 =>
            intro u wx hg hC
            have hJ9 : u 9 = (.slice none 0 0) := hC.at 9 (by kernel_rfl)
            clear hC
            refine wpOp_step rfl (fun K hK => ?_)
            simp only [puts, List.foldl]
            go_simp
            exact hK _ _ ⟨rfl, rfl, hg, Below.refl _ _⟩
          case bs13 =>
            intro u wx hg hC
            have hJ10 : u 10 = (.slice none 0 0) := hC.at 10 (by kernel_rfl)
            clear hC
            refine wpOp_step rfl (fun K hK => ?_)
            simp only [puts, List.foldl]
            go_simp
            exact hK _ _ ⟨rfl, rfl, hg, Below.refl _ _⟩
          case bs14 =>
            intro u wx hg hC
            have hJ11 : u 11 = (.int .i64 8) := hC.at 11 (by kernel_rfl)
            clear hC
            refine wpOp_step rfl (fun K hK => ?_)
            simp only [puts, List.foldl]
            go_simp
            exact hK _ _ ⟨rfl, rfl, hg, Below.refl _ _⟩
        case finb =>
          intro u w4 hb4 hφ
          have e14 : u 14 = .int .i64 8 := hφ (14, 14) (by decide)
          clear hφ
          simp only [puts, List.foldl]
          rw [e14]
          go_simp
          have HB4 := Lib.hid (HBWR.out.next hb4)
          clear hb4 e14
          go_wp2
          go_ret3
          exact ⟨HBAD.out _, HB4.out⟩
    · obtain rfl : t = 60 := by omega
      obtain ⟨w6, rfl⟩ : ∃ x, x = wr := ⟨_, rfl⟩
      rw [mdX_full] at hrow
      have hFN : ∀ w' vs c, Lies w' w'.heap.size (some ⟨gA, 0, none⟩) (bytes (grid i (mdF i p F0 er))) → IReads w' vs (badL S (mdF i p F0 er) i) → RRead i p S (.returned (.tuple #[.slice (some ⟨gA, 0, none⟩) i c, vs, .int .i64 0])) w' := fun w' vs c h1 h2 => HFIN.out _ w' (fun _ => ⟨gA, c, vs, rfl, h1, h2⟩) fun h => by rw [hok] at h; cases h
      generalize mdF i p F0 er = F1 at hrow hFN
      have HFN := Lib.hid hFN
      have HROW := Lib.hid hrow
      have hnl6 : ¬ (60 : Int) < 60 := by omega
      clear hrow hon hok hFN HFIN ht hlt
      go_wp2
      go_loopw [16, 17] (fun v x wr => ∃ j : Nat, j ≤ i ∧ x = .int .i64 j ∧ wr.ownsRow w6.heap.size 3 1 v (badL S F1 j).length (nats (badL S F1 j)) ∧ Below w6.heap.size w6 wr) (fun _ x _ => i - (intOf x).toNat)
      case atStart => exact ⟨0, Nat.zero_le _, rfl, own_zero w6 _, alloc_below _ _⟩
      case round =>
      obtain ⟨j, hj, rfl, hown, hbj⟩ := hrel
      by_cases hlt : j < i
      · have hjj : (j : Int) < (i : Int) := by omega
        have hjL : j < L.length := by rw [HLL.out]; exact hlt
        obtain ⟨bl, off, rfl, hbb, hc⟩ := HR.out (by rw [strs_length]; omega)
        have hcl : wr.cell? ⟨bl, off + j, none⟩ = some (.string L[j]) := ((HBWR.out.next hbj).cell (p := ⟨bl, off + j, none⟩) hbb).trans (hc j _ (strs_get L j hjL))
        have hlb : bl < wr.heap.size := Nat.lt_of_lt_of_le hbb (HBWR.out.next hbj).size
        have hti := HTL.out j hjL
        have hrg : ∀ u, Below wr.heap.size wr u → u.rangeAt gA (j * 60) (bytes (bkF F1 j)) := fun u hu => by
          have hx := HROW.out.step (hbj.next hu)
          have := grid_range (w := u) (bl := gA) (off := 0) (n := i) (f := F1) (fun l q hl => by rw [Nat.zero_add, hx.cell, List.getElem?_append_left (List.getElem?_eq_some_iff.1 hl).1]; exact hl) j hlt
          rwa [Nat.zero_add] at this
        have hse : ∀ u, Calls Tryz.prog 31 #[.agg (bytes (bkF F1 j)).toArray] u fun e w' => e = .returned (.string (str (sealB (bkF F1 j)))) ∧ Below u.heap.size u w' := fun u => refTSeal_any _ u (bkF_length _ _)
        have LBB : Hid ((bytes (bkF F1 j)).length = 60) := Lib.hid (by rw [bytes_length, bkF_length])
        have hbs := badL_succ S F1 j
        have hbl := badL_le S F1 j
        have heqv : (S.getD j [] = sealB (bkF F1 j)) ↔ str (sealB (bkF F1 j)) = L[j] := by
          rw [hti]
          constructor
          · intro h; rw [← h, str_of]
          · intro h; rw [← h, str_list]
        obtain ⟨T2, hT2⟩ : ∃ T, L[j] = T := ⟨_, rfl⟩
        rw [hT2] at hcl heqv
        obtain ⟨T1, hT1⟩ : ∃ T, str (sealB (bkF F1 j)) = T := ⟨_, rfl⟩
        rw [hT1] at hse heqv
        obtain ⟨U, hU⟩ : ∃ U, badL S F1 j = U := ⟨_, rfl⟩
        rw [hU] at hbs hbl hown
        have HCL := Lib.hid hcl
        have HLB := Lib.hid hlb
        have HRG := Lib.hid hrg
        have HSE := Lib.hid hse
        have HOWN := Lib.hid hown
        have HBJ := Lib.hid hbj
        obtain ⟨j60, hj60⟩ : ∃ q, j * 60 = q := ⟨_, rfl⟩
        rw [hj60] at HRG
        have HJ60 := Lib.hid hj60
        by_cases heq : S.getD j [] = sealB (bkF F1 j)
        · rw [if_neg (fun h => h heq), List.append_nil] at hbs
          have HBS := Lib.hid hbs
          have hcmp : (T1.toList == T2.toList) = true := beq_yes (heqv.1 heq)
          clear hcl hlb hrg hse hown hbj hti hbs hbl heqv hT2 hT1 hU heq hbb hc hjL hlt hj60
          generalize bytes (bkF F1 j) = BB at *
          go_wp2
          refine region_invX [(0, 90), (1, 91), (2, 92), (3, 93), (4, 94), (5, 95), (6, 96), (7, 97), (8, 98), (9, 99)]
            (fun ii => [Is (.slice (some ⟨gA, 0, none⟩) i cA), Is (.int .i64 (j : Int)), Is (.pointer (some ⟨gA, j60, none⟩)), Is (.agg (BB).toArray), Is (.string T1), Is (.slice (some ⟨bl, off, none⟩) i cap), Is (.int .i64 (j : Int)), Is (.pointer (some ⟨bl, off + j, none⟩)), Is (.string T2), Is (.bool false)].getD ii (Is undef))
            (fun w' => Below wr.heap.size wr w') (by kernel_rfl) (by kernel_rfl) (by decide) (by decide) (by kernel_rfl) rfl ?monoe ((Below.refl _ _).drew) ?stepe ?fine
          case monoe =>
            intro i
            match i with
            | 0 | 1 | 2 | 3 | 4 | 5 | 6 | 7 | 8 | 9 => exact Is.monot _
            | _ + 10 => exact Is.monot _
          case stepe =>
            refine List.forall_mem_cons.2 ⟨?es0, List.forall_mem_cons.2 ⟨?es1, List.forall_mem_cons.2 ⟨?es2, List.forall_mem_cons.2 ⟨?es3, List.forall_mem_cons.2 ⟨?es4, List.forall_mem_cons.2 ⟨?es5, List.forall_mem_cons.2 ⟨?es6, List.forall_mem_cons.2 ⟨?es7, List.forall_mem_cons.2 ⟨?es8, List.forall_mem_cons.2 ⟨?es9, List.forall_mem_nil _⟩⟩⟩⟩⟩⟩⟩⟩⟩⟩
            case es0 =>
              intro u wx hg hC
              clear hC
              refine wpOp_step rfl (fun K hK => ?_)
              simp only [puts, List.foldl]
              go_simp
              exact hK _ _ ⟨rfl, rfl, hg, Below.refl _ _⟩
            case es1 =>
              intro u wx hg hC
              clear hC
              refine wpOp_step rfl (fun K hK => ?_)
              simp only [puts, List.foldl]
              go_simp
              exact hK _ _ ⟨rfl, rfl, hg, Below.refl _ _⟩
            case es2 =>
              intro u wx hg hC
              have hJ0 : u 0 = (.slice (some ⟨gA, 0, none⟩) i cA) := hC.at 0 (by kernel_rfl)
              have hJ1 : u 1 = (.int .i64 (j : Int)) := hC.at 1 (by kernel_rfl)
              clear hC
              have hjm := HJ60.out
              refine wpOp_step rfl (fun K hK => ?_)
              simp only [puts, List.foldl]
              go_simp
              exact hK _ _ ⟨rfl, rfl, hg, Below.refl _ _⟩
            case es3 =>
              intro u wx hg hC
              have hJ2 : u 2 = (.pointer (some ⟨gA, j60, none⟩)) := hC.at 2 (by kernel_rfl)
              clear hC
              generalize hA : puts [(0, 90), (1, 91), (2, 92), (3, 93), (4, 94), (5, 95), (6, 96), (7, 97), (8, 98), (9, 99)] _ u = A
              have hp : A.tmps.getD 92 undef = (.pointer (some ⟨gA, j60, none⟩)) := by rw [← hA]; exact (puts_get u 2 92 _ _ (by decide) (by decide) (by kernel_rfl)).trans hJ2
              have hsz : 93 < A.tmps.size := by rw [← hA]; exact puts_room u (by kernel_rfl)
              refine wpOp_step rfl (fun K hK => ?_)
              clear hA
              exact opLoadRK (φ := Is (.agg (BB).toArray)) ((HRG.out wx hg)) _ (fits_block) (LBB.out) 93 rfl hsz hK (.tmp 92) rfl hp rfl hg
            case es4 =>
              intro u wx hg hC
              have hJ3 : u 3 = (.agg (BB).toArray) := hC.at 3 (by kernel_rfl)
              clear hC
              refine wpOp_step rfl (fun K hK => ?_)
              simp only [puts, List.foldl]
              go_simp
              refine (HSE.out wx).mono ?_
              rintro e w' ⟨rfl, hb'⟩
              exact hK _ _ ⟨rfl, rfl, hg.next hb', hb'⟩
            case es5 =>
              intro u wx hg hC
              clear hC
              refine wpOp_step rfl (fun K hK => ?_)
              simp only [puts, List.foldl]
              go_simp
              exact hK _ _ ⟨rfl, rfl, hg, Below.refl _ _⟩
            case es6 =>
              intro u wx hg hC
              clear hC
              refine wpOp_step rfl (fun K hK => ?_)
              simp only [puts, List.foldl]
              go_simp
              exact hK _ _ ⟨rfl, rfl, hg, Below.refl _ _⟩
            case es7 =>
              intro u wx hg hC
              have hJ5 : u 5 = (.slice (some ⟨bl, off, none⟩) i cap) := hC.at 5 (by kernel_rfl)
              have hJ6 : u 6 = (.int .i64 (j : Int)) := hC.at 6 (by kernel_rfl)
              clear hC
              refine wpOp_step rfl (fun K hK => ?_)
              simp only [puts, List.foldl]
              go_simp
              exact hK _ _ ⟨rfl, rfl, hg, Below.refl _ _⟩
            case es8 =>
              intro u wx hg hC
              have hJ7 : u 7 = (.pointer (some ⟨bl, off + j, none⟩)) := hC.at 7 (by kernel_rfl)
              clear hC
              have hcl : wx.cell? ⟨bl, off + j, none⟩ = some (.string T2) := (hg.cell (p := ⟨bl, off + j, none⟩) HLB.out).trans HCL.out
              refine wpOp_step rfl (fun K hK => ?_)
              simp only [puts, List.foldl]
              go_simp
              exact hK _ _ ⟨rfl, rfl, hg, Below.refl _ _⟩
            case es9 =>
              intro u wx hg hC
              have hJ4 : u 4 = (.string T1) := hC.at 4 (by kernel_rfl)
              have hJ8 : u 8 = (.string T2) := hC.at 8 (by kernel_rfl)
              clear hC
              refine wpOp_step rfl (fun K hK => ?_)
              simp only [puts, List.foldl]
              go_simp
              exact hK _ _ ⟨rfl, rfl, hg, Below.refl _ _⟩
          case fine =>
            intro u w4 hb4 hφ
            have e99 : u 9 = .bool false := hφ (9, 99) (by decide)
            clear hφ
            simp only [puts, List.foldl]
            rw [e99]
            go_simp
            have O4 := Lib.hid (own_below HOWN.out hb4)
            have B4 := Lib.hid (HBJ.out.next hb4)
            clear hb4 e99
            go_wp2
            go_roundw
            case rel => exact ⟨j + 1, by omega, by go_num, by rw [HBS.out]; exact O4.out, B4.out⟩
            case measure => simp [intOf]; omega
        · rw [if_pos heq] at hbs
          have HBS := Lib.hid hbs
          have HPK : Big (U.length + 1 ≤ 1099511627776) := ⟨by have := HN14.out; omega⟩
          have HSN : Hid (nats U ++ [.int .i64 (j : Int)] = nats (badL S F1 (j + 1))) := Lib.hid (by rw [hbs, nats_snoc])
          have HLN : Hid (U.length + 1 = (badL S F1 (j + 1)).length) := Lib.hid (by rw [hbs, List.length_append]; rfl)
          have HO1 : Hid ((Value.int .i64 (j : Int)).oneCell' = true) := Lib.hid rfl
          have hcmp : (T1.toList == T2.toList) = false := beq_no (fun h => heq (heqv.2 h))
          obtain ⟨P2, hP2⟩ : ∃ P, badL S F1 (j + 1) = P := ⟨_, rfl⟩
          rw [hP2] at HSN HLN
          have HP2 := Lib.hid hP2
          clear hcl hlb hrg hse hown hbj hti hbs hbl heqv hT2 hT1 hU heq hbb hc hjL hlt HBS hP2 hj60
          generalize bytes (bkF F1 j) = BB at *
          go_wp2
          refine region_invX [(0, 90), (1, 91), (2, 92), (3, 93), (4, 94), (5, 95), (6, 96), (7, 97), (8, 98), (9, 99)]
            (fun ii => [Is (.slice (some ⟨gA, 0, none⟩) i cA), Is (.int .i64 (j : Int)), Is (.pointer (some ⟨gA, j60, none⟩)), Is (.agg (BB).toArray), Is (.string T1), Is (.slice (some ⟨bl, off, none⟩) i cap), Is (.int .i64 (j : Int)), Is (.pointer (some ⟨bl, off + j, none⟩)), Is (.string T2), Is (.bool true)].getD ii (Is undef))
            (fun w' => Below wr.heap.size wr w') (by kernel_rfl) (by kernel_rfl) (by decide) (by decide) (by kernel_rfl) rfl ?monon ((Below.refl _ _).drew) ?stepn ?finn
          case monon =>
            intro i
            match i with
            | 0 | 1 | 2 | 3 | 4 | 5 | 6 | 7 | 8 | 9 => exact Is.monot _
            | _ + 10 => exact Is.monot _
          case stepn =>
            refine List.forall_mem_cons.2 ⟨?ns0, List.forall_mem_cons.2 ⟨?ns1, List.forall_mem_cons.2 ⟨?ns2, List.forall_mem_cons.2 ⟨?ns3, List.forall_mem_cons.2 ⟨?ns4, List.forall_mem_cons.2 ⟨?ns5, List.forall_mem_cons.2 ⟨?ns6, List.forall_mem_cons.2 ⟨?ns7, List.forall_mem_cons.2 ⟨?ns8, List.forall_mem_cons.2 ⟨?ns9, List.forall_mem_nil _⟩⟩⟩⟩⟩⟩⟩⟩⟩⟩
            case ns0 =>
              intro u wx hg hC
              clear hC
              refine wpOp_step rfl (fun K hK => ?_)
              simp only [puts, List.foldl]
              go_simp
              exact hK _ _ ⟨rfl, rfl, hg, Below.refl _ _⟩
            case ns1 =>
              intro u wx hg hC
              clear hC
              refine wpOp_step rfl (fun K hK => ?_)
              simp only [puts, List.foldl]
              go_simp
              exact hK _ _ ⟨rfl, rfl, hg, Below.refl _ _⟩
            case ns2 =>
              intro u wx hg hC
              have hJ0 : u 0 = (.slice (some ⟨gA, 0, none⟩) i cA) := hC.at 0 (by kernel_rfl)
              have hJ1 : u 1 = (.int .i64 (j : Int)) := hC.at 1 (by kernel_rfl)
              clear hC
              have hjm := HJ60.out
              refine wpOp_step rfl (fun K hK => ?_)
              simp only [puts, List.foldl]
              go_simp
              exact hK _ _ ⟨rfl, rfl, hg, Below.refl _ _⟩
            case ns3 =>
              intro u wx hg hC
              have hJ2 : u 2 = (.pointer (some ⟨gA, j60, none⟩)) := hC.at 2 (by kernel_rfl)
              clear hC
              generalize hA : puts [(0, 90), (1, 91), (2, 92), (3, 93), (4, 94), (5, 95), (6, 96), (7, 97), (8, 98), (9, 99)] _ u = A
              have hp : A.tmps.getD 92 undef = (.pointer (some ⟨gA, j60, none⟩)) := by rw [← hA]; exact (puts_get u 2 92 _ _ (by decide) (by decide) (by kernel_rfl)).trans hJ2
              have hsz : 93 < A.tmps.size := by rw [← hA]; exact puts_room u (by kernel_rfl)
              refine wpOp_step rfl (fun K hK => ?_)
              clear hA
              exact opLoadRK (φ := Is (.agg (BB).toArray)) ((HRG.out wx hg)) _ (fits_block) (LBB.out) 93 rfl hsz hK (.tmp 92) rfl hp rfl hg
            case ns4 =>
              intro u wx hg hC
              have hJ3 : u 3 = (.agg (BB).toArray) := hC.at 3 (by kernel_rfl)
              clear hC
              refine wpOp_step rfl (fun K hK => ?_)
              simp only [puts, List.foldl]
              go_simp
              refine (HSE.out wx).mono ?_
              rintro e w' ⟨rfl, hb'⟩
              exact hK _ _ ⟨rfl, rfl, hg.next hb', hb'⟩
            case ns5 =>
              intro u wx hg hC
              clear hC
              refine wpOp_step rfl (fun K hK => ?_)
              simp only [puts, List.foldl]
              go_simp
              exact hK _ _ ⟨rfl, rfl, hg, Below.refl _ _⟩
            case ns6 =>
              intro u wx hg hC
              clear hC
              refine wpOp_step rfl (fun K hK => ?_)
              simp only [puts, List.foldl]
              go_simp
              exact hK _ _ ⟨rfl, rfl, hg, Below.refl _ _⟩
            case ns7 =>
              intro u wx hg hC
              have hJ5 : u 5 = (.slice (some ⟨bl, off, none⟩) i cap) := hC.at 5 (by kernel_rfl)
              have hJ6 : u 6 = (.int .i64 (j : Int)) := hC.at 6 (by kernel_rfl)
              clear hC
              refine wpOp_step rfl (fun K hK => ?_)
              simp only [puts, List.foldl]
              go_simp
              exact hK _ _ ⟨rfl, rfl, hg, Below.refl _ _⟩
            case ns8 =>
              intro u wx hg hC
              have hJ7 : u 7 = (.pointer (some ⟨bl, off + j, none⟩)) := hC.at 7 (by kernel_rfl)
              clear hC
              have hcl : wx.cell? ⟨bl, off + j, none⟩ = some (.string T2) := (hg.cell (p := ⟨bl, off + j, none⟩) HLB.out).trans HCL.out
              refine wpOp_step rfl (fun K hK => ?_)
              simp only [puts, List.foldl]
              go_simp
              exact hK _ _ ⟨rfl, rfl, hg, Below.refl _ _⟩
            case ns9 =>
              intro u wx hg hC
              have hJ4 : u 4 = (.string T1) := hC.at 4 (by kernel_rfl)
              have hJ8 : u 8 = (.string T2) := hC.at 8 (by kernel_rfl)
              clear hC
              refine wpOp_step rfl (fun K hK => ?_)
              simp only [puts, List.foldl]
              go_simp
              exact hK _ _ ⟨rfl, rfl, hg, Below.refl _ _⟩
          case finn =>
            intro u w4 hb4 hφ
            have e99 : u 9 = .bool true := hφ (9, 99) (by decide)
            clear hφ
            simp only [puts, List.foldl]
            rw [e99]
            go_simp
            have OA := Lib.hid (own_below (own_below HOWN.out hb4) (alloc_below w4 (.cells #[.int .i64 (j : Int)] 3)))
            have LA := Lib.hid (Lies.new [Value.int .i64 (j : Int)] w4 3)
            have BA := Lib.hid ((HBJ.out.next hb4).next (alloc_below w4 (.cells #[.int .i64 (j : Int)] 3)))
            have ZA := Lib.hid BA.out.size
            clear hb4 e99
            go_wp2_with ((with_reducible refine wpAppend1K OA.out Tryz.underlying38 one_int LA.out HO1.out HPK ZA.out ?_ ?_); rfl; intro v3 w5 g1 g2 g3; rw [HSN.out, HLN.out] at g1; have G1 := Lib.hid g1; have B5 : Hid (Below w6.heap.size w6 w5) := Lib.hid (BA.out.grown g2 ZA.out (fun q hq => (OA.out.lt q hq).1)); clear g1 g2 g3)
            go_roundw
            case rel => exact ⟨j + 1, by omega, by go_num, by rw [HP2.out]; exact G1.out, B5.out⟩
            case measure => simp [intOf]; omega
      · obtain rfl : j = i := by omega
        obtain ⟨av, cv, rfl, hcv, hlv⟩ := own_form2 hown
        have HV : Hid (IReads wr (.slice av (badL S F1 j).length cv) (badL S F1 j)) := Lib.hid ⟨av, cv, rfl, hcv, hlv⟩
        have HLA : Hid (Lies wr wr.heap.size (some ⟨gA, 0, none⟩) (bytes (grid j F1))) := Lib.hid (rs_lies (HROW.out.step hbj))
        have HBF := Lib.hid (HBWR.out.next hbj)
        clear hown hbj hcv hlv hlt hj
        go_wp2
        go_ret3
        exact ⟨HFN.out _ _ _ HLA.out HV.out, HBF.out⟩
end Go.Proofs.YtnbjaijhdjneoaaGreat

namespace Go.Proofs.YtnbjaijhdjneoaaGreat
open Go.RowKit CrcMath GfMath PolyMath RsMath SolMath GeoMath Go.Maps
set_option linter.unusedVariables false
set_option linter.unusedSimpArgs false
set_option maxRecDepth 100000

theorem fits_tu : Fits Tryz.prog 66 4 := ⟨⟨_, Tryz.underlying66, rfl⟩, by kernel_rfl⟩
theorem zero_tu : ∀ u, (zeroValue 66).run Tryz.prog u = .ok (.agg ([.int .i64 0, .int .i64 0, .int .u8 0, .bool false] : List Value).toArray) u := fun u => by kernel_rfl
theorem me_one_string : One Tryz.prog 9 := One.of (by kernel_rfl)
theorem me_info_str : (Tryz.prog.info? 9).map (·.size) = some 1 := by kernel_rfl
theorem me_info_byte : (Tryz.prog.info? 5).map (·.size) = some 1 := by kernel_rfl
theorem me_str_cells (s : ByteArray) : (Value.string s).cells = #[.string s] := rfl
theorem me_str_one (s : ByteArray) : (Value.string s).oneCell' = true := rfl
theorem me_row_grown {w w' : World} {g B : Nat} {t : TypeId} {l : List Value} (h : Row w g t l) (hg : w.grownBy w' (some B)) (hne : g ≠ B) : Row w' g t l := (hg.block g h.lt (fun e => hne (Option.some.inj e))).trans h
theorem me_set {n : Nat} {M : List ByteArray} {z : List Value} {i : Nat} (hM : Sx n M) (hi : i < n) (T : ByteArray) : (strs M ++ z).set i (.string T) = strs (M.set i T) ++ z := by
  rw [List.set_append_left _ _ (by rw [strs_length, hM.1]; exact hi)]
  unfold strs
  rw [List.map_set]
theorem me_get {n : Nat} {M : List ByteArray} {z : List Value} {i : Nat} (hM : Sx n M) (hi : i < n) : (strs M ++ z)[i]? = some (.string (M.getD i ByteArray.empty)) := by
  rw [List.getElem?_append_left (by rw [strs_length, hM.1]; exact hi), strs_get _ _ (by rw [hM.1]; exact hi), List.getD_eq_getElem?_getD, List.getElem?_eq_getElem (by rw [hM.1]; exact hi)]
  rfl
set_option maxHeartbeats 4000000 in
theorem turned_any (gs n capl : Nat) (L : List ByteArray) (at_ : Option Addr) (nt ct : Nat) (ts : List Tu) (w : World) (hn : 3 ≤ n) (hn14 : n ≤ 14) (hL : Sx n L) (hr : Row w gs 9 (strs L)) (hts : ts.length = nt) (hnt : nt ≤ 60) (ht : Lies w w.heap.size at_ (tucs ts)) :
    Calls Tryz.prog 8 #[.slice (some ⟨gs, 0, none⟩) n capl, .slice at_ nt ct] w fun e w' =>
      (∃ g c2 B z, e = .returned (.tuple #[.slice (some ⟨g, 0, none⟩) n c2, .map (some B)]) ∧ n ≤ c2 ∧ Row w' g 9 (strs (tuF n L ts) ++ z) ∧ SeenG KM w' B (neN L (tuF n L ts) n) (neK L (tuF n L ts) n)) ∧ Below w.heap.size w w' := by
  have HR := Lib.hid hr
  have HT := Lib.hid ht
  have HTS := Lib.hid hts
  have HSX := Lib.hid hL
  have HSXK : Hid (∀ k, Sx n (tuF n L (ts.take k))) := Lib.hid fun k => hL.all
  have HNX : Hid (∀ k (h : k < ts.length), tuF n L (ts.take (k + 1)) = tuStep n (tuF n L (ts.take k)) ts[k]) := Lib.hid fun k h => tuF_next n L ts k h
  have HEND : Hid (tuF n L (ts.take nt) = tuF n L ts) := Lib.hid (by rw [← hts, List.take_length])
  have H00 : Hid (tuF n L (ts.take 0) = L) := Lib.hid rfl
  have hni : (n : Int) ≤ 14 := by omega
  have hn0 : 3 ≤ (n : Int) := by omega
  have hnti : (nt : Int) ≤ 60 := by omega
  have HL : Hid ((strs L).length = n) := Lib.hid (by rw [strs_length]; exact hL.1)
  have H0 : Hid (0 < n) := Lib.hid (by omega)
  have H1 : Hid ((strs L).all (·.oneCell') = true) := Lib.hid (by unfold strs; rw [List.all_map]; exact List.all_eq_true.2 fun _ _ => rfl)
  have HN : Big (0 + n ≤ 1099511627776) := ⟨by omega⟩
  have HRP : Hid (∀ u, Calls Tryz.prog 13 #[.string { data := #[255] }, .int .i64 64] u fun e w' => e = .returned (.string (str (List.replicate 64 255))) ∧ Below u.heap.size u w') := Lib.hid fun u => tag_rep 255 64 u (by omega)
  have HBL : Hid ((str (List.replicate 64 255)).data.toList.length = (str (List.replicate 64 255)).size) := Lib.hid (size_list _)
  have HBS : Hid (str (str (List.replicate 64 255)).data.toList = str (List.replicate 64 255)) := Lib.hid (str_of _)
  generalize hBLX : str (List.replicate 64 255) = BL at *
  have HBLX := Lib.hid hBLX
  have HLI : Hid (Lies w w.heap.size (some ⟨gs, 0, none⟩) (strs L)) := Lib.hid fun _ => ⟨gs, 0, rfl, hr.lt, fun j u hj => by rw [Nat.zero_add, hr.cell]; exact hj⟩
  obtain ⟨B0, hB⟩ : ∃ B, B = w.heap.size := ⟨_, rfl⟩
  have HB := Lib.hid hB
  have HOW : Hid (∀ (t : TypeId) (u : World), u.heap.size = B0 → t = 9 → (u.alloc (.cells #[] t)).ownsRow B0 9 1 (.slice (some ⟨u.heap.size, 0, none⟩) 0 0) 0 []) := Lib.hid (by
    intro t u hu ht
    subst ht
    exact Row.owns (xs := []) (ys := []) (Row.new u _ []) (by omega) rfl rfl (Nat.le_refl _) (by unfold maxLen; omega))
  have hmm := @run_makeMap Tryz.prog
  clear hn hn14 hL hr hts hnt ht hB hBLX
  go_enter Tryz.func8, Tryz.ntmps8
  go_wp2_with ((with_reducible refine wpAppendK capl (HOW.out 9 w HB.out.symm rfl) Tryz.underlying32 me_one_string (HLI.out.step (alloc_below _ _)) HL.out H0.out H1.out HN (by rw [HB.out]; exact (alloc_below w _).size) ?_ ?_); rfl; intro v1 u1 g1 g2 g3; have G1 := Lib.hid g1; have G2 := Lib.hid g2; clear g1 g2 g3)
  have hbel : Below w.heap.size w u1 := (alloc_below w _).grown G2.out (by simp) (fun k hk => by cases hk; exact Nat.le_refl _)
  have h1 := G1.out
  rw [Nat.zero_add, List.nil_append, HB.out] at h1
  obtain ⟨g, c2, hv, hge, hnc⟩ : ∃ g c2, v1 = .slice (some ⟨g, 0, none⟩) n c2 ∧ w.heap.size ≤ g ∧ n ≤ c2 := by
    rcases h1.2 with ⟨rfl, h2⟩ | ⟨g', cap', cur, rfl, h3, _, h4, _⟩
    · exact absurd h2 (by have := H0.out; omega)
    · exact ⟨g', cap', rfl, h3, h4⟩
  subst hv
  have HNC := Lib.hid hnc
  obtain ⟨z, hrow⟩ := (own_row h1).2
  have R1 := Lib.hid hrow
  have BE1 := Lib.hid hbel
  have HGE := Lib.hid hge
  clear h1 hbel hrow hge hnc G1 G2 HOW HB
  obtain ⟨B, hBm⟩ : ∃ B, u1.heap.size = B := ⟨_, rfl⟩
  have SM1 : Hid (SeenG KM (u1.alloc (.map #[] 0)) B 0 (fun _ => false)) := Lib.hid (by rw [← hBm]; exact SeenG.made u1)
  have R2 : Hid (Row (u1.alloc (.map #[] 0)) g 9 (strs (tuF n L (ts.take 0)) ++ z)) := Lib.hid (by rw [H00.out]; exact R1.out.step (alloc_below _ _))
  have BE2 : Hid (Below w.heap.size w (u1.alloc (.map #[] 0))) := Lib.hid (BE1.out.next (alloc_below _ _))
  have HGB : Hid (g ≠ B) := Lib.hid (by have := R1.out.lt; omega)
  have HWB : Hid (w.heap.size ≤ B) := Lib.hid (by rw [← hBm]; exact BE1.out.size)
  clear H00 H1 HN HL HLI
  go_wp2
  rw [hBm]
  go_loopw [18] (fun i wr => ∃ k : Nat, k ≤ nt ∧ i = .int .i64 k ∧ Row wr g 9 (strs (tuF n L (ts.take k)) ++ z) ∧ SeenG KM wr B 0 (fun _ => false) ∧ Below w.heap.size w wr) (fun i _ => nt - (intOf i).toNat)
  case atStart => exact ⟨0, Nat.zero_le _, rfl, R2.out, SM1.out, BE2.out⟩
  case round =>
    clear R1 BE1 R2 SM1 BE2 hBm
    obtain ⟨k, hk, rfl, hrw, hsm, hbw⟩ := hrel
    have RW := Lib.hid hrw
    have SM := Lib.hid hsm
    have HBW := Lib.hid hbw
    clear hrw hsm hbw
    by_cases hlt : k < nt
    · have hk1 : (k : Int) < (nt : Int) := by omega
      have hkl : Hid (k < ts.length) := Lib.hid (by rw [HTS.out]; exact hlt)
      obtain ⟨b2, off, rfl, hbb, hc⟩ := HT.out (by rw [tucs_length, HTS.out]; omega)
      have HRG : Hid (wr.rangeAt b2 (off + k * 4) (tuv (ts[k]'hkl.out))) := Lib.hid (tucs_at (w := wr) (fun j u hj => (HBW.out.cell (p := ⟨b2, off + j, none⟩) hbb).trans (hc j u hj)) k hkl.out)
      have HNXK := Lib.hid (HNX.out k hkl.out)
      have HSK := Lib.hid (HSXK.out k)
      obtain ⟨⟨sec, a_, by_, al⟩, hx⟩ : ∃ r, ts[k]'hkl.out = r := ⟨_, rfl⟩
      rw [hx] at HRG HNXK
      have HRG2 : Hid (wr.rangeAt b2 (off + k * 4) [.int .i64 sec, .int .i64 a_, .int .u8 (by_.toNat : Int), .bool al]) := HRG
      generalize tuF n L (ts.take k) = M at *
      clear hc hx HRG HT HNX HSXK HEND
      by_cases hok : tuOk n ⟨sec, a_, by_, al⟩
      · obtain ⟨o1, o2, o3, o4⟩ := hok
        have HSTEP : Hid (tuF n L (ts.take (k + 1)) = M.set sec.toNat (tuS (M.getD sec.toNat ByteArray.empty) a_.toNat by_ al)) := Lib.hid (by rw [HNXK.out]; unfold tuStep; rw [if_pos ⟨o1, o2, o3, o4⟩])
        dsimp only at o1 o2 o3 o4
        obtain ⟨i, rfl⟩ : ∃ i : Nat, sec = (i : Int) := ⟨sec.toNat, by omega⟩
        obtain ⟨a, rfl⟩ : ∃ a : Nat, a_ = (a : Int) := ⟨a_.toNat, by omega⟩
        rw [Int.toNat_natCast, Int.toNat_natCast] at HSTEP
        have hi : i < n := by omega
        have ha : a < 64 := by omega
        have n1 : ¬ (i : Int) < 0 := by omega
        have n2 : ¬ (n : Int) ≤ (i : Int) := by omega
        have n3 : ¬ (a : Int) < 0 := by omega
        have n4 : ¬ (63 : Int) < (a : Int) := by omega
        have d1 : decide ((i : Int) < 0) = false := decide_eq_false n1
        have d2 : decide ((n : Int) ≤ (i : Int)) = false := decide_eq_false n2
        have d3 : decide ((a : Int) < 0) = false := decide_eq_false n3
        have d4 : decide ((63 : Int) < (a : Int)) = false := decide_eq_false n4
        obtain ⟨S, hS⟩ : ∃ S, M.getD i ByteArray.empty = S := ⟨_, rfl⟩
        have HSZ : Hid (S.size = 64) := Lib.hid (by rw [← hS]; exact HSK.out.get hi)
        have HCELL : Hid (∀ u, Row u g 9 (strs M ++ z) → u.cell? ⟨g, i, none⟩ = some (.string S)) := Lib.hid fun u h => by rw [h.cell, me_get HSK.out hi, hS]
        rw [hS] at HSTEP
        have haS : (a : Int) < (S.size : Int) := by have := HSZ.out; omega
        have HLEN : Hid (i < (strs M ++ z).length) := Lib.hid (by rw [List.length_append, strs_length, HSK.out.1]; omega)
        have HSETM : Hid (∀ T, (strs M ++ z).set i (.string T) = strs (M.set i T) ++ z) := Lib.hid fun T => me_set HSK.out hi T
        obtain ⟨X, hX⟩ : ∃ X, S.data.toList = X := ⟨_, rfl⟩
        have HXL : Hid (X.length = S.size) := Lib.hid (by rw [← hX, size_list])
        have HAX : Hid (a < X.length) := Lib.hid (by rw [HXL.out, HSZ.out]; exact ha)
        obtain ⟨x, hxx⟩ : ∃ x, X[a]'HAX.out = x := ⟨_, rfl⟩
        have HXD : Hid (X.getD a 0 = x) := Lib.hid (by rw [List.getD_eq_getElem?_getD, List.getElem?_eq_getElem HAX.out, hxx]; rfl)
        obtain ⟨y, hy⟩ : ∃ y, x ^^^ by_ = y := ⟨_, rfl⟩
        have HTS1 : Hid (tuS S a by_ false = str (X.set a y)) := Lib.hid (by unfold tuS; rw [if_neg (by decide), hX, HXD.out, hy])
        have HTS2 : Hid (tuS S a by_ true = BL) := Lib.hid (by unfold tuS; rw [if_pos rfl, HBLX.out])
        have hxor : bits .xor .u8 (x.toNat : Int) (by_.toNat : Int) = (y.toNat : Int) := by rw [← hy, u8_xor_nat _ _ x.toNat_lt by_.toNat_lt, UInt8.toNat_xor]
        have lb := by_.toNat_lt
        have HYB := Lib.hid lb
        clear o1 o2 o3 o4 hi ha hS lb hy
        go_wp2_with (first
          | ((with_reducible refine wpLoadRK HRG2.out 66 fits_tu rfl ?_ ?_); rfl)
          | ((with_reducible refine wpAllocK (w := wr) [.int .i64 0, .int .i64 0, .int .u8 0, .bool false] 66 zero_tu ?_ ?_); rfl; intro x1 r1 b1 s1; have R1 := Lib.hid r1; have BB1 := Lib.hid b1; clear r1 b1 s1)
          | ((with_reducible refine R1.out.wpStoreK 66 [.int .i64 (i : Int), .int .i64 (a : Int), .int .u8 (by_.toNat : Int), .bool al] fits_tu rfl rfl rfl ?_ ?_); rfl; intro x2 r2 o2 s2; have BB2 : Hid (Below wr.heap.size wr x2) := Lib.hid (BB1.out.trans (o2.below (Nat.le_refl _) BB1.out.size)); have RW2 := Lib.hid (RW.out.step BB2.out); have SM2 := Lib.hid (SM.out.below BB2.out); have K2 := Lib.hid r2; have k0 : x2.cell? ⟨wr.heap.size, 0, none⟩ = some (.int .i64 (i : Int)) := r2.cell 0; have k1 : x2.cell? ⟨wr.heap.size, 1, none⟩ = some (.int .i64 (a : Int)) := r2.cell 1; have ks := HCELL.out x2 RW2.out; obtain ⟨uc, cap, hconv, hby, hbc⟩ := conv_new S x2; obtain ⟨gb, hgb⟩ : ∃ q, x2.heap.size = q := ⟨_, rfl⟩; rw [hX] at hby; rw [hgb] at hconv hby; have BY := Lib.hid hby; have BC := Lib.hid hbc; have HGBE := Lib.hid hgb; clear r2 o2 s2 hby hbc hgb))
        have RW3 := Lib.hid (RW2.out.step BC.out)
        have SM3 := Lib.hid (SM2.out.below BC.out)
        have K3 := Lib.hid (K2.out.step BC.out)
        have k1 : uc.cell? ⟨wr.heap.size, 1, none⟩ = some (.int .i64 (a : Int)) := K3.out.cell 1
        have k2 : uc.cell? ⟨wr.heap.size, 2, none⟩ = some (.int .u8 (by_.toNat : Int)) := K3.out.cell 2
        have kx : uc.cell? ⟨gb, a, none⟩ = some (.int .u8 (x.toNat : Int)) := by rw [BY.out.cell a HAX.out, hxx]
        have HNE1 : Hid (g ≠ gb ∧ B ≠ gb ∧ wr.heap.size ≠ gb ∧ w.heap.size ≤ gb) := Lib.hid (by have h1 := RW2.out.lt; have h2 := SM2.out.lt; have h3 := K2.out.lt; have h4 := HGBE.out; have h5 := (HBW.out.next BB2.out).size; omega)
        have BF3 : Hid (Below w.heap.size w uc) := Lib.hid ((HBW.out.next BB2.out).next BC.out)
        have BY0 : Hid (Bytes uc.drew gb X) := Lib.hid BY.out.drew
        have RW0 : Hid (Row uc.drew g 9 (strs M ++ z)) := Lib.hid RW3.out.drew
        have K0 : Hid (Row uc.drew wr.heap.size 66 [.int .i64 (i : Int), .int .i64 (a : Int), .int .u8 (by_.toNat : Int), .bool al]) := Lib.hid K3.out.drew
        have SM0 : Hid (SeenG KM uc.drew B 0 (fun _ => false)) := Lib.hid (SM3.out.below (Below.refl _ _).drew)
        have BF0 : Hid (Below w.heap.size w uc.drew) := Lib.hid (BF3.out.next (Below.refl _ _).drew)
        clear hconv
        go_still_tail 9, (by kernel_rfl)
        change wpList _ _ _ _ _ uc.drew
        generalize uc.drew = wq at *
        clear k1 k2 kx RW3 SM3 K3 BY BC BF3 RW2 SM2 K2 ks
        refine BY0.out.wpStore1 a 5 y me_info_byte HAX.out ?_ ?_
        · rfl
        intro y1 r1 o1 s1
        have BY1 := Lib.hid r1
        have RW4 := Lib.hid (RW0.out.only o1 HNE1.out.1)
        have K4 := Lib.hid (K0.out.only o1 HNE1.out.2.2.1)
        have SM4 : Hid (SeenG KM y1 B 0 (fun _ => false)) := Lib.hid (SM0.out.keepM (o1.2.2.2.2 B SM0.out.lt HNE1.out.2.1))
        have BF4 : Hid (Below w.heap.size w y1) := Lib.hid (BF0.out.trans (o1.below HNE1.out.2.2.2 BF0.out.size))
        have j3 : y1.cell? ⟨wr.heap.size, 3, none⟩ = some (.bool al) := K4.out.cell 3
        have j0 : y1.cell? ⟨wr.heap.size, 0, none⟩ = some (.int .i64 (i : Int)) := K4.out.cell 0
        have hcv := r1.conv (cap := cap) (n := S.size) (by rw [List.length_set]; exact HXL.out)
        clear r1 o1 s1
        cases al with
        | false =>
          rw [HTS1.out] at HSTEP
          go_wp2_with ((with_reducible refine RW4.out.wpStore1K i 9 (.string (str (X.set a y))) me_info_str HLEN.out (me_str_cells _) (me_str_one _) ?_ ?_); rfl; intro y2 r2 o2 s2; have RW5 : Hid (Row y2 g 9 (strs (tuF n L (ts.take (k + 1))) ++ z)) := Lib.hid (by rw [HSTEP.out, ← HSETM.out]; exact r2); have SM5 : Hid (SeenG KM y2 B 0 (fun _ => false)) := Lib.hid (SM4.out.keepM (o2.2.2.2.2 B SM4.out.lt HGB.out.symm)); have BF5 : Hid (Below w.heap.size w y2) := Lib.hid (BF4.out.trans (o2.below HGE.out BF4.out.size)); clear r2 o2 s2)
          go_roundw
          case rel => exact ⟨k + 1, by omega, by go_num, RW5.out, SM5.out, BF5.out⟩
          case measure => simp [intOf]; omega
        | true =>
          rw [HTS2.out] at HSTEP
          clear hcv
          go_wp2_with (first
            | (go_at_call 13; (with_reducible refine (HRP.out y1).mono ?_); rintro e y2 ⟨rfl, b2⟩; obtain ⟨y3, cap3, hconv3, hby3, hbc3⟩ := conv_new BL y2; obtain ⟨g3, hg3⟩ : ∃ q, y2.heap.size = q := ⟨_, rfl⟩; rw [hg3] at hconv3 hby3; have RW5 := Lib.hid ((RW4.out.step b2).step hbc3); have SM5 := Lib.hid ((SM4.out.below b2).below hbc3); have K5 := Lib.hid ((K4.out.step b2).step hbc3); have BF5 : Hid (Below w.heap.size w y3) := Lib.hid ((BF4.out.next b2).next hbc3); have q0 : y3.cell? ⟨wr.heap.size, 0, none⟩ = some (.int .i64 (i : Int)) := K5.out.cell 0; have hcv3 := hby3.conv (cap := cap3) HBL.out; rw [HBS.out] at hcv3; clear b2 hby3 hbc3 hg3)
            | ((with_reducible refine RW5.out.wpStore1K i 9 (.string BL) me_info_str HLEN.out (me_str_cells _) (me_str_one _) ?_ ?_); rfl; intro y4 r2 o2 s2; have RW6 : Hid (Row y4 g 9 (strs (tuF n L (ts.take (k + 1))) ++ z)) := Lib.hid (by rw [HSTEP.out, ← HSETM.out]; exact r2); have SM6 : Hid (SeenG KM y4 B 0 (fun _ => false)) := Lib.hid (SM5.out.keepM (o2.2.2.2.2 B SM5.out.lt HGB.out.symm)); have BF6 : Hid (Below w.heap.size w y4) := Lib.hid (BF5.out.trans (o2.below HGE.out BF5.out.size)); clear r2 o2 s2))
          go_roundw
          case rel => exact ⟨k + 1, by omega, by go_num, RW6.out, SM6.out, BF6.out⟩
          case measure => simp [intOf]; omega
      · have HSTEP : Hid (tuF n L (ts.take (k + 1)) = M) := Lib.hid (by rw [HNXK.out]; unfold tuStep; rw [if_neg hok])
        have hcase : sec < 0 ∨ (¬ sec < 0 ∧ (n : Int) ≤ sec) ∨ (¬ sec < 0 ∧ ¬ (n : Int) ≤ sec ∧ a_ < 0) ∨ (¬ sec < 0 ∧ ¬ (n : Int) ≤ sec ∧ ¬ a_ < 0 ∧ (63 : Int) < a_) := by
          by_cases c1 : sec < 0
          · exact .inl c1
          by_cases c2 : (n : Int) ≤ sec
          · exact .inr (.inl ⟨c1, c2⟩)
          by_cases c3 : a_ < 0
          · exact .inr (.inr (.inl ⟨c1, c2, c3⟩))
          refine .inr (.inr (.inr ⟨c1, c2, c3, ?_⟩))
          refine Classical.byContradiction fun c4 => hok ⟨by show 0 ≤ sec; omega, by show sec < (n : Int); omega, by show 0 ≤ a_; omega, by show a_ ≤ 63; omega⟩
        clear hok
        rcases hcase with c1 | ⟨c1, c2⟩ | ⟨c1, c2, c3⟩ | ⟨c1, c2, c3, c4⟩
        · have d1 : decide (sec < 0) = true := decide_eq_true c1
          go_wp2_with (first
            | ((with_reducible refine wpLoadRK HRG2.out 66 fits_tu rfl ?_ ?_); rfl)
            | ((with_reducible refine wpAllocK (w := wr) [.int .i64 0, .int .i64 0, .int .u8 0, .bool false] 66 zero_tu ?_ ?_); rfl; intro x1 r1 b1 s1; have R1 := Lib.hid r1; have BB1 := Lib.hid b1; clear r1 b1 s1)
            | ((with_reducible refine R1.out.wpStoreK 66 [.int .i64 sec, .int .i64 a_, .int .u8 (by_.toNat : Int), .bool al] fits_tu rfl rfl rfl ?_ ?_); rfl; intro x2 r2 o2 s2; have BB2 : Hid (Below wr.heap.size wr x2) := Lib.hid (BB1.out.trans (o2.below (Nat.le_refl _) BB1.out.size)); have RW2 : Hid (Row x2 g 9 (strs (tuF n L (ts.take (k + 1))) ++ z)) := Lib.hid (by rw [HSTEP.out]; exact RW.out.step BB2.out); have SM2 := Lib.hid (SM.out.below BB2.out); have BF2 := Lib.hid (HBW.out.next BB2.out); have k0 : x2.cell? ⟨wr.heap.size, 0, none⟩ = some (.int .i64 sec) := r2.cell 0; have k1 : x2.cell? ⟨wr.heap.size, 1, none⟩ = some (.int .i64 a_) := r2.cell 1; clear r2 o2 s2))
          go_roundw
          case rel => exact ⟨k + 1, by omega, by go_num, RW2.out, SM2.out, BF2.out⟩
          case measure => simp [intOf]; omega
        · have d1 : decide (sec < 0) = false := decide_eq_false c1
          have d2 : decide ((n : Int) ≤ sec) = true := decide_eq_true c2
          go_wp2_with (first
            | ((with_reducible refine wpLoadRK HRG2.out 66 fits_tu rfl ?_ ?_); rfl)
            | ((with_reducible refine wpAllocK (w := wr) [.int .i64 0, .int .i64 0, .int .u8 0, .bool false] 66 zero_tu ?_ ?_); rfl; intro x1 r1 b1 s1; have R1 := Lib.hid r1; have BB1 := Lib.hid b1; clear r1 b1 s1)
            | ((with_reducible refine R1.out.wpStoreK 66 [.int .i64 sec, .int .i64 a_, .int .u8 (by_.toNat : Int), .bool al] fits_tu rfl rfl rfl ?_ ?_); rfl; intro x2 r2 o2 s2; have BB2 : Hid (Below wr.heap.size wr x2) := Lib.hid (BB1.out.trans (o2.below (Nat.le_refl _) BB1.out.size)); have RW2 : Hid (Row x2 g 9 (strs (tuF n L (ts.take (k + 1))) ++ z)) := Lib.hid (by rw [HSTEP.out]; exact RW.out.step BB2.out); have SM2 := Lib.hid (SM.out.below BB2.out); have BF2 := Lib.hid (HBW.out.next BB2.out); have k0 : x2.cell? ⟨wr.heap.size, 0, none⟩ = some (.int .i64 sec) := r2.cell 0; have k1 : x2.cell? ⟨wr.heap.size, 1, none⟩ = some (.int .i64 a_) := r2.cell 1; clear r2 o2 s2))
          go_roundw
          case rel => exact ⟨k + 1, by omega, by go_num, RW2.out, SM2.out, BF2.out⟩
          case measure => simp [intOf]; omega
        · have d1 : decide (sec < 0) = false := decide_eq_false c1
          have d2 : decide ((n : Int) ≤ sec) = false := decide_eq_false c2
          have d3 : decide (a_ < 0) = true := decide_eq_true c3
          go_wp2_with (first
            | ((with_reducible refine wpLoadRK HRG2.out 66 fits_tu rfl ?_ ?_); rfl)
            | ((with_reducible refine wpAllocK (w := wr) [.int .i64 0, .int .i64 0, .int .u8 0, .bool false] 66 zero_tu ?_ ?_); rfl; intro x1 r1 b1 s1; have R1 := Lib.hid r1; have BB1 := Lib.hid b1; clear r1 b1 s1)
            | ((with_reducible refine R1.out.wpStoreK 66 [.int .i64 sec, .int .i64 a_, .int .u8 (by_.toNat : Int), .bool al] fits_tu rfl rfl rfl ?_ ?_); rfl; intro x2 r2 o2 s2; have BB2 : Hid (Below wr.heap.size wr x2) := Lib.hid (BB1.out.trans (o2.below (Nat.le_refl _) BB1.out.size)); have RW2 : Hid (Row x2 g 9 (strs (tuF n L (ts.take (k + 1))) ++ z)) := Lib.hid (by rw [HSTEP.out]; exact RW.out.step BB2.out); have SM2 := Lib.hid (SM.out.below BB2.out); have BF2 := Lib.hid (HBW.out.next BB2.out); have k0 : x2.cell? ⟨wr.heap.size, 0, none⟩ = some (.int .i64 sec) := r2.cell 0; have k1 : x2.cell? ⟨wr.heap.size, 1, none⟩ = some (.int .i64 a_) := r2.cell 1; clear r2 o2 s2))
          go_roundw
          case rel => exact ⟨k + 1, by omega, by go_num, RW2.out, SM2.out, BF2.out⟩
          case measure => simp [intOf]; omega
        · have d1 : decide (sec < 0) = false := decide_eq_false c1
          have d2 : decide ((n : Int) ≤ sec) = false := decide_eq_false c2
          have d3 : decide (a_ < 0) = false := decide_eq_false c3
          have d4 : decide ((63 : Int) < a_) = true := decide_eq_true c4
          go_wp2_with (first
            | ((with_reducible refine wpLoadRK HRG2.out 66 fits_tu rfl ?_ ?_); rfl)
            | ((with_reducible refine wpAllocK (w := wr) [.int .i64 0, .int .i64 0, .int .u8 0, .bool false] 66 zero_tu ?_ ?_); rfl; intro x1 r1 b1 s1; have R1 := Lib.hid r1; have BB1 := Lib.hid b1; clear r1 b1 s1)
            | ((with_reducible refine R1.out.wpStoreK 66 [.int .i64 sec, .int .i64 a_, .int .u8 (by_.toNat : Int), .bool al] fits_tu rfl rfl rfl ?_ ?_); rfl; intro x2 r2 o2 s2; have BB2 : Hid (Below wr.heap.size wr x2) := Lib.hid (BB1.out.trans (o2.below (Nat.le_refl _) BB1.out.size)); have RW2 : Hid (Row x2 g 9 (strs (tuF n L (ts.take (k + 1))) ++ z)) := Lib.hid (by rw [HSTEP.out]; exact RW.out.step BB2.out); have SM2 := Lib.hid (SM.out.below BB2.out); have BF2 := Lib.hid (HBW.out.next BB2.out); have k0 : x2.cell? ⟨wr.heap.size, 0, none⟩ = some (.int .i64 sec) := r2.cell 0; have k1 : x2.cell? ⟨wr.heap.size, 1, none⟩ = some (.int .i64 a_) := r2.cell 1; clear r2 o2 s2))
          go_roundw
          case rel => exact ⟨k + 1, by omega, by go_num, RW2.out, SM2.out, BF2.out⟩
          case measure => simp [intOf]; omega
    · have hke : k = nt := by omega
      have hk1 : ¬ (k : Int) < (nt : Int) := by omega
      rw [hke, HEND.out] at RW
      have HSE : Hid (Sx n (tuF n L ts)) := Lib.hid HSX.out.all
      obtain ⟨M, hM⟩ : ∃ M, tuF n L ts = M := ⟨_, rfl⟩
      rw [hM] at RW HSE
      have HMM := Lib.hid hM
      clear hM
      have HGL : Hid (∀ i, i < n → (∀ u, Row u g 9 (strs M ++ z) → u.cell? ⟨g, i, none⟩ = some (.string (M.getD i ByteArray.empty)))) := Lib.hid fun i hi u h => by rw [h.cell, me_get HSE.out hi]
      have HGS : Hid (∀ i, i < n → (∀ u, Below w.heap.size w u → u.cell? ⟨gs, i, none⟩ = some (.string (L.getD i ByteArray.empty)))) := Lib.hid fun i hi u h => by
        rw [(HR.out.step h).cell]
        have := me_get (z := []) HSX.out hi
        rwa [List.append_nil] at this
      have SM9 : Hid (SeenG KM wr B (neN L M 0) (neK L M 0)) := Lib.hid (SM.out.congr rfl fun i _ => (neK_zero L M i).symm)
      clear HT HTS HNX HSXK HEND HRP HBL HBS HBLX hke hk hlt SM
      go_wp2
      go_loopw [70] (fun i w2 => ∃ k : Nat, k ≤ n ∧ i = .int .i64 k ∧ Row w2 g 9 (strs M ++ z) ∧ SeenG KM w2 B (neN L M k) (neK L M k) ∧ Below w.heap.size w w2) (fun i _ => n - (intOf i).toNat)
      case atStart => exact ⟨0, Nat.zero_le _, rfl, RW.out, SM9.out, HBW.out⟩
      case round =>
        clear RW SM9 HBW
        obtain ⟨k, hk, rfl, hrw, hsm, hbw⟩ := hrel
        have RW := Lib.hid hrw
        have SM := Lib.hid hsm
        have HBW := Lib.hid hbw
        clear hrw hsm hbw
        by_cases hlt : k < n
        · have hk1 : (k : Int) < (n : Int) := by omega
          have c1 := HGL.out k hlt wr RW.out
          have c2 := HGS.out k hlt wr HBW.out
          have HNS := Lib.hid (neN_succ L M k)
          have HKS := Lib.hid (neK_succ L M k)
          have HOK : Hid (KM.ok (k : Int)) := Lib.hid (KM_ok k (by have := HSX.out.1; omega))
          have HNW : Hid (neK L M k (k : Int) = false) := Lib.hid (by unfold neK; rw [decide_eq_false (by omega)]; rfl)
          have HC1 : Hid (neN L M k < 100000) := Lib.hid (by have := neN_le L M k; omega)
          by_cases heq : M.getD k ByteArray.empty = L.getD k ByteArray.empty
          · have HFE : Hid (neS L M k = false) := Lib.hid (by unfold neS; exact decide_eq_false (fun h => h heq))
            have hbe : ((M.getD k ByteArray.empty).toList == (L.getD k ByteArray.empty).toList) = true := beq_yes heq
            clear heq
            generalize M.getD k ByteArray.empty = T1 at *
            generalize L.getD k ByteArray.empty = T2 at *
            go_wp2
            go_quiet (fail)
            go_wp2
            go_roundw
            case rel => exact ⟨k + 1, by omega, by go_num, RW.out.drewN nq, (SM.out.below ((Below.refl _ _).drewN nq)).congr (by rw [HNS.out, HFE.out]; rfl) (fun i _ => by rw [HKS.out, HFE.out]; rfl), HBW.out.drewN nq⟩
            case measure => simp [intOf]; omega
          · have HFE : Hid (neS L M k = true) := Lib.hid (by unfold neS; exact decide_eq_true heq)
            have hbe : ((M.getD k ByteArray.empty).toList == (L.getD k ByteArray.empty).toList) = false := beq_no heq
            clear heq
            generalize M.getD k ByteArray.empty = T1 at *
            generalize L.getD k ByteArray.empty = T2 at *
            go_wp2
            go_quiet (fail)
            have RW2 := Lib.hid (RW.out.drewN nq)
            have SM2 := Lib.hid (SM.out.below ((Below.refl _ _).drewN nq))
            have HB2 := Lib.hid (HBW.out.drewN nq)
            generalize wr.drewN nq = wq at *
            go_wp2_with (at_mapUpdate; refine SM2.out.wpPut HOK.out HNW.out HC1.out rfl _ _ _ rfl rfl rfl rfl ?_; intro w6 s6 g6; have SM6 := Lib.hid s6; have RW6 := Lib.hid (me_row_grown RW2.out g6 HGB.out); have HB6 := Lib.hid (HB2.out.grown g6 HB2.out.size (fun j hj => by cases hj; exact HWB.out)); clear s6 g6)
            go_roundw
            case rel => exact ⟨k + 1, by omega, by go_num, RW6.out, SM6.out.congr (by rw [HNS.out, HFE.out]; rfl) (fun i _ => by rw [HKS.out, HFE.out]; rfl), HB6.out⟩
            case measure => simp [intOf]; omega
        · have hke : k = n := by omega
          have hk1 : ¬ (k : Int) < (n : Int) := by omega
          rw [hke] at SM
          clear hke
          go_wp2
          go_ret2
          exact ⟨⟨g, c2, B, rfl, HNC.out, ⟨z, by rw [HMM.out]; exact RW.out⟩, by rw [HMM.out]; exact SM.out⟩, HBW.out⟩
end Go.Proofs.YtnbjaijhdjneoaaGreat

namespace Go.Proofs.YtnbjaijhdjneoaaGreat
open Go.RowKit CrcMath GfMath PolyMath RsMath SolMath GeoMath
set_option linter.unusedVariables false
set_option maxRecDepth 100000

end Go.Proofs.YtnbjaijhdjneoaaGreat

namespace Go.Proofs.YtnbjaijhdjneoaaGreat
open Go.RowKit CrcMath GfMath PolyMath RsMath SolMath GeoMath Go.Maps
set_option linter.unusedVariables false
set_option linter.unusedSimpArgs false
set_option maxRecDepth 100000

theorem me_sx (f : Fb) (k p n : Nat) (hn : k + p = n) : Sx n (encF f k p) := ⟨by rw [encF_length]; exact hn, fun x hx => by
  unfold encF at hx
  obtain ⟨i, _, rfl⟩ := List.mem_map.1 hx
  exact secF_size f k p i⟩
end Go.Proofs.YtnbjaijhdjneoaaGreat

namespace Go.Proofs.YtnbjaijhdjneoaaGreat
open Go.RowKit CrcMath GfMath PolyMath RsMath SolMath GeoMath
theorem reads_len {w : World} {a : Option Addr} {cap : Nat} {e : Open.Ty} {l : List e.den} {by_ : Nat} (h : Open.Reads w (.sl by_ e) [.slice a l.length cap] l) : l.length ≤ 9223372036854775807 := by
  obtain ⟨a', cap', e1, h1, h2, h3, h4⟩ := h
  simp at e1
  obtain ⟨rfl, rfl⟩ := e1
  first | (unfold maxLen at h2; omega) | omega
end Go.Proofs.YtnbjaijhdjneoaaGreat

namespace Go.Proofs.YtnbjaijhdjneoaaGreat
open Go.RowKit CrcMath GfMath PolyMath RsMath SolMath GeoMath Go.Maps
set_option linter.unusedVariables false
set_option linter.unusedSimpArgs false
set_option maxRecDepth 100000
def TTu : Open.Ty := .pair (.int .i64) (.pair (.int .i64) (.pair (.int .u8) (.pair .bool .unit)))
theorem tu_byte {n : Int} (h : (Lit.int .u8 n).wf = true) : ∃ b : UInt8, n = (b.toNat : Int) := by
  have h2 := h
  simp [Lit.wf, IntKind.min, IntKind.max, IntKind.bits, IntKind.signed] at h2
  refine ⟨UInt8.ofNat n.toNat, ?_⟩
  rw [UInt8.toNat_ofNat', Nat.mod_eq_of_lt (by omega)]
  omega
theorem reads_tu {w : World} {cs : List Value} {x : TTu.den} (h : Open.Reads w TTu cs x) : ∃ t : Tu, cs = tuv t := by
  have hl : cs.length = 4 := h.length
  match cs, hl with
  | [a, b, c, d], _ =>
    obtain ⟨⟨h1, g1⟩, ⟨h2, g2⟩, ⟨h3, g3⟩, h4, _⟩ := h
    obtain ⟨b3, k3⟩ := tu_byte g3
    have e1 : a = .int .i64 x.1 := by simpa [Open.Ty.size] using h1
    have e2 : b = .int .i64 x.2.1 := by simpa [Open.Ty.size] using h2
    have e3 : c = .int .u8 x.2.2.1 := by simpa [Open.Ty.size] using h3
    have h5 : [d] = [.bool x.2.2.2.1] := h4
    have e4 : d = .bool x.2.2.2.1 := by simpa using h5
    exact ⟨⟨x.1, x.2.1, b3, x.2.2.2.1⟩, by rw [e1, e2, e3, e4, k3]; rfl⟩
theorem reads_tus {w : World} {a : Option Addr} {cap by_ : Nat} {l : List TTu.den} (h : Open.Reads w (.sl by_ TTu) [.slice a l.length cap] l) : ∃ L : List Tu, L.length = l.length ∧ Lies w w.heap.size a (tucs L) := by
  obtain ⟨a', cap', hc, _, _, _, hr⟩ := h
  obtain ⟨rfl, rfl⟩ : a' = a ∧ cap' = cap := by simp at hc; exact ⟨hc.1.symm, hc.2.symm⟩
  rcases Nat.eq_zero_or_pos l.length with h0 | h0
  · exact ⟨[], by rw [h0]; rfl, Lies.nil _ _ _⟩
  · obtain ⟨b, off, ha, hb, hx⟩ := hr h0
    have hp : ∀ i, i < l.length → ∃ r : Tu, ∀ j u, (tuv r)[j]? = some u → w.cell? ⟨b, off + (i * 4 + j), none⟩ = some u := fun i hi => by
      obtain ⟨cs, h1, h2, h3⟩ := hx i hi
      obtain ⟨t, rfl⟩ := reads_tu h3
      refine ⟨t, fun j u hj => ?_⟩
      have hj4 : j < 4 := (List.getElem?_eq_some_iff.1 hj).1
      have := h2 j hj4
      rw [show TTu.size = 4 from rfl] at this
      rw [this]
      exact hj
    obtain ⟨L, hL, hL2⟩ := Open.choose_list (α := Tu) (fun i r => ∀ j u, (tuv r)[j]? = some u → w.cell? ⟨b, off + (i * 4 + j), none⟩ = some u) l.length hp ()
    refine ⟨L, hL, fun _ => ⟨b, off, ha, hb, fun j u hj => ?_⟩⟩
    obtain ⟨hi, hc2⟩ := tucs_back hj
    have := hL2 (j / 4) hi _ _ hc2
    rwa [show j / 4 * 4 + j % 4 = j by omega] at this
end Go.Proofs.YtnbjaijhdjneoaaGreat
