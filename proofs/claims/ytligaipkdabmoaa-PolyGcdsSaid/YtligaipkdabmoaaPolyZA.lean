/- The walk of PolyGcds. -/
import Derived.Test.YtligaipkdabmoaaPolyBF
namespace Go.Proofs.Ytligaipkdabmoaa
open Go.RowKit GfMath PolyMath
set_option linter.unusedVariables false

theorem one_sl : One Try.prog 28 := One.of (by kernel_rfl)
/-- What the law multiplies. -/
def prs (C : List Nat) (ls : List (List Nat)) : List (List Nat) := ls.map fun a => pms [a, C]
theorem prs_snoc (C : List Nat) (ls : List (List Nat)) (a : List Nat) : prs C (ls ++ [a]) = prs C ls ++ [pms [a, C]] := by simp [prs]
theorem prs_length (C : List Nat) (ls : List (List Nat)) : (prs C ls).length = ls.length := by simp [prs]
def zeroB (ps : List (List Nat)) : Bool := ps.all fun p => p.length == 0
theorem zeroB_snoc (ps : List (List Nat)) (p : List Nat) : zeroB (ps ++ [p]) = (zeroB ps && p.length == 0) := by simp [zeroB]
theorem slvs_snoc (ts : List Hd) (t : Hd) : slvs (ts ++ [t]) = slvs ts ++ [slv t] := by simp [slvs]
theorem pms2_dv {a C : List Nat} (ha : By a) (hC : By C) : Dv C (pms [a, C]) := by
  refine ⟨pm [1] (beh a), pm_by (by_one (by omega)) ha.beh, ?_⟩
  have e : cf C = cf (beh C) := (funext (cf_beh C)).symm
  rw [e, ← cf_pm]; rfl
theorem pms2_nil {a C : List Nat} (h : beh C = []) : pms [a, C] = [] := by
  show pm (pm [1] (beh a)) (beh C) = []
  rw [h, pm_nil_right]

/-- No polynomial lies in the block of the list itself. -/
def Apart (us : List Hd) (v : Value) : Prop := ∀ t ∈ us, 0 < t.2.1 → ∀ ad, t.1 = some ad → v.ownBlock ≠ some ad.block
theorem Polz.grown {w w' : World} {v : Value} {us : List Hd} {ps : List (List Nat)} (h : Polz w us ps) (hg : w.grownBy w' v.ownBlock) (ha : Apart us v) : Polz w' us ps := by
  refine ⟨h.len, fun i h1 h2 => ?_⟩
  obtain ⟨a1, a2, a3, a4⟩ := h.at_ i h1 h2
  refine ⟨a1, a2, a3, fun h0 => ?_⟩
  obtain ⟨b, off, e, hlt, hc⟩ := a4 h0
  rw [u8s_length] at h0
  exact ⟨b, off, e, Nat.lt_of_lt_of_le hlt hg.size, fun j u hu => hg.cell (hc j u hu) (fun e2 => ha us[i] (List.getElem_mem h1) (by omega) _ e e2.symm)⟩
theorem pushed {wr w1 : World} {base : Nat} {T e : TypeId} {v : Value} {k : Nat} {xs : List Value} {us : List Hd} {PS : List (List Nat)} {p : List Nat} {apv : Option Addr} {cpv : Nat} (hown : wr.ownsRow base e 1 v k xs) (hpz : Polz wr us PS) (hap : Apart us v) (b1 : Below wr.heap.size wr w1)
    (hl : Lies w1 w1.heap.size apv (u8s p)) (hf : Fresh wr (.slice apv p.length cpv)) (hc : p.length ≤ cpv) (hp : By p) :
    Polz (w1.alloc (.cells #[.slice apv p.length cpv] T)) (us ++ [(apv, p.length, cpv)]) (PS ++ [p]) ∧ Apart (us ++ [(apv, p.length, cpv)]) v := by
  refine ⟨((hpz.step b1).snoc hc hp hl).step (alloc_below _ _), fun t ht h0 ad e => ?_⟩
  rcases List.mem_append.1 ht with h | h
  · exact hap t h h0 ad e
  · simp only [List.mem_singleton] at h
    subst h
    simp only at e
    subst e
    have h1 := hf ad _ _ rfl
    intro e2
    have h2 := (hown.lt _ e2).2
    omega
theorem pushed2 {W w2 : World} {v v1 : Value} {us : List Hd} {PS : List (List Nat)} (hpz : Polz W us PS) (hap : Apart us v) (hg : W.grownBy w2 v.ownBlock) (h : v1.ownBlock = v.ownBlock ∨ v1.ownBlock = some W.heap.size) : Polz w2 us PS ∧ Apart us v1 := by
  refine ⟨hpz.grown hg hap, fun t ht h0 ad e => ?_⟩
  rcases h with h | h
  · rw [h]; exact hap t ht h0 ad e
  · rw [h]
    obtain ⟨i, hi, rfl⟩ := List.mem_iff_getElem.1 ht
    obtain ⟨a1, _, _, a4⟩ := hpz.at_ i hi (by rw [← hpz.len]; exact hi)
    obtain ⟨b, off, e2, hlt, _⟩ := a4 (by rw [u8s_length]; omega)
    rw [e] at e2
    cases e2
    intro e3
    cases e3
    exact absurd hlt (Nat.lt_irrefl _)
theorem pmul_two_fresh (b : Nat) {a c : Option Addr} {ca cc : Nat} {A C : List Nat} (hA : By A) (hC : By C) (h1 : A.length ≤ ca) (h2 : C.length ≤ cc) (h3 : ca ≤ 140737488351232) (h4 : cc ≤ 140737488351232) (h5 : A.length ≤ 5000) (h6 : C.length ≤ 5000)
    (u : World) (hf : Fld u b) (hr : Lies u u.heap.size a (u8s A)) (hs : Lies u u.heap.size c (u8s C)) :
    Calls Try.prog 19 #[.pointer (some ⟨b, 0, none⟩), .slice (some ⟨u.heap.size, 0, none⟩) 2 2] (u.alloc (.cells #[.slice a A.length ca, .slice c C.length cc] 28)) fun e w' => (∃ v, e = .returned v ∧ Reads w' v (pms [A, C]) ∧ Fresh u v) ∧ Below u.heap.size u w' :=
  (pmul_fresh b (some ⟨u.heap.size, 0, none⟩) 2 [(a, A.length, ca), (c, C.length, cc)] [A, C] _ (hf.step (alloc_below _ _)) ((two_polys hA hC h1 h2 h3 h4 hr hs).step (alloc_below _ _)) (by simp) (by intro l hl; simp at hl; rcases hl with rfl | rfl <;> assumption)
    (Lies.new [.slice a A.length ca, .slice c C.length cc] u _)).mono fun e w' ⟨⟨v, h1, h2, h3⟩, h4⟩ => ⟨⟨v, h1, h2, fun a n c h => Nat.le_trans (alloc_below u _).size (h3 a n c h)⟩, (alloc_below _ _).next h4⟩

set_option maxRecDepth 100000 in
set_option maxHeartbeats 8000000 in
theorem polyGcds_walk (a c : Option Addr) (cap cc : Nat) (ts : List Hd) (ls : List (List Nat)) (C : List Nat) (w : World) (hp : Polys w ts ls) (hcap : ts.length ≤ cap) (hc2 : cap ≤ 140737488351232) (hC : By C) (hcc : C.length ≤ cc) (hcc2 : cc ≤ 140737488351232)
    (hr : Lies w w.heap.size a (slvs ts)) (hs : Lies w w.heap.size c (u8s C)) :
    Calls Try.prog 8 #[.slice a ts.length cap, .slice c C.length cc] w fun e w' => e = .returned (.bool true) ∧ Below w.heap.size w w' := by
  have HG : Hid (∀ u : World, Lies u u.heap.size a (slvs ts) → Calls Try.prog 12 #[.slice a ts.length cap] u fun e w' => e = .returned (.bool (greatB ts)) ∧ u = w') := Lib.hid fun u h => great_any a cap ts u (by omega) (by
    intro t ht
    obtain ⟨i, hi, rfl⟩ := List.mem_iff_getElem.1 ht
    obtain ⟨h1, h2, h3, _⟩ := hp.at_ i hi (by rw [← hp.len]; exact hi)
    omega) h
  have HGC := Lib.hid (great_one c C.length cc (by omega))
  have HR := Lib.hid hr
  have HS := Lib.hid hs
  have HP := Lib.hid hp
  clear hr hp hs
  by_cases hg : greatB ts = true
  · rw [hg] at HG
    clear hg
    go_enter Try.func8, Try.ntmps8
    go_wp2_with (first
      | (go_at_call 11; (with_reducible refine (awake_any w).mono ?_); rintro e u1 ⟨rfl, b1⟩; have B1 := Lib.hid b1; clear b1)
      | (go_at_call 12; (with_reducible refine (HG.out u1 (HR.out.step B1.out)).mono ?_); rintro e u2 ⟨rfl, rfl⟩))
    go_ret
    exact ⟨rfl, B1.out⟩
  · have hgf : greatB ts = false := by simpa using hg
    rw [hgf] at HG
    by_cases h60 : 60 < C.length
    · have HG2 : Hid (∀ u : World, Calls Try.prog 12 #[.slice (some ⟨u.heap.size, 0, none⟩) 1 1] (u.alloc (.cells #[.slice c C.length cc] 28)) fun e w' => e = .returned (.bool true) ∧ Below u.heap.size u w') := Lib.hid fun u => by have := HGC.out u; rwa [decide_eq_true h60] at this
      clear hg hgf HGC
      go_enter Try.func8, Try.ntmps8
      go_wp2_with (first
        | (go_at_call 11; (with_reducible refine (awake_any w).mono ?_); rintro e u1 ⟨rfl, b1⟩; have B1 := Lib.hid b1; clear b1)
        | (go_at_call 12; (with_reducible refine (HG.out u1 (HR.out.step B1.out)).mono ?_); rintro e u2 ⟨rfl, rfl⟩)
        | (go_at_call 12; (with_reducible refine (HG2.out u1).mono ?_); rintro e u2 ⟨rfl, b2⟩; have B2 := Lib.hid (B1.out.next b2); clear b2))
      go_ret
      exact ⟨rfl, B2.out⟩
    · have HG2 : Hid (∀ u : World, Calls Try.prog 12 #[.slice (some ⟨u.heap.size, 0, none⟩) 1 1] (u.alloc (.cells #[.slice c C.length cc] 28)) fun e w' => e = .returned (.bool false) ∧ Below u.heap.size u w') := Lib.hid fun u => by have := HGC.out u; rwa [decide_eq_false h60] at this
      have hg2 := hgf
      unfold greatB at hg2
      rw [Bool.or_eq_false_iff] at hg2
      have hn : ls.length ≤ 6 := by
        have := hg2.2
        rw [← HP.out.len]
        simpa using this
      have hl60 : ∀ l ∈ ls, l.length ≤ 60 := by
        intro l hl
        obtain ⟨i, hi, rfl⟩ := List.mem_iff_getElem.1 hl
        have hi2 : i < ts.length := by rw [HP.out.len]; exact hi
        have h1 := (HP.out.at_ i hi2 hi).1
        have h2 := List.any_eq_false.1 hg2.1 ts[i] (List.getElem_mem hi2)
        simp only [decide_eq_true_eq] at h2
        omega
      have hlen : ts.length = ls.length := HP.out.len
      rw [hlen]
      rw [hlen] at HG
      have h8 : ∀ l ∈ ls, By l := fun l h => HP.out.by l h
      have hni : (ls.length : Int) ≤ 6 := by omega
      have HL60 := Lib.hid hl60
      have H8 := Lib.hid h8
      have HC8 := Lib.hid hC
      have HCC := Lib.hid hcc
      have HCC2 := Lib.hid hcc2
      have HC60 : Hid (C.length ≤ 60) := Lib.hid (by omega)
      have HPP : Hid (∀ p ∈ prs C ls, By p ∧ PolyMath.Can p ∧ p.length ≤ 200 ∧ Dv C p) := Lib.hid fun p hp => by
        simp only [prs, List.mem_map] at hp
        obtain ⟨q, hq, rfl⟩ := hp
        have hq8 := h8 q hq
        have h82 : ∀ l ∈ [q, C], By l := by intro l hl; simp at hl; rcases hl with rfl | rfl <;> assumption
        have hq60 := hl60 q hq
        have hle : (pms [q, C]).length ≤ 200 := by
          have := pms_le [q, C] 60 (by intro l hl; simp at hl; rcases hl with rfl | rfl <;> omega)
          simp at this
          omega
        exact ⟨(pms_all _ h82).1, (pms_all _ h82).2, hle, pms2_dv hq8 hC⟩
      have HZ0 : Hid (beh C = [] → zeroB (prs C ls) = true) := Lib.hid fun h => by
        unfold zeroB prs
        rw [List.all_eq_true]
        intro p hp
        simp only [List.mem_map] at hp
        obtain ⟨q, _, rfl⟩ := hp
        rw [pms2_nil h]; rfl
      clear hg hgf hg2 hl60 h8 hC hcc hcc2 h60 HGC hcap hc2 hn
      go_enter Try.func8, Try.ntmps8
      go_wp2_with (first
        | (go_at_call 11; (with_reducible refine (awake_any w).mono ?_); rintro e u1 ⟨rfl, b1⟩; have B1 := Lib.hid b1; clear b1)
        | (go_at_call 12; (with_reducible refine (HG.out u1 (HR.out.step B1.out)).mono ?_); rintro e u2 ⟨rfl, rfl⟩)
        | (go_at_call 12; (with_reducible refine (HG2.out u1).mono ?_); rintro e u2 ⟨rfl, b2⟩; have B2 := Lib.hid (B1.out.next b2); clear b2)
        | (go_at_call 13; (with_reducible refine (gfNew_any u2).mono ?_); rintro e u3 ⟨rfl, f3, b3⟩; have F3 := Lib.hid f3; have B3 := Lib.hid (B2.out.next b3); clear f3 b3; generalize u2.heap.size = b at *))
      go_loopw [6, 7, 32] (fun v z i wr => ∃ (k : Nat) (us : List Hd), k ≤ ls.length ∧ i = .int .i64 k ∧ wr.ownsRow u3.heap.size 28 1 v k (slvs us) ∧ Polz wr us (prs C (ls.take k)) ∧ Apart us v ∧ z = .bool (zeroB (prs C (ls.take k))) ∧ Below u3.heap.size u3 wr) (fun _ _ i _ => ls.length - (intOf i).toNat)
      case atStart => exact ⟨0, [], Nat.zero_le _, rfl, ⟨rfl, .inl ⟨rfl, rfl⟩⟩, Polz.nil _, (fun t ht => by simp at ht), rfl, Below.refl _ _⟩
      case round =>
        obtain ⟨k, us, hk, rfl, hown, hpz, hap, rfl, hbw⟩ := hrel
        obtain ⟨ad, cd, rfl, hcd, hlies⟩ := own_form2 hown
        by_cases hlt : k < ls.length
        · have hk1 : (k : Int) < ls.length := by omega
          obtain ⟨q, c1, ht, hqc, hc1, hq8, hql⟩ := HP.out.get k hlt
          have hkt : k < ts.length := by rw [HP.out.len]; exact hlt
          obtain ⟨b2, off, rfl, hbb, hcl⟩ := HR.out (by rw [slvs_length]; omega)
          have hcell : wr.cell? ⟨b2, off + k, none⟩ = some (.slice q ls[k].length c1) := by
            have h1 := ((B3.out.next hbw).cell (p := ⟨b2, off + k, none⟩) hbb).trans (hcl k _ (slvs_get ts k hkt))
            rw [ht] at h1
            exact h1
          have hl60 := HL60.out ls[k] (List.getElem_mem hlt)
          have hps := prs_snoc C (ls.take k) ls[k]
          rw [← take_snoc ls k hlt] at hps
          have hpall := HPP.out (pms [ls[k], C]) (by simp only [prs, List.mem_map]; exact ⟨ls[k], List.getElem_mem hlt, rfl⟩)
          obtain ⟨l, hle⟩ : ∃ l, ls[k] = l := ⟨_, rfl⟩
          rw [hle] at hcell hqc hq8 hql hl60 hps hpall
          have HMU : Hid (∀ u : World, Fld u b → Lies u u.heap.size q (u8s l) → Lies u u.heap.size c (u8s C) → Calls Try.prog 19 #[.pointer (some ⟨b, 0, none⟩), .slice (some ⟨u.heap.size, 0, none⟩) 2 2] (u.alloc (.cells #[.slice q l.length c1, .slice c C.length cc] 28)) fun e w' => (∃ v, e = .returned v ∧ Reads w' v (pms [l, C]) ∧ Fresh u v) ∧ Below u.heap.size u w') :=
            Lib.hid (pmul_two_fresh b (a := q) (c := c) hq8 HC8.out hqc HCC.out hc1 HCC2.out (by omega) (by have := HC60.out; omega))
          obtain ⟨p, hpe⟩ : ∃ p, pms [l, C] = p := ⟨_, rfl⟩
          rw [hpe] at HMU hps hpall
          obtain ⟨PS, hPS⟩ : ∃ PS, prs C (ls.take k) = PS := ⟨_, rfl⟩
          rw [hPS] at hpz hps
          rw [hPS]
          have hzs := zeroB_snoc PS p
          obtain ⟨z, hz⟩ : ∃ z, zeroB PS = z := ⟨_, rfl⟩
          rw [hz] at hzs
          rw [hz]
          have HZS := Lib.hid hzs
          have HPS := Lib.hid hps
          have HPA := Lib.hid hpall
          have HOWN := Lib.hid hown
          have HPZ := Lib.hid hpz
          have HAP := Lib.hid hap
          have HW := Lib.hid hbw
          have HFR : Hid (Fld wr b) := Lib.hid (F3.out.step hbw)
          have HQ : Hid (Lies wr wr.heap.size q (u8s l)) := Lib.hid (hql.step (B3.out.next hbw))
          have HSC : Hid (Lies wr wr.heap.size c (u8s C)) := Lib.hid (HS.out.step (B3.out.next hbw))
          have HPK : Big (k + 1 ≤ 1099511627776) := ⟨by omega⟩
          have HOL : Hid (∀ j, (Value.slice ad k cd).ownBlock = some j → u3.heap.size ≤ j) := Lib.hid fun j hj => (hown.lt j hj).1
          clear hown hpz hap hbw hcl hbb ht hqc hc1 hq8 hql hle hl60 hps hpall hpe hPS hzs hz hcd hlies
          by_cases hp0 : p.length = 0
          · have hpi : (p.length : Int) = 0 := by omega
            have hpb : ((p.length : Int) == 0) = true := beq_iff_eq.2 hpi
            have HZE : Hid ((p.length == 0) = true) := Lib.hid (beq_iff_eq.2 hp0)
            clear hp0
            cases z
            all_goals
              go_wp2_with (first
                | (go_at_call 19; (with_reducible refine (HMU.out wr HFR.out HQ.out HSC.out).mono ?_); rintro e w1 ⟨⟨v, rfl, ⟨apv, cpv, rfl, hcpv, lpv⟩, hfr⟩, b1⟩; have HOW2 := Lib.hid ((own_below HOWN.out b1).alloc (.cells #[.slice apv p.length cpv] 28)); have HBW2 := Lib.hid ((HW.out.next b1).alloc (HW.out.next b1).size (.cells #[.slice apv p.length cpv] 28)); have HL2 : Hid (Lies (w1.alloc (.cells #[.slice apv p.length cpv] 28)) (w1.alloc (.cells #[.slice apv p.length cpv] 28)).heap.size (some ⟨w1.heap.size, 0, none⟩) [.slice apv p.length cpv]) := Lib.hid (Lies.new [_] _ _); have HO1 : Hid ((Value.slice apv p.length cpv).oneCell' = true) := Lib.hid rfl; have HZ2 := Lib.hid HBW2.out.size; have HPU := Lib.hid (pushed (T := 28) HOWN.out HPZ.out HAP.out b1 lpv hfr hcpv HPA.out.1); clear hfr; clear b1 hcpv lpv)
                | ((with_reducible refine wpAppend1K HOW2.out Try.underlying22 one_sl HL2.out HO1.out HPK HZ2.out ?_ ?_); rfl; intro v1 w2 g1 g2 g3; have HV1 := Lib.hid g1; have HG1 := Lib.hid g2; have HP2 := Lib.hid (pushed2 HPU.out.1 HPU.out.2 g2 g3); clear g1 g2 g3))
              go_roundw
              case rel => exact ⟨k + 1, us ++ [(apv, p.length, cpv)], by omega, by go_num, by rw [slvs_snoc]; exact HV1.out, by rw [HPS.out]; exact HP2.out.1, HP2.out.2, by rw [HPS.out, HZS.out, HZE.out]; rfl, HBW2.out.grown HG1.out HBW2.out.size HOL.out⟩
              case measure => first | (simp [intOf]; done) | (simp [intOf]; omega)
          · have hpi : ¬ (p.length : Int) = 0 := by omega
            have hpb : ((p.length : Int) == 0) = false := beq_false_of_ne hpi
            have HZE : Hid ((p.length == 0) = false) := Lib.hid (beq_false_of_ne hp0)
            clear hp0
            cases z
            all_goals
              go_wp2_with (first
                | (go_at_call 19; (with_reducible refine (HMU.out wr HFR.out HQ.out HSC.out).mono ?_); rintro e w1 ⟨⟨v, rfl, ⟨apv, cpv, rfl, hcpv, lpv⟩, hfr⟩, b1⟩; have HOW2 := Lib.hid ((own_below HOWN.out b1).alloc (.cells #[.slice apv p.length cpv] 28)); have HBW2 := Lib.hid ((HW.out.next b1).alloc (HW.out.next b1).size (.cells #[.slice apv p.length cpv] 28)); have HL2 : Hid (Lies (w1.alloc (.cells #[.slice apv p.length cpv] 28)) (w1.alloc (.cells #[.slice apv p.length cpv] 28)).heap.size (some ⟨w1.heap.size, 0, none⟩) [.slice apv p.length cpv]) := Lib.hid (Lies.new [_] _ _); have HO1 : Hid ((Value.slice apv p.length cpv).oneCell' = true) := Lib.hid rfl; have HZ2 := Lib.hid HBW2.out.size; have HPU := Lib.hid (pushed (T := 28) HOWN.out HPZ.out HAP.out b1 lpv hfr hcpv HPA.out.1); clear hfr; clear b1 hcpv lpv)
                | ((with_reducible refine wpAppend1K HOW2.out Try.underlying22 one_sl HL2.out HO1.out HPK HZ2.out ?_ ?_); rfl; intro v1 w2 g1 g2 g3; have HV1 := Lib.hid g1; have HG1 := Lib.hid g2; have HP2 := Lib.hid (pushed2 HPU.out.1 HPU.out.2 g2 g3); clear g1 g2 g3))
              go_roundw
              case rel => exact ⟨k + 1, us ++ [(apv, p.length, cpv)], by omega, by go_num, by rw [slvs_snoc]; exact HV1.out, by rw [HPS.out]; exact HP2.out.1, HP2.out.2, by rw [HPS.out, HZS.out, HZE.out]; rfl, HBW2.out.grown HG1.out HBW2.out.size HOL.out⟩
              case measure => first | (simp [intOf]; done) | (simp [intOf]; omega)
        · have ek : k = ls.length := by omega
          rw [ek, List.take_of_length_le (Nat.le_refl _)] at hpz ⊢
          rw [ek] at hcd
          have hpl := prs_length C ls
          have HGD : Hid (Calls Try.prog 29 #[.pointer (some ⟨b, 0, none⟩), .slice ad ls.length cd] wr fun e w' =>
              (∃ v G, e = .returned v ∧ Reads w' v G ∧ By G ∧ PolyMath.Can G ∧ G.length ≤ 1000000 ∧ (0 < G.length → sq G 0 = 1) ∧ ∀ d, By d → (Dv d G ↔ ∀ p ∈ prs C ls, Dv d p)) ∧ Below wr.heap.size wr w') := Lib.hid (by
            have h := gcd_any b ad cd us (prs C ls) wr (F3.out.step hbw) hpz (by rw [hpl]; omega) (fun l hl => by have := (HPP.out l hl).2.2.1; omega) hlies
            rw [hpl] at h
            exact h)
          have HPZ := Lib.hid hpz
          have HLI := Lib.hid hlies
          have HW := Lib.hid hbw
          have HUL : Hid (us.length = ls.length) := Lib.hid (by rw [hpz.len, hpl])
          have HPL := Lib.hid hpl
          clear hpz hap hown hlies hbw hcd hpl ek hlt hk
          by_cases hz : zeroB (prs C ls) = true
          · rw [hz]
            have HZA : Hid (∀ p ∈ prs C ls, p = []) := Lib.hid fun p hp => by
              unfold zeroB at hz
              have := List.all_eq_true.1 hz p hp
              exact List.eq_nil_of_length_eq_zero (by simpa using this)
            clear hz
            go_wp2_with (go_at_call 29; (with_reducible refine HGD.out.mono ?_); rintro e w1 ⟨⟨v, G, rfl, ⟨ag, cg, rfl, _, _⟩, hg8, hgc, hgl, hg1, hgd⟩, b1⟩; have hG0 : G.length = 0 := (by
              have h1 : Dv [] G := (hgd [] by_nil).2 fun p hp => by rw [HZA.out p hp]; exact Dv.zero _
              have h2 := h1.nil_zero
              rw [hgc.beh] at h2
              rw [h2]; rfl); have hGi : (G.length : Int) = 0 := (by omega); have hGb : ((G.length : Int) == 0) = true := beq_iff_eq.2 hGi; have B1' := Lib.hid b1; clear b1 hg8 hgc hgl hg1 hgd hG0)
            go_ret
            exact ⟨rfl, B3.out.next (HW.out.next B1'.out)⟩
          · have hzf : zeroB (prs C ls) = false := by simpa using hz
            rw [hzf]
            have HZF := Lib.hid hzf
            clear hz hzf
            go_wp2_with (go_at_call 29; (with_reducible refine HGD.out.mono ?_); rintro e w1 ⟨⟨v, G, rfl, ⟨ag, cg, rfl, hcg, lg⟩, hg8, hgc, hgl, hg1, hgd⟩, b1⟩; have hG0 : 0 < G.length := (by
              refine Classical.byContradiction fun hn => ?_
              have h1 : G = [] := List.eq_nil_of_length_eq_zero (by omega)
              have h2 : zeroB (prs C ls) = true := by
                unfold zeroB
                rw [List.all_eq_true]
                intro p hp
                have h3 := (hgd [] by_nil).1 (by rw [h1]; exact Dv.zero _) p hp
                have h4 := h3.nil_zero
                rw [((HPP.out p hp).2.1).beh] at h4
                rw [h4]; rfl
              rw [HZF.out] at h2
              cases h2); have hGi : ¬ (G.length : Int) = 0 := (by omega); have hGb : ((G.length : Int) == 0) = false := beq_false_of_ne hGi; have hGp : 0 < (G.length : Int) := (by omega); have hcell : ∃ bg og, ag = some ⟨bg, og, none⟩ ∧ w1.cell? ⟨bg, og, none⟩ = some (.int .u8 1) := (by
              obtain ⟨bg, og, e1, _, hcc⟩ := lg (by rw [u8s_length]; omega)
              have h3 := u8s_sq hcc 0 hG0
              rw [hg1 hG0, Nat.add_zero] at h3
              exact ⟨bg, og, e1, h3⟩); have HLG := Lib.hid lg; have HCG := Lib.hid hcg; have HG8 := Lib.hid hg8; have HGC := Lib.hid hgc; have HGL := Lib.hid hgl; have HGD2 := Lib.hid hgd; have B1' := Lib.hid b1; obtain ⟨bg, og, rfl, hcg1⟩ := hcell; clear b1 hg8 hgc hgl hg1 hgd lg hcg)
            have HDV : Hid (∀ p ∈ prs C ls, dr p G = []) := Lib.hid fun p hp => Dv.rest HG8.out (HPP.out p hp).1 (by rw [HGC.out.beh]; exact hG0) ((HGD2.out G HG8.out).1 (Dv.refl HG8.out) p hp)
            have hC0 : 0 < (beh C).length := Nat.pos_of_ne_zero fun h => by
              have h2 := HZ0.out (List.eq_nil_of_length_eq_zero h)
              rw [HZF.out] at h2
              cases h2
            have HDC : Hid (dr G C = []) := Lib.hid (Dv.rest HC8.out HG8.out hC0 ((HGD2.out C HC8.out).2 fun p hp => (HPP.out p hp).2.2.2))
            have HFW : Hid (Fld w1 b) := Lib.hid (F3.out.step (HW.out.next B1'.out))
            have HDF : Hid (∀ u : World, Below w1.heap.size w1 u → Calls Try.prog 20 #[.pointer (some ⟨b, 0, none⟩), .slice (some ⟨bg, og, none⟩) G.length cg, .slice c C.length cc] u fun e w' => (∃ v ar cr, e = .returned (.tuple #[v, .slice ar 0 cr, .bool true])) ∧ Below u.heap.size u w') := Lib.hid fun u hu =>
              (divmod_any b (some ⟨bg, og, none⟩) c cg cc G C u (HFW.out.step hu) HG8.out HC8.out HGL.out (by have := HC60.out; omega) HCG.out HCC.out hC0 (HLG.out.step hu) ((HS.out.step (B3.out.next (HW.out.next B1'.out))).step hu)).mono fun e w' ⟨⟨v, v2, h1, _, ⟨ar, cr, h3, _, _⟩⟩, h4⟩ => ⟨⟨v, ar, cr, by rw [h1, h3, HDC.out]; rfl⟩, h4⟩
            have HDP : Hid (∀ (u : World) (q : Option Addr) (c2 : Nat) (p : List Nat), p ∈ prs C ls → p.length ≤ c2 → Below w1.heap.size w1 u → Lies u u.heap.size q (u8s p) → Calls Try.prog 20 #[.pointer (some ⟨b, 0, none⟩), .slice q p.length c2, .slice (some ⟨bg, og, none⟩) G.length cg] u fun e w' => (∃ v ar cr, e = .returned (.tuple #[v, .slice ar 0 cr, .bool true])) ∧ Below u.heap.size u w') := Lib.hid fun u q c2 p hp hc2 hu hl =>
              (divmod_any b q (some ⟨bg, og, none⟩) c2 cg p G u (HFW.out.step hu) (HPP.out p hp).1 HG8.out (by have := (HPP.out p hp).2.2.1; omega) HGL.out hc2 HCG.out (by rw [HGC.out.beh]; exact hG0) hl (HLG.out.step hu)).mono fun e w' ⟨⟨v, v2, h1, _, ⟨ar, cr, h3, _, _⟩⟩, h4⟩ => ⟨⟨v, ar, cr, by rw [h1, h3, HDV.out p hp]; rfl⟩, h4⟩
            clear hC0 hG0 hGi hGb hGp hcg1
            go_loopw [70] (fun i wx => ∃ k : Nat, k ≤ ls.length ∧ i = .int .i64 k ∧ Below w1.heap.size w1 wx) (fun i _ => ls.length - (intOf i).toNat)
            case atStart => exact ⟨0, Nat.zero_le _, rfl, Below.refl _ _⟩
            case round =>
              obtain ⟨k, hk, rfl, hbx⟩ := hrel
              by_cases hlt : k < ls.length
              · have hk1 : (k : Int) < ls.length := by omega
                have hkp : k < (prs C ls).length := by rw [HPL.out]; exact hlt
                have hku : k < us.length := by rw [HUL.out]; exact hlt
                obtain ⟨q, c2, ht, hqc, hq8, hql⟩ := HPZ.out.get k hkp
                obtain ⟨b2, off, rfl, hbb, hcl⟩ := HLI.out (by rw [slvs_length]; omega)
                have hcell : wr.cell? ⟨b2, off + k, none⟩ = some (.slice q (prs C ls)[k].length c2) := by
                  have h1 := ((B1'.out.next hbx).cell (p := ⟨b2, off + k, none⟩) hbb).trans (hcl k _ (slvs_get us k hku))
                  rw [ht] at h1
                  exact h1
                have HDM := Lib.hid (HDP.out wr q c2 (prs C ls)[k] (List.getElem_mem hkp) hqc hbx (hql.step (B1'.out.next hbx)))
                obtain ⟨p, hpe⟩ : ∃ p, (prs C ls)[k] = p := ⟨_, rfl⟩
                rw [hpe] at hcell HDM
                have HX := Lib.hid hbx
                clear hbx ht hqc hq8 hql hcl hbb hpe
                go_wp2_with (go_at_call 20; (with_reducible refine HDM.out.mono ?_); rintro e w5 ⟨⟨v5, ar5, cr5, rfl⟩, b5⟩; have B5 := Lib.hid b5; clear b5)
                go_roundw
                case rel => exact ⟨k + 1, by omega, by go_num, HX.out.next B5.out⟩
                case measure => first | (simp [intOf]; done) | (simp [intOf]; omega)
              · have HX := Lib.hid hbx
                have hk2 : (ls.length : Int) ≤ k := by omega
                clear hbx
                go_wp2_with (go_at_call 20; (with_reducible refine (HDF.out wr HX.out).mono ?_); rintro e w6 ⟨⟨v6, ar6, cr6, rfl⟩, b6⟩; have B6 := Lib.hid b6; clear b6)
                go_ret
                exact ⟨rfl, (B3.out.next (HW.out.next B1'.out)).next (HX.out.next B6.out)⟩

end Go.Proofs.Ytligaipkdabmoaa
