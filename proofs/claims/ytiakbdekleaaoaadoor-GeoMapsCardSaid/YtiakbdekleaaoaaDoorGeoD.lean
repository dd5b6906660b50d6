/- Contracts of geo's Sector, Half, Tally, Of (gen_geo_d.py). -/
import Derived.Test.YtiakbdekleaaoaaDoorGeoC
namespace Go.Proofs.YtiakbdekleaaoaaDoor
open Go.RowKit GeoMath
set_option linter.unusedVariables false
set_option maxRecDepth 100000

theorem sps_new (L : List Sp) (cs : Array Value) (n : Nat) (w : World) (hc : cs = (L.flatMap spc).toArray) (hn : L.length = n) :
    Sps L (.slice (some ⟨w.heap.size, 0, none⟩) n n) (w.alloc (.cells cs 42)) := by
  subst hc
  subst hn
  exact ⟨_, rfl, SpAt.of_row (Row.new w 42 (L.flatMap spc))⟩
theorem ask_val (g : Gm) (L : List Sp) (w1 : World) (hL : L.length < 1000) : ∀ (wx : World) v, Sps L v wx →
    Calls Tryd.prog 16 #[geoV g, v] wx fun e w' => e = .returned (.int .i64 (askF g L)) ∧ Below wx.heap.size wx w' := by
  rintro wx v ⟨b, rfl, hb⟩
  exact ask_any g b L L.length wx hb rfl hL
theorem results_tmp4 {fn : Func} {t u v x : Tmp} (h : fn.results = #[.tmp t, .tmp u, .tmp v, .tmp x]) (tmps : Array Value) (P : Program) (w : World) :
    (results fn tmps).run P w = .ok (.tuple #[tmps.getD t undef, tmps.getD u undef, tmps.getD v undef, tmps.getD x undef]) w := by
  simp [results, h]
theorem wrap_sl {g : Gm} {a : Int} (h0 : 0 ≤ a) (h2 : a ≤ 2) : IntKind.i64.wrap (a * slot g) = a * slot g ∧ 0 ≤ a * slot g ∧ a * slot g ≤ 224 := by
  have hs := slot_le g
  have e : a = 0 ∨ a = 1 ∨ a = 2 := by omega
  rcases e with rfl | rfl | rfl
  · rw [Int.zero_mul]; exact ⟨rfl, by decide, by decide⟩
  · rw [Int.one_mul, IntKind.wrap_i64]; omega
  · rw [IntKind.wrap_i64]; omega
set_option maxHeartbeats 2000000 in
theorem sector_any (g : Gm) (a b c : Int) (w : World) :
    Calls Tryd.prog 9 #[geoV g, .int .i64 a, .int .i64 b, .int .i64 c] w fun e w' => e = .returned (.tuple #[.int .i64 (sect g a b c), .int .i64 (sectQ g a b c)]) ∧ Below w.heap.size w w' := by
  have HX := Lib.hid fun w1 => wide_any g w1
  have HSL := Lib.hid fun w1 => slot_any g w1
  have H1 : Hid (∀ w1, Calls Tryd.prog 17 #[.int .i64 a, .int .i64 3] w1 fun e w' => e = .returned (.agg #[.int .i64 a, .int .i64 0, .int .i64 2]) ∧ Below w1.heap.size w1 w') := Lib.hid fun w1 => below_any a 3 2 w1 (by unfold wrap64; omega)
  have H2 : Hid (∀ w1, Calls Tryd.prog 17 #[.int .i64 b, .int .i64 g.s] w1 fun e w' => e = .returned (.agg #[.int .i64 b, .int .i64 0, .int .i64 (wrap64 (g.s - 1))]) ∧ Below w1.heap.size w1 w') := Lib.hid fun w1 => below_any b g.s _ w1 rfl
  have H3 : Hid (∀ w1, Calls Tryd.prog 17 #[.int .i64 c, .int .i64 (wide g)] w1 fun e w' => e = .returned (.agg #[.int .i64 c, .int .i64 0, .int .i64 (wrap64 (wide g - 1))]) ∧ Below w1.heap.size w1 w') := Lib.hid fun w1 => below_any c (wide g) _ w1 rfl
  have hQ : askF g [⟨a, 0, 2⟩, ⟨b, 0, wrap64 (g.s - 1)⟩, ⟨c, 0, wrap64 (wide g - 1)⟩] = sectQ g a b c := ask_wrap g _ _ fun h => by
    have hr := (right_iff g).1 h
    have hw := wide_le g
    have h1 := hr.s1
    have h8 := hr.s8
    have e1 : wrap64 (g.s - 1) = g.s - 1 := by unfold wrap64; omega
    have e2 : wrap64 (wide g - 1) = wide g - 1 := by unfold wrap64; omega
    rw [e1, e2]
  have HA := Lib.hid (ask_val g [⟨a, 0, 2⟩, ⟨b, 0, wrap64 (g.s - 1)⟩, ⟨c, 0, wrap64 (wide g - 1)⟩] w (by show 3 < 1000; decide))
  rw [hQ] at HA
  clear hQ
  have HNO : Hid (¬ sectQ g a b c = 0 → sect g a b c = 0) := Lib.hid fun h => if_neg h
  have HYES : Hid (sectQ g a b c = 0 → sect g a b c = a * slot g + c * g.s + b ∧ (0 ≤ a * slot g ∧ a * slot g ≤ 224 ∧ 0 ≤ c * g.s ∧ c * g.s ≤ 104 ∧ 0 ≤ b ∧ b ≤ 7) ∧ IntKind.i64.wrap (a * slot g) = a * slot g ∧ IntKind.i64.wrap (c * g.s) = c * g.s) := Lib.hid fun h => by
    have hi := (sectQ_zero g a b c).1 h
    have hw := wrap_sl (g := g) hi.a0 hi.a2
    have h1 : 0 ≤ c * g.s := Int.mul_nonneg hi.c0 (by have := hi.r.s1; omega)
    have h2 : c * g.s ≤ 13 * g.s := Int.mul_le_mul_of_nonneg_right (by have := hi.cw; have := hi.r.d8; have := hi.r.p6; omega) (by have := hi.r.s1; omega)
    have h8 := hi.r.s8
    have hb := hi.bs
    refine ⟨if_pos h, ⟨hw.2.1, hw.2.2, h1, by omega, hi.b0, by omega⟩, hw.1, ?_⟩
    rw [IntKind.wrap_i64]
    omega
  generalize sect g a b c = rr at HNO HYES ⊢
  generalize sectQ g a b c = q at HA HNO HYES ⊢
  generalize hm1 : a * slot g = m1 at HYES
  generalize hm2 : c * g.s = m2 at HYES
  have M1 := Lib.hid hm1
  have M2 := Lib.hid hm2
  generalize slot g = sl at HSL M1 hm1
  generalize wrap64 (g.s - 1) = sm at H2 HA
  generalize wrap64 (wide g - 1) = wm at H3 HA
  generalize wide g = wd at HX H3
  rw [← M1.out, ← M2.out] at HYES
  clear hm1 hm2 M1 M2
  obtain ⟨d, p, s⟩ := g
  dsimp only [geoV] at HX HSL H2 HA HYES ⊢
  generalize hm1 : a * sl = m1 at HYES
  generalize hm2 : c * s = m2 at HYES
  have M1 := Lib.hid hm1
  have M2 := Lib.hid hm2
  have HYES : Hid (q = 0 → rr = m1 + m2 + b ∧ (0 ≤ m1 ∧ m1 ≤ 224 ∧ 0 ≤ m2 ∧ m2 ≤ 104 ∧ 0 ≤ b ∧ b ≤ 7) ∧ IntKind.i64.wrap (a * sl) = m1 ∧ IntKind.i64.wrap (c * s) = m2) := Lib.hid (by rw [M1.out, M2.out]; exact HYES.out)
  clear hm1 hm2 M1 M2
  go_enter Tryd.func9, Tryd.ntmps9
  go_wp2_with ((with_reducible refine wpBoxK [Value.int .i64 d, .int .i64 p, .int .i64 s] 23 ?_ ?_); rfl; intro w1 r1 b1 s1; have R1 := Lib.hid r1; have B1 := Lib.hid b1; clear r1 b1 s1)
  have HLT : Hid (w.heap.size < w1.heap.size) := Lib.hid R1.out.lt
  have C0 : Hid (w1.cell? ⟨w.heap.size, 0, none⟩ = some (.int .i64 d)) := Lib.hid (R1.out.cell 0)
  have C1 : Hid (w1.cell? ⟨w.heap.size, 1, none⟩ = some (.int .i64 p)) := Lib.hid (R1.out.cell 1)
  have C2 : Hid (w1.cell? ⟨w.heap.size, 2, none⟩ = some (.int .i64 s)) := Lib.hid (R1.out.cell 2)
  refine region_invX [(0, 11), (1, 12), (2, 13), (3, 14), (4, 15), (5, 16), (6, 17), (7, 18), (8, 19), (9, 20), (10, 21), (11, 22), (12, 23), (13, 10)]
    (fun ii => [Is (.agg #[(.int .i64 d), (.int .i64 p), (.int .i64 s)]), Is (.int .i64 a), Is (.agg #[.int .i64 a, .int .i64 0, .int .i64 2]), Is (.int .i64 b), Is (.pointer (some ⟨w.heap.size, 2, none⟩)), Is (.int .i64 s), Is (.agg #[.int .i64 b, .int .i64 0, .int .i64 sm]), Is (.int .i64 c), Is (.agg #[(.int .i64 d), (.int .i64 p), (.int .i64 s)]), Is (.int .i64 wd), Is (.agg #[.int .i64 c, .int .i64 0, .int .i64 wm]), Sps [⟨a, 0, 2⟩, ⟨b, 0, sm⟩, ⟨c, 0, wm⟩], Is (.int .i64 q), Is (.int .i64 q)].getD ii (Is undef))
    (fun w' => Below w1.heap.size w1 w') (by kernel_rfl) (by kernel_rfl) (by decide) (by decide) (by kernel_rfl) rfl ?monoq ((Below.refl _ _).drew) ?stepq ?finq
  case monoq =>
    intro i
    match i with
    | 0 | 1 | 2 | 3 | 4 | 5 | 6 | 7 | 8 | 9 | 10 | 12 | 13 => exact Is.monot _
    | 11 => exact Sps.monot _
    | _ + 14 => exact Is.monot _
  case stepq =>
    refine List.forall_mem_cons.2 ⟨?qs0, List.forall_mem_cons.2 ⟨?qs1, List.forall_mem_cons.2 ⟨?qs2, List.forall_mem_cons.2 ⟨?qs3, List.forall_mem_cons.2 ⟨?qs4, List.forall_mem_cons.2 ⟨?qs5, List.forall_mem_cons.2 ⟨?qs6, List.forall_mem_cons.2 ⟨?qs7, List.forall_mem_cons.2 ⟨?qs8, List.forall_mem_cons.2 ⟨?qs9, List.forall_mem_cons.2 ⟨?qs10, List.forall_mem_cons.2 ⟨?qs11, List.forall_mem_cons.2 ⟨?qs12, List.forall_mem_cons.2 ⟨?qs13, List.forall_mem_nil _⟩⟩⟩⟩⟩⟩⟩⟩⟩⟩⟩⟩⟩⟩
    case qs0 =>
      intro u wx hg hC
      clear hC
      have hcl0 : wx.cell? ⟨w.heap.size, 0, none⟩ = some (.int .i64 d) := (hg.cell (p := ⟨w.heap.size, 0, none⟩) HLT.out).trans C0.out
      have hcl1 : wx.cell? ⟨w.heap.size, 1, none⟩ = some (.int .i64 p) := (hg.cell (p := ⟨w.heap.size, 1, none⟩) HLT.out).trans C1.out
      have hcl2 : wx.cell? ⟨w.heap.size, 2, none⟩ = some (.int .i64 s) := (hg.cell (p := ⟨w.heap.size, 2, none⟩) HLT.out).trans C2.out
      refine wpOp_step rfl (fun K hK => ?_)
      simp only [puts, List.foldl]
      go_simp
      exact hK _ _ ⟨rfl, rfl, hg, Below.refl _ _⟩
    case qs1 =>
      intro u wx hg hC
      clear hC
      refine wpOp_step rfl (fun K hK => ?_)
      simp only [puts, List.foldl]
      go_simp
      exact hK _ _ ⟨rfl, rfl, hg, Below.refl _ _⟩
    case qs2 =>
      intro u wx hg hC
      have hJ1 : u 1 = (.int .i64 a) := hC.at 1 (by kernel_rfl)
      clear hC
      refine wpOp_step rfl (fun K hK => ?_)
      simp only [puts, List.foldl]
      go_simp
      refine (H1.out wx).mono ?_
      rintro e w' ⟨rfl, hb'⟩
      exact hK _ _ ⟨rfl, rfl, hg.next hb', hb'⟩
    case qs3 =>
      intro u wx hg hC
      clear hC
      refine wpOp_step rfl (fun K hK => ?_)
      simp only [puts, List.foldl]
      go_simp
      exact hK _ _ ⟨rfl, rfl, hg, Below.refl _ _⟩
    case qs4 =>
      intro u wx hg hC
      clear hC
      refine wpOp_step rfl (fun K hK => ?_)
      simp only [puts, List.foldl]
      go_simp
      exact hK _ _ ⟨rfl, rfl, hg, Below.refl _ _⟩
    case qs5 =>
      intro u wx hg hC
      have hJ4 : u 4 = (.pointer (some ⟨w.heap.size, 2, none⟩)) := hC.at 4 (by kernel_rfl)
      clear hC
      have hcl : wx.cell? ⟨w.heap.size, 2, none⟩ = some (.int .i64 s) := (hg.cell (p := ⟨w.heap.size, 2, none⟩) HLT.out).trans C2.out
      refine wpOp_step rfl (fun K hK => ?_)
      simp only [puts, List.foldl]
      go_simp
      exact hK _ _ ⟨rfl, rfl, hg, Below.refl _ _⟩
    case qs6 =>
      intro u wx hg hC
      have hJ3 : u 3 = (.int .i64 b) := hC.at 3 (by kernel_rfl)
      have hJ5 : u 5 = (.int .i64 s) := hC.at 5 (by kernel_rfl)
      clear hC
      refine wpOp_step rfl (fun K hK => ?_)
      simp only [puts, List.foldl]
      go_simp
      refine (H2.out wx).mono ?_
      rintro e w' ⟨rfl, hb'⟩
      exact hK _ _ ⟨rfl, rfl, hg.next hb', hb'⟩
    case qs7 =>
      intro u wx hg hC
      clear hC
      refine wpOp_step rfl (fun K hK => ?_)
      simp only [puts, List.foldl]
      go_simp
      exact hK _ _ ⟨rfl, rfl, hg, Below.refl _ _⟩
    case qs8 =>
      intro u wx hg hC
      clear hC
      have hcl0 : wx.cell? ⟨w.heap.size, 0, none⟩ = some (.int .i64 d) := (hg.cell (p := ⟨w.heap.size, 0, none⟩) HLT.out).trans C0.out
      have hcl1 : wx.cell? ⟨w.heap.size, 1, none⟩ = some (.int .i64 p) := (hg.cell (p := ⟨w.heap.size, 1, none⟩) HLT.out).trans C1.out
      have hcl2 : wx.cell? ⟨w.heap.size, 2, none⟩ = some (.int .i64 s) := (hg.cell (p := ⟨w.heap.size, 2, none⟩) HLT.out).trans C2.out
      refine wpOp_step rfl (fun K hK => ?_)
      simp only [puts, List.foldl]
      go_simp
      exact hK _ _ ⟨rfl, rfl, hg, Below.refl _ _⟩
    case qs9 =>
      intro u wx hg hC
      have hJ8 : u 8 = (.agg #[(.int .i64 d), (.int .i64 p), (.int .i64 s)]) := hC.at 8 (by kernel_rfl)
      clear hC
      refine wpOp_step rfl (fun K hK => ?_)
      simp only [puts, List.foldl]
      go_simp
      refine (HX.out wx).mono ?_
      rintro e w' ⟨rfl, hb'⟩
      exact hK _ _ ⟨rfl, rfl, hg.next hb', hb'⟩
    case qs10 =>
      intro u wx hg hC
      have hJ7 : u 7 = (.int .i64 c) := hC.at 7 (by kernel_rfl)
      have hJ9 : u 9 = (.int .i64 wd) := hC.at 9 (by kernel_rfl)
      clear hC
      refine wpOp_step rfl (fun K hK => ?_)
      simp only [puts, List.foldl]
      go_simp
      refine (H3.out wx).mono ?_
      rintro e w' ⟨rfl, hb'⟩
      exact hK _ _ ⟨rfl, rfl, hg.next hb', hb'⟩
    case qs11 =>
      intro u wx hg hC
      have hJ2 : u 2 = (.agg #[.int .i64 a, .int .i64 0, .int .i64 2]) := hC.at 2 (by kernel_rfl)
      have hJ6 : u 6 = (.agg #[.int .i64 b, .int .i64 0, .int .i64 sm]) := hC.at 6 (by kernel_rfl)
      have hJ10 : u 10 = (.agg #[.int .i64 c, .int .i64 0, .int .i64 wm]) := hC.at 10 (by kernel_rfl)
      clear hC
      refine wpOp_step rfl (fun K hK => ?_)
      simp only [puts, List.foldl]
      go_simp
      exact hK _ _ ⟨rfl, sps_new [⟨a, 0, 2⟩, ⟨b, 0, sm⟩, ⟨c, 0, wm⟩] _ 3 wx rfl rfl, hg.alloc hg.size _, alloc_below _ _⟩
    case qs12 =>
      intro u wx hg hC
      have hJ0 : u 0 = (.agg #[(.int .i64 d), (.int .i64 p), (.int .i64 s)]) := hC.at 0 (by kernel_rfl)
      have hJ11 : (Sps [⟨a, 0, 2⟩, ⟨b, 0, sm⟩, ⟨c, 0, wm⟩]) (u 11) wx := hC.at 11 (by kernel_rfl)
      clear hC
      refine wpOp_step rfl (fun K hK => ?_)
      simp only [puts, List.foldl]
      go_simp
      refine (HA.out wx _ hJ11).mono ?_
      rintro e w' ⟨rfl, hb'⟩
      exact hK _ _ ⟨rfl, rfl, hg.next hb', hb'⟩
    case qs13 =>
      intro u wx hg hC
      have hJ12 : u 12 = (.int .i64 q) := hC.at 12 (by kernel_rfl)
      clear hC
      refine wpOp_step rfl (fun K hK => ?_)
      simp only [puts, List.foldl]
      go_simp
      exact hK _ _ ⟨rfl, rfl, hg, Below.refl _ _⟩
  case finq =>
    intro u wq hbq hφ
    have e10 : u 13 = .int .i64 q := hφ (13, 10) (by decide)
    clear hφ
    simp only [puts, List.foldl]
    go_simp
    have BQ := Lib.hid (B1.out.next hbq)
    have RQ := Lib.hid (R1.out.step hbq)
    clear hbq e10
    cases hz : decide (q = 0) with
    | false =>
      have hq0 : ¬ q = 0 := of_decide_eq_false hz
      have hq1 : (q == 0) = false := beq_false_of_ne hq0
      have hq2 : (q != 0) = true := by rw [bne, hq1]; rfl
      have HN := Lib.hid (HNO.out hq0)
      clear hz
      go_wp2
      go_ret2
      exact ⟨by rw [HN.out]; rfl, BQ.out⟩
    | true =>
      have hq0 : q = 0 := of_decide_eq_true hz
      have HIN := HYES.out hq0
      have HE := Lib.hid HIN.1
      have HM := Lib.hid HIN.2.1
      have W1 := Lib.hid HIN.2.2.1
      have W2 := Lib.hid HIN.2.2.2
      subst hq0
      clear hz HIN
      go_wp2
      have HLT : Hid (w.heap.size < wq.heap.size) := Lib.hid RQ.out.lt
      have C0 : Hid (wq.cell? ⟨w.heap.size, 0, none⟩ = some (.int .i64 d)) := Lib.hid (RQ.out.cell 0)
      have C1 : Hid (wq.cell? ⟨w.heap.size, 1, none⟩ = some (.int .i64 p)) := Lib.hid (RQ.out.cell 1)
      have C2 : Hid (wq.cell? ⟨w.heap.size, 2, none⟩ = some (.int .i64 s)) := Lib.hid (RQ.out.cell 2)
      refine region_invX [(0, 27), (1, 28), (2, 29), (3, 30), (4, 31), (5, 32), (6, 33), (7, 34), (8, 35), (9, 36), (10, 37), (11, 8), (12, 9)]
        (fun ii => [Is (.int .i64 a), Is (.agg #[(.int .i64 d), (.int .i64 p), (.int .i64 s)]), Is (.int .i64 sl), Is (.int .i64 m1), Is (.int .i64 c), Is (.pointer (some ⟨w.heap.size, 2, none⟩)), Is (.int .i64 s), Is (.int .i64 m2), Is (.int .i64 (m1 + m2)), Is (.int .i64 b), Is (.int .i64 (m1 + m2 + b)), Is (.int .i64 (m1 + m2 + b)), Is (.int .i64 0)].getD ii (Is undef))
        (fun w' => Below wq.heap.size wq w') (by kernel_rfl) (by kernel_rfl) (by decide) (by decide) (by kernel_rfl) rfl ?monor ((Below.refl _ _).drew) ?stepr ?finr
      case monor =>
        intro i
        match i with
        | 0 | 1 | 2 | 3 | 4 | 5 | 6 | 7 | 8 | 9 | 10 | 11 | 12 => exact Is.monot _
        | _ + 13 => exact Is.monot _
      case stepr =>
        refine List.forall_mem_cons.2 ⟨?rs0, List.forall_mem_cons.2 ⟨?rs1, List.forall_mem_cons.2 ⟨?rs2, List.forall_mem_cons.2 ⟨?rs3, List.forall_mem_cons.2 ⟨?rs4, List.forall_mem_cons.2 ⟨?rs5, List.forall_mem_cons.2 ⟨?rs6, List.forall_mem_cons.2 ⟨?rs7, List.forall_mem_cons.2 ⟨?rs8, List.forall_mem_cons.2 ⟨?rs9, List.forall_mem_cons.2 ⟨?rs10, List.forall_mem_cons.2 ⟨?rs11, List.forall_mem_cons.2 ⟨?rs12, List.forall_mem_nil _⟩⟩⟩⟩⟩⟩⟩⟩⟩⟩⟩⟩⟩
        case rs0 =>
          intro u wx hg hC
          clear hC
          refine wpOp_step rfl (fun K hK => ?_)
          simp only [puts, List.foldl]
          go_simp
          exact hK _ _ ⟨rfl, rfl, hg, Below.refl _ _⟩
        case rs1 =>
          intro u wx hg hC
          clear hC
          have hcl0 : wx.cell? ⟨w.heap.size, 0, none⟩ = some (.int .i64 d) := (hg.cell (p := ⟨w.heap.size, 0, none⟩) HLT.out).trans C0.out
          have hcl1 : wx.cell? ⟨w.heap.size, 1, none⟩ = some (.int .i64 p) := (hg.cell (p := ⟨w.heap.size, 1, none⟩) HLT.out).trans C1.out
          have hcl2 : wx.cell? ⟨w.heap.size, 2, none⟩ = some (.int .i64 s) := (hg.cell (p := ⟨w.heap.size, 2, none⟩) HLT.out).trans C2.out
          refine wpOp_step rfl (fun K hK => ?_)
          simp only [puts, List.foldl]
          go_simp
          exact hK _ _ ⟨rfl, rfl, hg, Below.refl _ _⟩
        case rs2 =>
          intro u wx hg hC
          have hJ1 : u 1 = (.agg #[(.int .i64 d), (.int .i64 p), (.int .i64 s)]) := hC.at 1 (by kernel_rfl)
          clear hC
          refine wpOp_step rfl (fun K hK => ?_)
          simp only [puts, List.foldl]
          go_simp
          refine (HSL.out wx).mono ?_
          rintro e w' ⟨rfl, hb'⟩
          exact hK _ _ ⟨rfl, rfl, hg.next hb', hb'⟩
        case rs3 =>
          intro u wx hg hC
          have hJ0 : u 0 = (.int .i64 a) := hC.at 0 (by kernel_rfl)
          have hJ2 : u 2 = (.int .i64 sl) := hC.at 2 (by kernel_rfl)
          clear hC
          have hw : IntKind.i64.wrap (a * sl) = m1 := W1.out
          refine wpOp_step rfl (fun K hK => ?_)
          simp only [puts, List.foldl]
          go_simp
          exact hK _ _ ⟨rfl, rfl, hg, Below.refl _ _⟩
        case rs4 =>
          intro u wx hg hC
          clear hC
          refine wpOp_step rfl (fun K hK => ?_)
          simp only [puts, List.foldl]
          go_simp
          exact hK _ _ ⟨rfl, rfl, hg, Below.refl _ _⟩
        case rs5 =>
          intro u wx hg hC
          clear hC
          refine wpOp_step rfl (fun K hK => ?_)
          simp only [puts, List.foldl]
          go_simp
          exact hK _ _ ⟨rfl, rfl, hg, Below.refl _ _⟩
        case rs6 =>
          intro u wx hg hC
          have hJ5 : u 5 = (.pointer (some ⟨w.heap.size, 2, none⟩)) := hC.at 5 (by kernel_rfl)
          clear hC
          have hcl : wx.cell? ⟨w.heap.size, 2, none⟩ = some (.int .i64 s) := (hg.cell (p := ⟨w.heap.size, 2, none⟩) HLT.out).trans C2.out
          refine wpOp_step rfl (fun K hK => ?_)
          simp only [puts, List.foldl]
          go_simp
          exact hK _ _ ⟨rfl, rfl, hg, Below.refl _ _⟩
        case rs7 =>
          intro u wx hg hC
          have hJ4 : u 4 = (.int .i64 c) := hC.at 4 (by kernel_rfl)
          have hJ6 : u 6 = (.int .i64 s) := hC.at 6 (by kernel_rfl)
          clear hC
          have hw : IntKind.i64.wrap (c * s) = m2 := W2.out
          refine wpOp_step rfl (fun K hK => ?_)
          simp only [puts, List.foldl]
          go_simp
          exact hK _ _ ⟨rfl, rfl, hg, Below.refl _ _⟩
        case rs8 =>
          intro u wx hg hC
          have hJ3 : u 3 = (.int .i64 m1) := hC.at 3 (by kernel_rfl)
          have hJ7 : u 7 = (.int .i64 m2) := hC.at 7 (by kernel_rfl)
          clear hC
          have hw : IntKind.i64.wrap (m1 + m2) = m1 + m2 := by have := HM.out; rw [IntKind.wrap_i64]; omega
          refine wpOp_step rfl (fun K hK => ?_)
          simp only [puts, List.foldl]
          go_simp
          exact hK _ _ ⟨rfl, rfl, hg, Below.refl _ _⟩
        case rs9 =>
          intro u wx hg hC
          clear hC
          refine wpOp_step rfl (fun K hK => ?_)
          simp only [puts, List.foldl]
          go_simp
          exact hK _ _ ⟨rfl, rfl, hg, Below.refl _ _⟩
        case rs10 =>
          intro u wx hg hC
          have hJ8 : u 8 = (.int .i64 (m1 + m2)) := hC.at 8 (by kernel_rfl)
          have hJ9 : u 9 = (.int .i64 b) := hC.at 9 (by kernel_rfl)
          clear hC
          have hw : IntKind.i64.wrap (m1 + m2 + b) = m1 + m2 + b := by have := HM.out; rw [IntKind.wrap_i64]; omega
          refine wpOp_step rfl (fun K hK => ?_)
          simp only [puts, List.foldl]
          go_simp
          exact hK _ _ ⟨rfl, rfl, hg, Below.refl _ _⟩
        case rs11 =>
          intro u wx hg hC
          have hJ10 : u 10 = (.int .i64 (m1 + m2 + b)) := hC.at 10 (by kernel_rfl)
          clear hC
          refine wpOp_step rfl (fun K hK => ?_)
          simp only [puts, List.foldl]
          go_simp
          exact hK _ _ ⟨rfl, rfl, hg, Below.refl _ _⟩
        case rs12 =>
          intro u wx hg hC
          clear hC
          refine wpOp_step rfl (fun K hK => ?_)
          simp only [puts, List.foldl]
          go_simp
          exact hK _ _ ⟨rfl, rfl, hg, Below.refl _ _⟩
      case finr =>
        intro u wr hbr hφ
        have e8 : u 11 = .int .i64 (m1 + m2 + b) := hφ (11, 8) (by decide)
        have e9 : u 12 = .int .i64 0 := hφ (12, 9) (by decide)
        clear hφ
        simp only [puts, List.foldl]
        go_simp
        have HBR := Lib.hid (BQ.out.next hbr)
        clear hbr e8 e9
        go_wp2
        go_ret2
        exact ⟨by rw [HE.out]; rfl, HBR.out⟩
end Go.Proofs.YtiakbdekleaaoaaDoor
