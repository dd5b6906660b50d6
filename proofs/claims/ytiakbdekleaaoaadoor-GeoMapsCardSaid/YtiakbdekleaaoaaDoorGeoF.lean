/- Contracts of geo's Of (gen_geo_e.py). -/
import Derived.Test.YtiakbdekleaaoaaDoorGeoE
namespace Go.Proofs.YtiakbdekleaaoaaDoor
open Go.RowKit GeoMath
set_option linter.unusedVariables false
set_option maxRecDepth 100000

set_option maxHeartbeats 4000000 in
theorem of_0 (g : Gm) (n : Int) (w : World) (hq : ofQ g n = 0) :
    Calls Tryd.prog 20 #[geoV g, .int .i64 n] w fun e w' => e = .returned (.tuple #[.int .i64 (ofA g n), .int .i64 (ofB g n), .int .i64 (ofC g n), .bool (ofK g n)]) ∧ Below w.heap.size w w' := by
  have HX := Lib.hid fun w1 => log_any g w1
  have HSL := Lib.hid fun w1 => slot_any g w1
  have H1 : Hid (∀ w1, Calls Tryd.prog 17 #[.int .i64 n, .int .i64 (log g)] w1 fun e w' => e = .returned (.agg #[.int .i64 n, .int .i64 0, .int .i64 (log g - 1)]) ∧ Below w1.heap.size w1 w') := Lib.hid fun w1 => below_any n (log g) (log g - 1) w1 (by have := log_le g; unfold wrap64; omega)
  have HA := Lib.hid (ask_val g [⟨n, 0, log g - 1⟩] w (by show 1 < 1000; decide))
  rw [← ofQ, hq] at HA
  have HE1 : Hid (ofA g n = n / slot g) := Lib.hid (if_pos hq)
  have HE2 : Hid (ofB g n = n % slot g % g.s) := Lib.hid (if_pos hq)
  have HE3 : Hid (ofC g n = n % slot g / g.s) := Lib.hid (if_pos hq)
  have HE4 : Hid (ofK g n = true) := Lib.hid (decide_eq_true hq)
  obtain ⟨hr, hk⟩ := ask_zero hq
  obtain ⟨x1, x2⟩ := (okAll1 _).1 hk
  dsimp only at x1 x2
  have hl := log_le g
  have hp := slot_pos hr
  have hm1 : 0 ≤ n % slot g := Int.emod_nonneg _ (by omega)
  have hm2 : n % slot g < slot g := Int.emod_lt_of_pos _ (by omega)
  have hs1 := hr.s1
  have hs8 := hr.s8
  have hsl := slot_le g
  have hd1 : 0 ≤ n / slot g := Int.ediv_nonneg x1 (by omega)
  have hd2 : n / slot g ≤ n := Int.ediv_le_self _ x1
  have hd3 : 0 ≤ n % slot g / g.s := Int.ediv_nonneg hm1 (by omega)
  have hd4 : n % slot g / g.s ≤ n % slot g := Int.ediv_le_self _ hm1
  have hd5 : 0 ≤ n % slot g % g.s := Int.emod_nonneg _ (by omega)
  have hd6 : n % slot g % g.s < g.s := Int.emod_lt_of_pos _ (by omega)
  have HS0 : Hid (¬ g.s = 0 ∧ (g.s == 0) = false) := Lib.hid ⟨by omega, beq_false_of_ne (by omega)⟩
  have HS1 : Hid (¬ slot g = 0 ∧ (slot g == 0) = false) := Lib.hid ⟨by omega, beq_false_of_ne (by omega)⟩
  have HD : Hid (n.tdiv (slot g) = n / slot g ∧ n.tmod (slot g) = n % slot g ∧ IntKind.i64.wrap (n / slot g) = n / slot g ∧ IntKind.i64.wrap (n % slot g) = n % slot g) :=
    Lib.hid ⟨Int.tdiv_eq_ediv_of_nonneg x1, Int.tmod_eq_emod_of_nonneg x1, by rw [IntKind.wrap_i64]; omega, by rw [IntKind.wrap_i64]; omega⟩
  have HZ : Hid ((n % slot g).tmod g.s = n % slot g % g.s ∧ (n % slot g).tdiv g.s = n % slot g / g.s ∧ IntKind.i64.wrap (n % slot g % g.s) = n % slot g % g.s ∧ IntKind.i64.wrap (n % slot g / g.s) = n % slot g / g.s) :=
    Lib.hid ⟨Int.tmod_eq_emod_of_nonneg hm1, Int.tdiv_eq_ediv_of_nonneg hm1, by rw [IntKind.wrap_i64]; omega, by rw [IntKind.wrap_i64]; omega⟩
  clear x1 x2 hl hp hm1 hm2 hs1 hs8 hsl hd1 hd2 hd3 hd4 hd5 hd6 hr hk
  generalize ofA g n = ra at HE1 ⊢
  generalize ofB g n = rb at HE2 ⊢
  generalize ofC g n = rc at HE3 ⊢
  generalize ofK g n = rk at HE4 ⊢
  generalize log g - 1 = lm at H1 HA
  generalize log g = lg at H1 HX
  generalize n % slot g % g.s = y1 at HE2 HZ
  generalize n % slot g / g.s = y2 at HE3 HZ
  generalize n % slot g = y at HD HZ
  generalize n / slot g = x at HD HE1
  generalize slot g = sl at HS1 HD HSL
  obtain ⟨d, p, s⟩ := g
  dsimp only [geoV] at *
  clear hq
  go_enter Tryd.func20, Tryd.ntmps20
  go_wp2_with ((with_reducible refine wpBoxK [Value.int .i64 d, .int .i64 p, .int .i64 s] 23 ?_ ?_); rfl; intro w1 r1 b1 s1; have R1 := Lib.hid r1; have B1 := Lib.hid b1; clear r1 b1 s1)
  have HLT : Hid (w.heap.size < w1.heap.size) := Lib.hid R1.out.lt
  have C0 : Hid (w1.cell? ⟨w.heap.size, 0, none⟩ = some (.int .i64 d)) := Lib.hid (R1.out.cell 0)
  have C1 : Hid (w1.cell? ⟨w.heap.size, 1, none⟩ = some (.int .i64 p)) := Lib.hid (R1.out.cell 1)
  have C2 : Hid (w1.cell? ⟨w.heap.size, 2, none⟩ = some (.int .i64 s)) := Lib.hid (R1.out.cell 2)
  refine region_invX [(0, 10), (1, 11), (2, 12), (3, 13), (4, 14), (5, 15), (6, 16), (7, 17)]
    (fun ii => [Is (.agg #[(.int .i64 d), (.int .i64 p), (.int .i64 s)]), Is (.int .i64 n), Is (.agg #[(.int .i64 d), (.int .i64 p), (.int .i64 s)]), Is (.int .i64 lg), Is (.agg #[.int .i64 n, .int .i64 0, .int .i64 lm]), Sps [⟨n, 0, lm⟩], Is (.int .i64 0), Is (.bool false)].getD ii (Is undef))
    (fun w' => Below w1.heap.size w1 w') (by kernel_rfl) (by kernel_rfl) (by decide) (by decide) (by kernel_rfl) rfl ?monoq ((Below.refl _ _).drew) ?stepq ?finq
  case monoq =>
    intro i
    match i with
    | 0 | 1 | 2 | 3 | 4 | 6 | 7 => exact Is.monot _
    | 5 => exact Sps.monot _
    | _ + 8 => exact Is.monot _
  case stepq =>
    refine List.forall_mem_cons.2 ⟨?qs0, List.forall_mem_cons.2 ⟨?qs1, List.forall_mem_cons.2 ⟨?qs2, List.forall_mem_cons.2 ⟨?qs3, List.forall_mem_cons.2 ⟨?qs4, List.forall_mem_cons.2 ⟨?qs5, List.forall_mem_cons.2 ⟨?qs6, List.forall_mem_cons.2 ⟨?qs7, List.forall_mem_nil _⟩⟩⟩⟩⟩⟩⟩⟩
    case qs0 =>
      intro u wx hg hC
      clear hC
      have hcl0 : wx.cell? ⟨w.heap.size, 0, none⟩ = some (.int .i64 d) := (hg.cell (p := ⟨w.heap.size, 0, none⟩) HLT.out).trans C0.out
      have hcl1 : wx.cell? ⟨w.heap.size, 1, none⟩ = some (.int .i64 p) := (hg.cell (p := ⟨w.heap.size, 1, none⟩) HLT.out).trans C1.out
      have hcl2 : wx.cell? ⟨w.heap.size, 2, none⟩ = some (.int .i64 s) := (hg.cell (p := ⟨w.heap.size, 2, none⟩) HLT.out).trans C2.out
      refine wpOp_step rfl (fun K hK => ?_)
      simp only [puts, List.foldl]
      go_simp
      exact hK _ _ ⟨rfl, rfl, hg, Below.refl _ _⟩
    case qs1 =>
      intro u wx hg hC
      clear hC
      refine wpOp_step rfl (fun K hK => ?_)
      simp only [puts, List.foldl]
      go_simp
      exact hK _ _ ⟨rfl, rfl, hg, Below.refl _ _⟩
    case qs2 =>
      intro u wx hg hC
      clear hC
      have hcl0 : wx.cell? ⟨w.heap.size, 0, none⟩ = some (.int .i64 d) := (hg.cell (p := ⟨w.heap.size, 0, none⟩) HLT.out).trans C0.out
      have hcl1 : wx.cell? ⟨w.heap.size, 1, none⟩ = some (.int .i64 p) := (hg.cell (p := ⟨w.heap.size, 1, none⟩) HLT.out).trans C1.out
      have hcl2 : wx.cell? ⟨w.heap.size, 2, none⟩ = some (.int .i64 s) := (hg.cell (p := ⟨w.heap.size, 2, none⟩) HLT.out).trans C2.out
      refine wpOp_step rfl (fun K hK => ?_)
      simp only [puts, List.foldl]
      go_simp
      exact hK _ _ ⟨rfl, rfl, hg, Below.refl _ _⟩
    case qs3 =>
      intro u wx hg hC
      have hJ2 : u 2 = (.agg #[(.int .i64 d), (.int .i64 p), (.int .i64 s)]) := hC.at 2 (by kernel_rfl)
      clear hC
      refine wpOp_step rfl (fun K hK => ?_)
      simp only [puts, List.foldl]
      go_simp
      refine (HX.out wx).mono ?_
      rintro e w' ⟨rfl, hb'⟩
      exact hK _ _ ⟨rfl, rfl, hg.next hb', hb'⟩
    case qs4 =>
      intro u wx hg hC
      have hJ1 : u 1 = (.int .i64 n) := hC.at 1 (by kernel_rfl)
      have hJ3 : u 3 = (.int .i64 lg) := hC.at 3 (by kernel_rfl)
      clear hC
      refine wpOp_step rfl (fun K hK => ?_)
      simp only [puts, List.foldl]
      go_simp
      refine (H1.out wx).mono ?_
      rintro e w' ⟨rfl, hb'⟩
      exact hK _ _ ⟨rfl, rfl, hg.next hb', hb'⟩
    case qs5 =>
      intro u wx hg hC
      have hJ4 : u 4 = (.agg #[.int .i64 n, .int .i64 0, .int .i64 lm]) := hC.at 4 (by kernel_rfl)
      clear hC
      refine wpOp_step rfl (fun K hK => ?_)
      simp only [puts, List.foldl]
      go_simp
      exact hK _ _ ⟨rfl, sps_new [⟨n, 0, lm⟩] _ 1 wx rfl rfl, hg.alloc hg.size _, alloc_below _ _⟩
    case qs6 =>
      intro u wx hg hC
      have hJ0 : u 0 = (.agg #[(.int .i64 d), (.int .i64 p), (.int .i64 s)]) := hC.at 0 (by kernel_rfl)
      have hJ5 : (Sps [⟨n, 0, lm⟩]) (u 5) wx := hC.at 5 (by kernel_rfl)
      clear hC
      refine wpOp_step rfl (fun K hK => ?_)
      simp only [puts, List.foldl]
      go_simp
      refine (HA.out wx _ hJ5).mono ?_
      rintro e w' ⟨rfl, hb'⟩
      exact hK _ _ ⟨rfl, rfl, hg.next hb', hb'⟩
    case qs7 =>
      intro u wx hg hC
      have hJ6 : u 6 = (.int .i64 0) := hC.at 6 (by kernel_rfl)
      clear hC
      refine wpOp_step rfl (fun K hK => ?_)
      simp only [puts, List.foldl]
      go_simp
      exact hK _ _ ⟨rfl, rfl, hg, Below.refl _ _⟩
  case finq =>
    intro u wq hbq hφ
    have e8 : u 7 = .bool false := hφ (7, 17) (by decide)
    clear hφ
    simp only [puts, List.foldl]
    go_simp
    have BQ := Lib.hid (B1.out.next hbq)
    have RQ := Lib.hid (R1.out.step hbq)
    clear hbq e8
    go_wp2
    have HLT : Hid (w.heap.size < wq.heap.size) := Lib.hid RQ.out.lt
    have C0 : Hid (wq.cell? ⟨w.heap.size, 0, none⟩ = some (.int .i64 d)) := Lib.hid (RQ.out.cell 0)
    have C1 : Hid (wq.cell? ⟨w.heap.size, 1, none⟩ = some (.int .i64 p)) := Lib.hid (RQ.out.cell 1)
    have C2 : Hid (wq.cell? ⟨w.heap.size, 2, none⟩ = some (.int .i64 s)) := Lib.hid (RQ.out.cell 2)
    refine region_invX [(0, 18), (1, 19), (2, 20), (3, 21), (4, 22), (5, 23), (6, 24), (7, 25), (8, 8), (9, 9)]
      (fun ii => [Is (.int .i64 n), Is (.agg #[(.int .i64 d), (.int .i64 p), (.int .i64 s)]), Is (.int .i64 sl), Is (.int .i64 x), Is (.int .i64 n), Is (.agg #[(.int .i64 d), (.int .i64 p), (.int .i64 s)]), Is (.int .i64 sl), Is (.int .i64 y), Is (.int .i64 x), Is (.int .i64 y)].getD ii (Is undef))
      (fun w' => Below wq.heap.size wq w') (by kernel_rfl) (by kernel_rfl) (by decide) (by decide) (by kernel_rfl) rfl ?monor ((Below.refl _ _).drew) ?stepr ?finr
    case monor =>
      intro i
      match i with
      | 0 | 1 | 2 | 3 | 4 | 5 | 6 | 7 | 8 | 9 => exact Is.monot _
      | _ + 10 => exact Is.monot _
    case stepr =>
      refine List.forall_mem_cons.2 ⟨?rs0, List.forall_mem_cons.2 ⟨?rs1, List.forall_mem_cons.2 ⟨?rs2, List.forall_mem_cons.2 ⟨?rs3, List.forall_mem_cons.2 ⟨?rs4, List.forall_mem_cons.2 ⟨?rs5, List.forall_mem_cons.2 ⟨?rs6, List.forall_mem_cons.2 ⟨?rs7, List.forall_mem_cons.2 ⟨?rs8, List.forall_mem_cons.2 ⟨?rs9, List.forall_mem_nil _⟩⟩⟩⟩⟩⟩⟩⟩⟩⟩
      case rs0 =>
        intro u wx hg hC
        clear hC
        refine wpOp_step rfl (fun K hK => ?_)
        simp only [puts, List.foldl]
        go_simp
        exact hK _ _ ⟨rfl, rfl, hg, Below.refl _ _⟩
      case rs1 =>
        intro u wx hg hC
        clear hC
        have hcl0 : wx.cell? ⟨w.heap.size, 0, none⟩ = some (.int .i64 d) := (hg.cell (p := ⟨w.heap.size, 0, none⟩) HLT.out).trans C0.out
        have hcl1 : wx.cell? ⟨w.heap.size, 1, none⟩ = some (.int .i64 p) := (hg.cell (p := ⟨w.heap.size, 1, none⟩) HLT.out).trans C1.out
        have hcl2 : wx.cell? ⟨w.heap.size, 2, none⟩ = some (.int .i64 s) := (hg.cell (p := ⟨w.heap.size, 2, none⟩) HLT.out).trans C2.out
        refine wpOp_step rfl (fun K hK => ?_)
        simp only [puts, List.foldl]
        go_simp
        exact hK _ _ ⟨rfl, rfl, hg, Below.refl _ _⟩
      case rs2 =>
        intro u wx hg hC
        have hJ1 : u 1 = (.agg #[(.int .i64 d), (.int .i64 p), (.int .i64 s)]) := hC.at 1 (by kernel_rfl)
        clear hC
        refine wpOp_step rfl (fun K hK => ?_)
        simp only [puts, List.foldl]
        go_simp
        refine (HSL.out wx).mono ?_
        rintro e w' ⟨rfl, hb'⟩
        exact hK _ _ ⟨rfl, rfl, hg.next hb', hb'⟩
      case rs3 =>
        intro u wx hg hC
        have hJ0 : u 0 = (.int .i64 n) := hC.at 0 (by kernel_rfl)
        have hJ2 : u 2 = (.int .i64 sl) := hC.at 2 (by kernel_rfl)
        clear hC
        have hw : n.tdiv sl = x := HD.out.1
        have hw2 : IntKind.i64.wrap x = x := HD.out.2.2.1
        have hn1 := HS1.out.1
        have hn2 := HS1.out.2
        refine wpOp_step rfl (fun K hK => ?_)
        simp only [puts, List.foldl]
        go_simp
        exact hK _ _ ⟨rfl, rfl, hg, Below.refl _ _⟩
      case rs4 =>
        intro u wx hg hC
        clear hC
        refine wpOp_step rfl (fun K hK => ?_)
        simp only [puts, List.foldl]
        go_simp
        exact hK _ _ ⟨rfl, rfl, hg, Below.refl _ _⟩
      case rs5 =>
        intro u wx hg hC
        clear hC
        have hcl0 : wx.cell? ⟨w.heap.size, 0, none⟩ = some (.int .i64 d) := (hg.cell (p := ⟨w.heap.size, 0, none⟩) HLT.out).trans C0.out
        have hcl1 : wx.cell? ⟨w.heap.size, 1, none⟩ = some (.int .i64 p) := (hg.cell (p := ⟨w.heap.size, 1, none⟩) HLT.out).trans C1.out
        have hcl2 : wx.cell? ⟨w.heap.size, 2, none⟩ = some (.int .i64 s) := (hg.cell (p := ⟨w.heap.size, 2, none⟩) HLT.out).trans C2.out
        refine wpOp_step rfl (fun K hK => ?_)
        simp only [puts, List.foldl]
        go_simp
        exact hK _ _ ⟨rfl, rfl, hg, Below.refl _ _⟩
      case rs6 =>
        intro u wx hg hC
        have hJ5 : u 5 = (.agg #[(.int .i64 d), (.int .i64 p), (.int .i64 s)]) := hC.at 5 (by kernel_rfl)
        clear hC
        refine wpOp_step rfl (fun K hK => ?_)
        simp only [puts, List.foldl]
        go_simp
        refine (HSL.out wx).mono ?_
        rintro e w' ⟨rfl, hb'⟩
        exact hK _ _ ⟨rfl, rfl, hg.next hb', hb'⟩
      case rs7 =>
        intro u wx hg hC
        have hJ4 : u 4 = (.int .i64 n) := hC.at 4 (by kernel_rfl)
        have hJ6 : u 6 = (.int .i64 sl) := hC.at 6 (by kernel_rfl)
        clear hC
        have hw : n.tmod sl = y := HD.out.2.1
        have hw2 : IntKind.i64.wrap y = y := HD.out.2.2.2
        have hn1 := HS1.out.1
        have hn2 := HS1.out.2
        refine wpOp_step rfl (fun K hK => ?_)
        simp only [puts, List.foldl]
        go_simp
        exact hK _ _ ⟨rfl, rfl, hg, Below.refl _ _⟩
      case rs8 =>
        intro u wx hg hC
        have hJ3 : u 3 = (.int .i64 x) := hC.at 3 (by kernel_rfl)
        clear hC
        refine wpOp_step rfl (fun K hK => ?_)
        simp only [puts, List.foldl]
        go_simp
        exact hK _ _ ⟨rfl, rfl, hg, Below.refl _ _⟩
      case rs9 =>
        intro u wx hg hC
        have hJ7 : u 7 = (.int .i64 y) := hC.at 7 (by kernel_rfl)
        clear hC
        refine wpOp_step rfl (fun K hK => ?_)
        simp only [puts, List.foldl]
        go_simp
        exact hK _ _ ⟨rfl, rfl, hg, Below.refl _ _⟩
    case finr =>
      intro u wr hbr hφ
      have e8 : u 8 = .int .i64 x := hφ (8, 8) (by decide)
      have e9 : u 9 = .int .i64 y := hφ (9, 9) (by decide)
      clear hφ
      simp only [puts, List.foldl]
      go_simp
      have HBR := Lib.hid (BQ.out.next hbr)
      have c2 : wr.cell? ⟨w.heap.size, 2, none⟩ = some (.int .i64 s) := (RQ.out.step hbr).cell 2
      clear hbr e8 e9
      have hs0 := HS0.out.1
      have hs1 := HS0.out.2
      have z1 := HZ.out.1
      have z2 := HZ.out.2.1
      have z3 := HZ.out.2.2.1
      have z4 := HZ.out.2.2.2
      go_wp2
      go_quiet (fail)
      go_wp2
      refine bodyPost_ret (results_tmp4 rfl _ _ _) rfl ?_
      exact ⟨by rw [HE1.out, HE2.out, HE3.out, HE4.out]; rfl, HBR.out.drewN _⟩
set_option maxHeartbeats 4000000 in
theorem of_1 (g : Gm) (n : Int) (w : World) (hq : ofQ g n = 1) :
    Calls Tryd.prog 20 #[geoV g, .int .i64 n] w fun e w' => e = .returned (.tuple #[.int .i64 (ofA g n), .int .i64 (ofB g n), .int .i64 (ofC g n), .bool (ofK g n)]) ∧ Below w.heap.size w w' := by
  have HX := Lib.hid fun w1 => log_any g w1
  have HSL := Lib.hid fun w1 => slot_any g w1
  have H1 : Hid (∀ w1, Calls Tryd.prog 17 #[.int .i64 n, .int .i64 (log g)] w1 fun e w' => e = .returned (.agg #[.int .i64 n, .int .i64 0, .int .i64 (log g - 1)]) ∧ Below w1.heap.size w1 w') := Lib.hid fun w1 => below_any n (log g) (log g - 1) w1 (by have := log_le g; unfold wrap64; omega)
  have HA := Lib.hid (ask_val g [⟨n, 0, log g - 1⟩] w (by show 1 < 1000; decide))
  rw [← ofQ, hq] at HA
  have HE1 : Hid (ofA g n = 0) := Lib.hid (if_neg (by rw [hq]; decide))
  have HE2 : Hid (ofB g n = 0) := Lib.hid (if_neg (by rw [hq]; decide))
  have HE3 : Hid (ofC g n = 0) := Lib.hid (if_neg (by rw [hq]; decide))
  have HE4 : Hid (ofK g n = false) := Lib.hid (decide_eq_false (by rw [hq]; decide))
  generalize ofA g n = ra at HE1 ⊢
  generalize ofB g n = rb at HE2 ⊢
  generalize ofC g n = rc at HE3 ⊢
  generalize ofK g n = rk at HE4 ⊢
  generalize log g - 1 = lm at H1 HA
  generalize log g = lg at H1 HX
  clear HSL
  obtain ⟨d, p, s⟩ := g
  dsimp only [geoV] at *
  clear hq
  go_enter Tryd.func20, Tryd.ntmps20
  go_wp2_with ((with_reducible refine wpBoxK [Value.int .i64 d, .int .i64 p, .int .i64 s] 23 ?_ ?_); rfl; intro w1 r1 b1 s1; have R1 := Lib.hid r1; have B1 := Lib.hid b1; clear r1 b1 s1)
  have HLT : Hid (w.heap.size < w1.heap.size) := Lib.hid R1.out.lt
  have C0 : Hid (w1.cell? ⟨w.heap.size, 0, none⟩ = some (.int .i64 d)) := Lib.hid (R1.out.cell 0)
  have C1 : Hid (w1.cell? ⟨w.heap.size, 1, none⟩ = some (.int .i64 p)) := Lib.hid (R1.out.cell 1)
  have C2 : Hid (w1.cell? ⟨w.heap.size, 2, none⟩ = some (.int .i64 s)) := Lib.hid (R1.out.cell 2)
  refine region_invX [(0, 10), (1, 11), (2, 12), (3, 13), (4, 14), (5, 15), (6, 16), (7, 17)]
    (fun ii => [Is (.agg #[(.int .i64 d), (.int .i64 p), (.int .i64 s)]), Is (.int .i64 n), Is (.agg #[(.int .i64 d), (.int .i64 p), (.int .i64 s)]), Is (.int .i64 lg), Is (.agg #[.int .i64 n, .int .i64 0, .int .i64 lm]), Sps [⟨n, 0, lm⟩], Is (.int .i64 1), Is (.bool true)].getD ii (Is undef))
    (fun w' => Below w1.heap.size w1 w') (by kernel_rfl) (by kernel_rfl) (by decide) (by decide) (by kernel_rfl) rfl ?monoq ((Below.refl _ _).drew) ?stepq ?finq
  case monoq =>
    intro i
    match i with
    | 0 | 1 | 2 | 3 | 4 | 6 | 7 => exact Is.monot _
    | 5 => exact Sps.monot _
    | _ + 8 => exact Is.monot _
  case stepq =>
    refine List.forall_mem_cons.2 ⟨?qs0, List.forall_mem_cons.2 ⟨?qs1, List.forall_mem_cons.2 ⟨?qs2, List.forall_mem_cons.2 ⟨?qs3, List.forall_mem_cons.2 ⟨?qs4, List.forall_mem_cons.2 ⟨?qs5, List.forall_mem_cons.2 ⟨?qs6, List.forall_mem_cons.2 ⟨?qs7, List.forall_mem_nil _⟩⟩⟩⟩⟩⟩⟩⟩
    case qs0 =>
      intro u wx hg hC
      clear hC
      have hcl0 : wx.cell? ⟨w.heap.size, 0, none⟩ = some (.int .i64 d) := (hg.cell (p := ⟨w.heap.size, 0, none⟩) HLT.out).trans C0.out
      have hcl1 : wx.cell? ⟨w.heap.size, 1, none⟩ = some (.int .i64 p) := (hg.cell (p := ⟨w.heap.size, 1, none⟩) HLT.out).trans C1.out
      have hcl2 : wx.cell? ⟨w.heap.size, 2, none⟩ = some (.int .i64 s) := (hg.cell (p := ⟨w.heap.size, 2, none⟩) HLT.out).trans C2.out
      refine wpOp_step rfl (fun K hK => ?_)
      simp only [puts, List.foldl]
      go_simp
      exact hK _ _ ⟨rfl, rfl, hg, Below.refl _ _⟩
    case qs1 =>
      intro u wx hg hC
      clear hC
      refine wpOp_step rfl (fun K hK => ?_)
      simp only [puts, List.foldl]
      go_simp
      exact hK _ _ ⟨rfl, rfl, hg, Below.refl _ _⟩
    case qs2 =>
      intro u wx hg hC
      clear hC
      have hcl0 : wx.cell? ⟨w.heap.size, 0, none⟩ = some (.int .i64 d) := (hg.cell (p := ⟨w.heap.size, 0, none⟩) HLT.out).trans C0.out
      have hcl1 : wx.cell? ⟨w.heap.size, 1, none⟩ = some (.int .i64 p) := (hg.cell (p := ⟨w.heap.size, 1, none⟩) HLT.out).trans C1.out
      have hcl2 : wx.cell? ⟨w.heap.size, 2, none⟩ = some (.int .i64 s) := (hg.cell (p := ⟨w.heap.size, 2, none⟩) HLT.out).trans C2.out
      refine wpOp_step rfl (fun K hK => ?_)
      simp only [puts, List.foldl]
      go_simp
      exact hK _ _ ⟨rfl, rfl, hg, Below.refl _ _⟩
    case qs3 =>
      intro u wx hg hC
      have hJ2 : u 2 = (.agg #[(.int .i64 d), (.int .i64 p), (.int .i64 s)]) := hC.at 2 (by kernel_rfl)
      clear hC
      refine wpOp_step rfl (fun K hK => ?_)
      simp only [puts, List.foldl]
      go_simp
      refine (HX.out wx).mono ?_
      rintro e w' ⟨rfl, hb'⟩
      exact hK _ _ ⟨rfl, rfl, hg.next hb', hb'⟩
    case qs4 =>
      intro u wx hg hC
      have hJ1 : u 1 = (.int .i64 n) := hC.at 1 (by kernel_rfl)
      have hJ3 : u 3 = (.int .i64 lg) := hC.at 3 (by kernel_rfl)
      clear hC
      refine wpOp_step rfl (fun K hK => ?_)
      simp only [puts, List.foldl]
      go_simp
      refine (H1.out wx).mono ?_
      rintro e w' ⟨rfl, hb'⟩
      exact hK _ _ ⟨rfl, rfl, hg.next hb', hb'⟩
    case qs5 =>
      intro u wx hg hC
      have hJ4 : u 4 = (.agg #[.int .i64 n, .int .i64 0, .int .i64 lm]) := hC.at 4 (by kernel_rfl)
      clear hC
      refine wpOp_step rfl (fun K hK => ?_)
      simp only [puts, List.foldl]
      go_simp
      exact hK _ _ ⟨rfl, sps_new [⟨n, 0, lm⟩] _ 1 wx rfl rfl, hg.alloc hg.size _, alloc_below _ _⟩
    case qs6 =>
      intro u wx hg hC
      have hJ0 : u 0 = (.agg #[(.int .i64 d), (.int .i64 p), (.int .i64 s)]) := hC.at 0 (by kernel_rfl)
      have hJ5 : (Sps [⟨n, 0, lm⟩]) (u 5) wx := hC.at 5 (by kernel_rfl)
      clear hC
      refine wpOp_step rfl (fun K hK => ?_)
      simp only [puts, List.foldl]
      go_simp
      refine (HA.out wx _ hJ5).mono ?_
      rintro e w' ⟨rfl, hb'⟩
      exact hK _ _ ⟨rfl, rfl, hg.next hb', hb'⟩
    case qs7 =>
      intro u wx hg hC
      have hJ6 : u 6 = (.int .i64 1) := hC.at 6 (by kernel_rfl)
      clear hC
      refine wpOp_step rfl (fun K hK => ?_)
      simp only [puts, List.foldl]
      go_simp
      exact hK _ _ ⟨rfl, rfl, hg, Below.refl _ _⟩
  case finq =>
    intro u wq hbq hφ
    have e8 : u 7 = .bool true := hφ (7, 17) (by decide)
    clear hφ
    simp only [puts, List.foldl]
    go_simp
    have BQ := Lib.hid (B1.out.next hbq)
    clear hbq e8
    go_wp2
    refine bodyPost_ret (results_tmp4 rfl _ _ _) rfl ?_
    exact ⟨by rw [HE1.out, HE2.out, HE3.out, HE4.out]; rfl, BQ.out⟩
set_option maxHeartbeats 4000000 in
theorem of_2 (g : Gm) (n : Int) (w : World) (hq : ofQ g n = 2) :
    Calls Tryd.prog 20 #[geoV g, .int .i64 n] w fun e w' => e = .returned (.tuple #[.int .i64 (ofA g n), .int .i64 (ofB g n), .int .i64 (ofC g n), .bool (ofK g n)]) ∧ Below w.heap.size w w' := by
  have HX := Lib.hid fun w1 => log_any g w1
  have HSL := Lib.hid fun w1 => slot_any g w1
  have H1 : Hid (∀ w1, Calls Tryd.prog 17 #[.int .i64 n, .int .i64 (log g)] w1 fun e w' => e = .returned (.agg #[.int .i64 n, .int .i64 0, .int .i64 (log g - 1)]) ∧ Below w1.heap.size w1 w') := Lib.hid fun w1 => below_any n (log g) (log g - 1) w1 (by have := log_le g; unfold wrap64; omega)
  have HA := Lib.hid (ask_val g [⟨n, 0, log g - 1⟩] w (by show 1 < 1000; decide))
  rw [← ofQ, hq] at HA
  have HE1 : Hid (ofA g n = 0) := Lib.hid (if_neg (by rw [hq]; decide))
  have HE2 : Hid (ofB g n = 0) := Lib.hid (if_neg (by rw [hq]; decide))
  have HE3 : Hid (ofC g n = 0) := Lib.hid (if_neg (by rw [hq]; decide))
  have HE4 : Hid (ofK g n = false) := Lib.hid (decide_eq_false (by rw [hq]; decide))
  generalize ofA g n = ra at HE1 ⊢
  generalize ofB g n = rb at HE2 ⊢
  generalize ofC g n = rc at HE3 ⊢
  generalize ofK g n = rk at HE4 ⊢
  generalize log g - 1 = lm at H1 HA
  generalize log g = lg at H1 HX
  clear HSL
  obtain ⟨d, p, s⟩ := g
  dsimp only [geoV] at *
  clear hq
  go_enter Tryd.func20, Tryd.ntmps20
  go_wp2_with ((with_reducible refine wpBoxK [Value.int .i64 d, .int .i64 p, .int .i64 s] 23 ?_ ?_); rfl; intro w1 r1 b1 s1; have R1 := Lib.hid r1; have B1 := Lib.hid b1; clear r1 b1 s1)
  have HLT : Hid (w.heap.size < w1.heap.size) := Lib.hid R1.out.lt
  have C0 : Hid (w1.cell? ⟨w.heap.size, 0, none⟩ = some (.int .i64 d)) := Lib.hid (R1.out.cell 0)
  have C1 : Hid (w1.cell? ⟨w.heap.size, 1, none⟩ = some (.int .i64 p)) := Lib.hid (R1.out.cell 1)
  have C2 : Hid (w1.cell? ⟨w.heap.size, 2, none⟩ = some (.int .i64 s)) := Lib.hid (R1.out.cell 2)
  refine region_invX [(0, 10), (1, 11), (2, 12), (3, 13), (4, 14), (5, 15), (6, 16), (7, 17)]
    (fun ii => [Is (.agg #[(.int .i64 d), (.int .i64 p), (.int .i64 s)]), Is (.int .i64 n), Is (.agg #[(.int .i64 d), (.int .i64 p), (.int .i64 s)]), Is (.int .i64 lg), Is (.agg #[.int .i64 n, .int .i64 0, .int .i64 lm]), Sps [⟨n, 0, lm⟩], Is (.int .i64 2), Is (.bool true)].getD ii (Is undef))
    (fun w' => Below w1.heap.size w1 w') (by kernel_rfl) (by kernel_rfl) (by decide) (by decide) (by kernel_rfl) rfl ?monoq ((Below.refl _ _).drew) ?stepq ?finq
  case monoq =>
    intro i
    match i with
    | 0 | 1 | 2 | 3 | 4 | 6 | 7 => exact Is.monot _
    | 5 => exact Sps.monot _
    | _ + 8 => exact Is.monot _
  case stepq =>
    refine List.forall_mem_cons.2 ⟨?qs0, List.forall_mem_cons.2 ⟨?qs1, List.forall_mem_cons.2 ⟨?qs2, List.forall_mem_cons.2 ⟨?qs3, List.forall_mem_cons.2 ⟨?qs4, List.forall_mem_cons.2 ⟨?qs5, List.forall_mem_cons.2 ⟨?qs6, List.forall_mem_cons.2 ⟨?qs7, List.forall_mem_nil _⟩⟩⟩⟩⟩⟩⟩⟩
    case qs0 =>
      intro u wx hg hC
      clear hC
      have hcl0 : wx.cell? ⟨w.heap.size, 0, none⟩ = some (.int .i64 d) := (hg.cell (p := ⟨w.heap.size, 0, none⟩) HLT.out).trans C0.out
      have hcl1 : wx.cell? ⟨w.heap.size, 1, none⟩ = some (.int .i64 p) := (hg.cell (p := ⟨w.heap.size, 1, none⟩) HLT.out).trans C1.out
      have hcl2 : wx.cell? ⟨w.heap.size, 2, none⟩ = some (.int .i64 s) := (hg.cell (p := ⟨w.heap.size, 2, none⟩) HLT.out).trans C2.out
      refine wpOp_step rfl (fun K hK => ?_)
      simp only [puts, List.foldl]
      go_simp
      exact hK _ _ ⟨rfl, rfl, hg, Below.refl _ _⟩
    case qs1 =>
      intro u wx hg hC
      clear hC
      refine wpOp_step rfl (fun K hK => ?_)
      simp only [puts, List.foldl]
      go_simp
      exact hK _ _ ⟨rfl, rfl, hg, Below.refl _ _⟩
    case qs2 =>
      intro u wx hg hC
      clear hC
      have hcl0 : wx.cell? ⟨w.heap.size, 0, none⟩ = some (.int .i64 d) := (hg.cell (p := ⟨w.heap.size, 0, none⟩) HLT.out).trans C0.out
      have hcl1 : wx.cell? ⟨w.heap.size, 1, none⟩ = some (.int .i64 p) := (hg.cell (p := ⟨w.heap.size, 1, none⟩) HLT.out).trans C1.out
      have hcl2 : wx.cell? ⟨w.heap.size, 2, none⟩ = some (.int .i64 s) := (hg.cell (p := ⟨w.heap.size, 2, none⟩) HLT.out).trans C2.out
      refine wpOp_step rfl (fun K hK => ?_)
      simp only [puts, List.foldl]
      go_simp
      exact hK _ _ ⟨rfl, rfl, hg, Below.refl _ _⟩
    case qs3 =>
      intro u wx hg hC
      have hJ2 : u 2 = (.agg #[(.int .i64 d), (.int .i64 p), (.int .i64 s)]) := hC.at 2 (by kernel_rfl)
      clear hC
      refine wpOp_step rfl (fun K hK => ?_)
      simp only [puts, List.foldl]
      go_simp
      refine (HX.out wx).mono ?_
      rintro e w' ⟨rfl, hb'⟩
      exact hK _ _ ⟨rfl, rfl, hg.next hb', hb'⟩
    case qs4 =>
      intro u wx hg hC
      have hJ1 : u 1 = (.int .i64 n) := hC.at 1 (by kernel_rfl)
      have hJ3 : u 3 = (.int .i64 lg) := hC.at 3 (by kernel_rfl)
      clear hC
      refine wpOp_step rfl (fun K hK => ?_)
      simp only [puts, List.foldl]
      go_simp
      refine (H1.out wx).mono ?_
      rintro e w' ⟨rfl, hb'⟩
      exact hK _ _ ⟨rfl, rfl, hg.next hb', hb'⟩
    case qs5 =>
      intro u wx hg hC
      have hJ4 : u 4 = (.agg #[.int .i64 n, .int .i64 0, .int .i64 lm]) := hC.at 4 (by kernel_rfl)
      clear hC
      refine wpOp_step rfl (fun K hK => ?_)
      simp only [puts, List.foldl]
      go_simp
      exact hK _ _ ⟨rfl, sps_new [⟨n, 0, lm⟩] _ 1 wx rfl rfl, hg.alloc hg.size _, alloc_below _ _⟩
    case qs6 =>
      intro u wx hg hC
      have hJ0 : u 0 = (.agg #[(.int .i64 d), (.int .i64 p), (.int .i64 s)]) := hC.at 0 (by kernel_rfl)
      have hJ5 : (Sps [⟨n, 0, lm⟩]) (u 5) wx := hC.at 5 (by kernel_rfl)
      clear hC
      refine wpOp_step rfl (fun K hK => ?_)
      simp only [puts, List.foldl]
      go_simp
      refine (HA.out wx _ hJ5).mono ?_
      rintro e w' ⟨rfl, hb'⟩
      exact hK _ _ ⟨rfl, rfl, hg.next hb', hb'⟩
    case qs7 =>
      intro u wx hg hC
      have hJ6 : u 6 = (.int .i64 2) := hC.at 6 (by kernel_rfl)
      clear hC
      refine wpOp_step rfl (fun K hK => ?_)
      simp only [puts, List.foldl]
      go_simp
      exact hK _ _ ⟨rfl, rfl, hg, Below.refl _ _⟩
  case finq =>
    intro u wq hbq hφ
    have e8 : u 7 = .bool true := hφ (7, 17) (by decide)
    clear hφ
    simp only [puts, List.foldl]
    go_simp
    have BQ := Lib.hid (B1.out.next hbq)
    clear hbq e8
    go_wp2
    refine bodyPost_ret (results_tmp4 rfl _ _ _) rfl ?_
    exact ⟨by rw [HE1.out, HE2.out, HE3.out, HE4.out]; rfl, BQ.out⟩
theorem of_any (g : Gm) (n : Int) (w : World) :
    Calls Tryd.prog 20 #[geoV g, .int .i64 n] w fun e w' => e = .returned (.tuple #[.int .i64 (ofA g n), .int .i64 (ofB g n), .int .i64 (ofC g n), .bool (ofK g n)]) ∧ Below w.heap.size w w' := by
  rcases ask3 g [⟨n, 0, log g - 1⟩] with h | h | h
  · exact of_0 g n w h
  · exact of_1 g n w h
  · exact of_2 g n w h
end Go.Proofs.YtiakbdekleaaoaaDoor
