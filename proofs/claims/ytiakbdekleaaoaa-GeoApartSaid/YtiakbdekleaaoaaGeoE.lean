/- Contracts of geo's Half, Tally (gen_geo_e.py). -/
import Derived.Test.YtiakbdekleaaoaaGeoD
namespace Go.Proofs.Ytiakbdekleaaoaa
open Go.RowKit GeoMath
set_option linter.unusedVariables false
set_option maxRecDepth 100000

set_option maxHeartbeats 2000000 in
theorem half_any (g : Gm) (a b : Int) (w : World) :
    Calls Try.prog 8 #[geoV g, .int .i64 a, .int .i64 b] w fun e w' => e = .returned (.tuple #[.int .i64 (half g a b), .int .i64 (halfQ g a b)]) ∧ Below w.heap.size w w' := by
  have HSL := Lib.hid fun w1 => log_any g w1
  have H1 : Hid (∀ w1, Calls Try.prog 24 #[.int .i64 a, .int .i64 2] w1 fun e w' => e = .returned (.agg #[.int .i64 a, .int .i64 0, .int .i64 1]) ∧ Below w1.heap.size w1 w') := Lib.hid fun w1 => below_any a 2 1 w1 (by unfold wrap64; omega)
  have H2 : Hid (∀ w1, Calls Try.prog 24 #[.int .i64 b, .int .i64 2] w1 fun e w' => e = .returned (.agg #[.int .i64 b, .int .i64 0, .int .i64 1]) ∧ Below w1.heap.size w1 w') := Lib.hid fun w1 => below_any b 2 1 w1 (by unfold wrap64; omega)
  have HA := Lib.hid (ask_val g [⟨a, 0, 1⟩, ⟨b, 0, 1⟩] w (by show 2 < 1000; decide))
  rw [← halfQ] at HA
  have HNO : Hid (¬ halfQ g a b = 0 → half g a b = 0) := Lib.hid fun h => if_neg h
  have HYES : Hid (halfQ g a b = 0 → half g a b = log g + (a * 2 + b) * 4 ∧ (0 ≤ a ∧ a ≤ 1 ∧ 0 ≤ b ∧ b ≤ 1 ∧ 0 ≤ log g ∧ log g ≤ 336)) := Lib.hid fun h => by
    obtain ⟨_, h2⟩ := ask_zero h
    obtain ⟨⟨x1, x2⟩, x3, x4⟩ := (okAll2 _ _).1 h2
    exact ⟨if_pos h, x1, x2, x3, x4, log_le g⟩
  generalize half g a b = rr at HNO HYES ⊢
  generalize halfQ g a b = q at HA HNO HYES ⊢
  generalize log g = sl at HSL HYES
  obtain ⟨d, p, s⟩ := g
  dsimp only [geoV] at HSL HA ⊢
  go_enter Try.func8, Try.ntmps8
  go_wp2_with ((with_reducible refine wpBoxK [Value.int .i64 d, .int .i64 p, .int .i64 s] 23 ?_ ?_); rfl; intro w1 r1 b1 s1; have R1 := Lib.hid r1; have B1 := Lib.hid b1; clear r1 b1 s1)
  have HLT : Hid (w.heap.size < w1.heap.size) := Lib.hid R1.out.lt
  have C0 : Hid (w1.cell? ⟨w.heap.size, 0, none⟩ = some (.int .i64 d)) := Lib.hid (R1.out.cell 0)
  have C1 : Hid (w1.cell? ⟨w.heap.size, 1, none⟩ = some (.int .i64 p)) := Lib.hid (R1.out.cell 1)
  have C2 : Hid (w1.cell? ⟨w.heap.size, 2, none⟩ = some (.int .i64 s)) := Lib.hid (R1.out.cell 2)
  refine region_invX [(0, 9), (1, 10), (2, 11), (3, 12), (4, 13), (5, 14), (6, 15), (7, 8)]
    (fun ii => [Is (.agg #[(.int .i64 d), (.int .i64 p), (.int .i64 s)]), Is (.int .i64 a), Is (.agg #[.int .i64 a, .int .i64 0, .int .i64 1]), Is (.int .i64 b), Is (.agg #[.int .i64 b, .int .i64 0, .int .i64 1]), Sps [⟨a, 0, 1⟩, ⟨b, 0, 1⟩], Is (.int .i64 q), Is (.int .i64 q)].getD ii (Is undef))
    (fun w' => Below w1.heap.size w1 w') (by kernel_rfl) (by kernel_rfl) (by decide) (by decide) (by kernel_rfl) rfl ?monoq ((Below.refl _ _).drew) ?stepq ?finq
  case monoq =>
    intro i
    match i with
    | 0 | 1 | 2 | 3 | 4 | 6 | 7 => exact Is.monot _
    | 5 => exact Sps.monot _
    | _ + 8 => exact Is.monot _
  case stepq =>
    refine List.forall_mem_cons.2 ⟨?qs0, List.forall_mem_cons.2 ⟨?qs1, List.forall_mem_cons.2 ⟨?qs2, List.forall_mem_cons.2 ⟨?qs3, List.forall_mem_cons.2 ⟨?qs4, List.forall_mem_cons.2 ⟨?qs5, List.forall_mem_cons.2 ⟨?qs6, List.forall_mem_cons.2 ⟨?qs7, List.forall_mem_nil _⟩⟩⟩⟩⟩⟩⟩⟩
    case qs0 =>
      intro u wx hg hC
      clear hC
      have hcl0 : wx.cell? ⟨w.heap.size, 0, none⟩ = some (.int .i64 d) := (hg.cell (p := ⟨w.heap.size, 0, none⟩) HLT.out).trans C0.out
      have hcl1 : wx.cell? ⟨w.heap.size, 1, none⟩ = some (.int .i64 p) := (hg.cell (p := ⟨w.heap.size, 1, none⟩) HLT.out).trans C1.out
      have hcl2 : wx.cell? ⟨w.heap.size, 2, none⟩ = some (.int .i64 s) := (hg.cell (p := ⟨w.heap.size, 2, none⟩) HLT.out).trans C2.out
      refine wpOp_step rfl (fun K hK => ?_)
      simp only [puts, List.foldl]
      go_simp
      exact hK _ _ ⟨rfl, rfl, hg, Below.refl _ _⟩
    case qs1 =>
      intro u wx hg hC
      clear hC
      refine wpOp_step rfl (fun K hK => ?_)
      simp only [puts, List.foldl]
      go_simp
      exact hK _ _ ⟨rfl, rfl, hg, Below.refl _ _⟩
    case qs2 =>
      intro u wx hg hC
      have hJ1 : u 1 = (.int .i64 a) := hC.at 1 (by kernel_rfl)
      clear hC
      refine wpOp_step rfl (fun K hK => ?_)
      simp only [puts, List.foldl]
      go_simp
      refine (H1.out wx).mono ?_
      rintro e w' ⟨rfl, hb'⟩
      exact hK _ _ ⟨rfl, rfl, hg.next hb', hb'⟩
    case qs3 =>
      intro u wx hg hC
      clear hC
      refine wpOp_step rfl (fun K hK => ?_)
      simp only [puts, List.foldl]
      go_simp
      exact hK _ _ ⟨rfl, rfl, hg, Below.refl _ _⟩
    case qs4 =>
      intro u wx hg hC
      have hJ3 : u 3 = (.int .i64 b) := hC.at 3 (by kernel_rfl)
      clear hC
      refine wpOp_step rfl (fun K hK => ?_)
      simp only [puts, List.foldl]
      go_simp
      refine (H2.out wx).mono ?_
      rintro e w' ⟨rfl, hb'⟩
      exact hK _ _ ⟨rfl, rfl, hg.next hb', hb'⟩
    case qs5 =>
      intro u wx hg hC
      have hJ2 : u 2 = (.agg #[.int .i64 a, .int .i64 0, .int .i64 1]) := hC.at 2 (by kernel_rfl)
      have hJ4 : u 4 = (.agg #[.int .i64 b, .int .i64 0, .int .i64 1]) := hC.at 4 (by kernel_rfl)
      clear hC
      refine wpOp_step rfl (fun K hK => ?_)
      simp only [puts, List.foldl]
      go_simp
      exact hK _ _ ⟨rfl, sps_new [⟨a, 0, 1⟩, ⟨b, 0, 1⟩] _ 2 wx rfl rfl, hg.alloc hg.size _, alloc_below _ _⟩
    case qs6 =>
      intro u wx hg hC
      have hJ0 : u 0 = (.agg #[(.int .i64 d), (.int .i64 p), (.int .i64 s)]) := hC.at 0 (by kernel_rfl)
      have hJ5 : (Sps [⟨a, 0, 1⟩, ⟨b, 0, 1⟩]) (u 5) wx := hC.at 5 (by kernel_rfl)
      clear hC
      refine wpOp_step rfl (fun K hK => ?_)
      simp only [puts, List.foldl]
      go_simp
      refine (HA.out wx _ hJ5).mono ?_
      rintro e w' ⟨rfl, hb'⟩
      exact hK _ _ ⟨rfl, rfl, hg.next hb', hb'⟩
    case qs7 =>
      intro u wx hg hC
      have hJ6 : u 6 = (.int .i64 q) := hC.at 6 (by kernel_rfl)
      clear hC
      refine wpOp_step rfl (fun K hK => ?_)
      simp only [puts, List.foldl]
      go_simp
      exact hK _ _ ⟨rfl, rfl, hg, Below.refl _ _⟩
  case finq =>
    intro u wq hbq hφ
    have e8 : u 7 = .int .i64 q := hφ (7, 8) (by decide)
    clear hφ
    simp only [puts, List.foldl]
    go_simp
    have BQ := Lib.hid (B1.out.next hbq)
    have RQ := Lib.hid (R1.out.step hbq)
    clear hbq e8
    cases hz : decide (q = 0) with
    | false =>
      have hq0 : ¬ q = 0 := of_decide_eq_false hz
      have hq1 : (q == 0) = false := beq_false_of_ne hq0
      have hq2 : (q != 0) = true := by rw [bne, hq1]; rfl
      have HN := Lib.hid (HNO.out hq0)
      clear hz
      go_wp2
      go_ret2
      exact ⟨by rw [HN.out]; rfl, BQ.out⟩
    | true =>
      have hq0 : q = 0 := of_decide_eq_true hz
      have HIN := HYES.out hq0
      have HE := Lib.hid HIN.1
      obtain ⟨x1, x2, x3, x4, x5, x6⟩ := HIN.2
      subst hq0
      clear hz HIN
      go_wp2_with (first
        | ((with_reducible refine RQ.out.wpLoadK 23 fits_geo rfl ?_ ?_); rfl)
        | (go_at_call 25; (with_reducible refine (HSL.out wq).mono ?_); rintro e wr ⟨rfl, br⟩; have HBR := Lib.hid (BQ.out.next br); clear br))
      go_ret2
      exact ⟨by rw [HE.out]; rfl, HBR.out⟩
set_option maxHeartbeats 2000000 in
theorem tally_any (g : Gm) (a : Int) (w : World) :
    Calls Try.prog 9 #[geoV g, .int .i64 a] w fun e w' => e = .returned (.tuple #[.int .i64 (talA g a), .int .i64 (talQ g a)]) ∧ Below w.heap.size w w' := by
  have HSL := Lib.hid fun w1 => tal_any g w1
  have H1 : Hid (∀ w1, Calls Try.prog 24 #[.int .i64 a, .int .i64 2] w1 fun e w' => e = .returned (.agg #[.int .i64 a, .int .i64 0, .int .i64 1]) ∧ Below w1.heap.size w1 w') := Lib.hid fun w1 => below_any a 2 1 w1 (by unfold wrap64; omega)
  have HA := Lib.hid (ask_val g [⟨a, 0, 1⟩] w (by show 1 < 1000; decide))
  rw [← talQ] at HA
  have HNO : Hid (¬ talQ g a = 0 → talA g a = 0) := Lib.hid fun h => if_neg h
  have HYES : Hid (talQ g a = 0 → talA g a = tal g + a ∧ (0 ≤ a ∧ a ≤ 1 ∧ 16 ≤ tal g ∧ tal g ≤ 352)) := Lib.hid fun h => by
    obtain ⟨_, h2⟩ := ask_zero h
    obtain ⟨x1, x2⟩ := (okAll1 _).1 h2
    exact ⟨if_pos h, x1, x2, tal_le g⟩
  generalize talA g a = rr at HNO HYES ⊢
  generalize talQ g a = q at HA HNO HYES ⊢
  generalize tal g = sl at HSL HYES
  obtain ⟨d, p, s⟩ := g
  dsimp only [geoV] at HSL HA ⊢
  go_enter Try.func9, Try.ntmps9
  go_wp2_with ((with_reducible refine wpBoxK [Value.int .i64 d, .int .i64 p, .int .i64 s] 23 ?_ ?_); rfl; intro w1 r1 b1 s1; have R1 := Lib.hid r1; have B1 := Lib.hid b1; clear r1 b1 s1)
  have HLT : Hid (w.heap.size < w1.heap.size) := Lib.hid R1.out.lt
  have C0 : Hid (w1.cell? ⟨w.heap.size, 0, none⟩ = some (.int .i64 d)) := Lib.hid (R1.out.cell 0)
  have C1 : Hid (w1.cell? ⟨w.heap.size, 1, none⟩ = some (.int .i64 p)) := Lib.hid (R1.out.cell 1)
  have C2 : Hid (w1.cell? ⟨w.heap.size, 2, none⟩ = some (.int .i64 s)) := Lib.hid (R1.out.cell 2)
  refine region_invX [(0, 7), (1, 8), (2, 9), (3, 10), (4, 11), (5, 6)]
    (fun ii => [Is (.agg #[(.int .i64 d), (.int .i64 p), (.int .i64 s)]), Is (.int .i64 a), Is (.agg #[.int .i64 a, .int .i64 0, .int .i64 1]), Sps [⟨a, 0, 1⟩], Is (.int .i64 q), Is (.int .i64 q)].getD ii (Is undef))
    (fun w' => Below w1.heap.size w1 w') (by kernel_rfl) (by kernel_rfl) (by decide) (by decide) (by kernel_rfl) rfl ?monoq ((Below.refl _ _).drew) ?stepq ?finq
  case monoq =>
    intro i
    match i with
    | 0 | 1 | 2 | 4 | 5 => exact Is.monot _
    | 3 => exact Sps.monot _
    | _ + 6 => exact Is.monot _
  case stepq =>
    refine List.forall_mem_cons.2 ⟨?qs0, List.forall_mem_cons.2 ⟨?qs1, List.forall_mem_cons.2 ⟨?qs2, List.forall_mem_cons.2 ⟨?qs3, List.forall_mem_cons.2 ⟨?qs4, List.forall_mem_cons.2 ⟨?qs5, List.forall_mem_nil _⟩⟩⟩⟩⟩⟩
    case qs0 =>
      intro u wx hg hC
      clear hC
      have hcl0 : wx.cell? ⟨w.heap.size, 0, none⟩ = some (.int .i64 d) := (hg.cell (p := ⟨w.heap.size, 0, none⟩) HLT.out).trans C0.out
      have hcl1 : wx.cell? ⟨w.heap.size, 1, none⟩ = some (.int .i64 p) := (hg.cell (p := ⟨w.heap.size, 1, none⟩) HLT.out).trans C1.out
      have hcl2 : wx.cell? ⟨w.heap.size, 2, none⟩ = some (.int .i64 s) := (hg.cell (p := ⟨w.heap.size, 2, none⟩) HLT.out).trans C2.out
      refine wpOp_step rfl (fun K hK => ?_)
      simp only [puts, List.foldl]
      go_simp
      exact hK _ _ ⟨rfl, rfl, hg, Below.refl _ _⟩
    case qs1 =>
      intro u wx hg hC
      clear hC
      refine wpOp_step rfl (fun K hK => ?_)
      simp only [puts, List.foldl]
      go_simp
      exact hK _ _ ⟨rfl, rfl, hg, Below.refl _ _⟩
    case qs2 =>
      intro u wx hg hC
      have hJ1 : u 1 = (.int .i64 a) := hC.at 1 (by kernel_rfl)
      clear hC
      refine wpOp_step rfl (fun K hK => ?_)
      simp only [puts, List.foldl]
      go_simp
      refine (H1.out wx).mono ?_
      rintro e w' ⟨rfl, hb'⟩
      exact hK _ _ ⟨rfl, rfl, hg.next hb', hb'⟩
    case qs3 =>
      intro u wx hg hC
      have hJ2 : u 2 = (.agg #[.int .i64 a, .int .i64 0, .int .i64 1]) := hC.at 2 (by kernel_rfl)
      clear hC
      refine wpOp_step rfl (fun K hK => ?_)
      simp only [puts, List.foldl]
      go_simp
      exact hK _ _ ⟨rfl, sps_new [⟨a, 0, 1⟩] _ 1 wx rfl rfl, hg.alloc hg.size _, alloc_below _ _⟩
    case qs4 =>
      intro u wx hg hC
      have hJ0 : u 0 = (.agg #[(.int .i64 d), (.int .i64 p), (.int .i64 s)]) := hC.at 0 (by kernel_rfl)
      have hJ3 : (Sps [⟨a, 0, 1⟩]) (u 3) wx := hC.at 3 (by kernel_rfl)
      clear hC
      refine wpOp_step rfl (fun K hK => ?_)
      simp only [puts, List.foldl]
      go_simp
      refine (HA.out wx _ hJ3).mono ?_
      rintro e w' ⟨rfl, hb'⟩
      exact hK _ _ ⟨rfl, rfl, hg.next hb', hb'⟩
    case qs5 =>
      intro u wx hg hC
      have hJ4 : u 4 = (.int .i64 q) := hC.at 4 (by kernel_rfl)
      clear hC
      refine wpOp_step rfl (fun K hK => ?_)
      simp only [puts, List.foldl]
      go_simp
      exact hK _ _ ⟨rfl, rfl, hg, Below.refl _ _⟩
  case finq =>
    intro u wq hbq hφ
    have e8 : u 5 = .int .i64 q := hφ (5, 6) (by decide)
    clear hφ
    simp only [puts, List.foldl]
    go_simp
    have BQ := Lib.hid (B1.out.next hbq)
    have RQ := Lib.hid (R1.out.step hbq)
    clear hbq e8
    cases hz : decide (q = 0) with
    | false =>
      have hq0 : ¬ q = 0 := of_decide_eq_false hz
      have hq1 : (q == 0) = false := beq_false_of_ne hq0
      have hq2 : (q != 0) = true := by rw [bne, hq1]; rfl
      have HN := Lib.hid (HNO.out hq0)
      clear hz
      go_wp2
      go_ret2
      exact ⟨by rw [HN.out]; rfl, BQ.out⟩
    | true =>
      have hq0 : q = 0 := of_decide_eq_true hz
      have HIN := HYES.out hq0
      have HE := Lib.hid HIN.1
      obtain ⟨x1, x2, x3, x4⟩ := HIN.2
      subst hq0
      clear hz HIN
      go_wp2_with (first
        | ((with_reducible refine RQ.out.wpLoadK 23 fits_geo rfl ?_ ?_); rfl)
        | (go_at_call 26; (with_reducible refine (HSL.out wq).mono ?_); rintro e wr ⟨rfl, br⟩; have HBR := Lib.hid (BQ.out.next br); clear br))
      go_ret2
      exact ⟨by rw [HE.out]; rfl, HBR.out⟩
end Go.Proofs.Ytiakbdekleaaoaa
