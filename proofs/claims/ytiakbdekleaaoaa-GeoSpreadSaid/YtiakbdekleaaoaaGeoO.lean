/- GeoSpread: the walk (gen_geo_o.py). -/
import Derived.Test.YtiakbdekleaaoaaGeoI
import Derived.Test.YtiakbdekleaaoaaGeoN
import Derived.Test.YtiakbdekleaaoaaGeoMath4
import Derived.Test.YtiakbdekleaaoaaGeoR
import Derived.Carry
namespace Go.Proofs.Ytiakbdekleaaoaa
open Go.RowKit GeoMath Go.Maps
set_option linter.unusedVariables false
set_option maxRecDepth 100000

set_option maxHeartbeats 4000000 in
theorem geoSpread_A (d p s f : Int) (w : World) (hr : right ⟨d, p, s⟩ = false) :
    Calls Try.prog 5 #[.agg #[.int .i64 d, .int .i64 p, .int .i64 s], .int .i64 f] w fun e w' => e = .returned (.bool true) ∧ Below w.heap.size w w' := by
  have HAW := Lib.hid geoAwake_any
  have HRR : Hid (∀ w1, Calls Try.prog 12 #[.agg #[.int .i64 d, .int .i64 p, .int .i64 s]] w1 fun e w' => e = .returned (.bool false) ∧ Below w1.heap.size w1 w') := Lib.hid fun w1 => (rright_any ⟨d, p, s⟩ w1).mono fun e w' h => by rw [hr] at h; exact h
  have HSL : Hid (∀ w1, Calls Try.prog 14 #[.agg #[.int .i64 d, .int .i64 p, .int .i64 s]] w1 fun e w' => e = .returned (.int .i64 (slot ⟨d, p, s⟩)) ∧ Below w1.heap.size w1 w') := Lib.hid fun w1 => slot_any ⟨d, p, s⟩ w1
  generalize slot ⟨d, p, s⟩ = sl at HSL
  clear hr
  go_enter Try.func5, Try.ntmps5
  go_wp2_with (first
    | ((with_reducible refine wpBoxK [Value.int .i64 d, .int .i64 p, .int .i64 s] 23 ?_ ?_); rfl; intro w1 r1 b1 s1; have R1 := Lib.hid r1; have B1 := Lib.hid b1; clear r1 b1 s1)
    | (go_at_call 6; (with_reducible refine (HAW.out w1).mono ?_); rintro e w2 ⟨rfl, b2⟩; have R2 := Lib.hid (R1.out.step b2); have B2 := Lib.hid (B1.out.next b2); clear b2))
  have LG : Hid (w.heap.size < w2.heap.size) := Lib.hid R2.out.lt
  have C0 : Hid (w2.cell? ⟨w.heap.size, 0, none⟩ = some (.int .i64 d)) := Lib.hid (R2.out.cell 0)
  have C1 : Hid (w2.cell? ⟨w.heap.size, 1, none⟩ = some (.int .i64 p)) := Lib.hid (R2.out.cell 1)
  have C2 : Hid (w2.cell? ⟨w.heap.size, 2, none⟩ = some (.int .i64 s)) := Lib.hid (R2.out.cell 2)
  refine region_invX [(0, 13), (1, 14), (2, 15), (3, 16), (4, 17), (5, 18), (6, 19), (7, 20), (8, 21), (9, 22), (10, 23), (11, 24), (12, 25), (13, 26), (14, 27), (15, 28), (16, 29), (17, 30), (18, 31), (19, 32)]
    (fun ii => [Is (.agg #[(.int .i64 d), (.int .i64 p), (.int .i64 s)]), Is (.bool false), Is (.bool true), Is (.bool true), Is undef, Is undef, Is (.bool true), Is (.bool true), Is undef, Is undef, Is undef, Is undef, Is undef, Is undef, Is undef, Is undef, Is undef, Is undef, Is undef, Is (.bool true)].getD ii (Is undef))
    (fun w' => Below w2.heap.size w2 w') (by kernel_rfl) (by kernel_rfl) (by decide) (by decide) (by kernel_rfl) rfl ?monon ((Below.refl _ _).drew) ?stepn ?finn
  case monon =>
    intro i
    match i with
    | 0 | 1 | 2 | 3 | 4 | 5 | 6 | 7 | 8 | 9 | 10 | 11 | 12 | 13 | 14 | 15 | 16 | 17 | 18 | 19 => exact Is.monot _
    | _ + 20 => exact Is.monot _
  case stepn =>
    refine List.forall_mem_cons.2 ⟨?ns0, List.forall_mem_cons.2 ⟨?ns1, List.forall_mem_cons.2 ⟨?ns2, List.forall_mem_cons.2 ⟨?ns3, List.forall_mem_cons.2 ⟨?ns4, List.forall_mem_cons.2 ⟨?ns5, List.forall_mem_cons.2 ⟨?ns6, List.forall_mem_cons.2 ⟨?ns7, List.forall_mem_cons.2 ⟨?ns8, List.forall_mem_cons.2 ⟨?ns9, List.forall_mem_cons.2 ⟨?ns10, List.forall_mem_cons.2 ⟨?ns11, List.forall_mem_cons.2 ⟨?ns12, List.forall_mem_cons.2 ⟨?ns13, List.forall_mem_cons.2 ⟨?ns14, List.forall_mem_cons.2 ⟨?ns15, List.forall_mem_cons.2 ⟨?ns16, List.forall_mem_cons.2 ⟨?ns17, List.forall_mem_cons.2 ⟨?ns18, List.forall_mem_cons.2 ⟨?ns19, List.forall_mem_nil _⟩⟩⟩⟩⟩⟩⟩⟩⟩⟩⟩⟩⟩⟩⟩⟩⟩⟩⟩⟩
    case ns0 =>
      intro u wx hg hC
      clear hC
      have hcl0 : wx.cell? ⟨w.heap.size, 0, none⟩ = some (.int .i64 d) := (hg.cell (p := ⟨w.heap.size, 0, none⟩) LG.out).trans C0.out
      have hcl1 : wx.cell? ⟨w.heap.size, 1, none⟩ = some (.int .i64 p) := (hg.cell (p := ⟨w.heap.size, 1, none⟩) LG.out).trans C1.out
      have hcl2 : wx.cell? ⟨w.heap.size, 2, none⟩ = some (.int .i64 s) := (hg.cell (p := ⟨w.heap.size, 2, none⟩) LG.out).trans C2.out
      refine wpOp_step rfl (fun K hK => ?_)
      simp only [puts, List.foldl]
      go_simp
      exact hK _ _ ⟨rfl, rfl, hg, Below.refl _ _⟩
    case ns1 =>
      intro u wx hg hC
      have hJ0 : u 0 = (.agg #[(.int .i64 d), (.int .i64 p), (.int .i64 s)]) := hC.at 0 (by kernel_rfl)
      clear hC
      refine wpOp_step rfl (fun K hK => ?_)
      simp only [puts, List.foldl]
      go_simp
      refine (HRR.out wx).mono ?_
      rintro e w' ⟨rfl, hb'⟩
      exact hK _ _ ⟨rfl, rfl, hg.next hb', hb'⟩
    case ns2 =>
      intro u wx hg hC
      have hJ1 : u 1 = (.bool false) := hC.at 1 (by kernel_rfl)
      clear hC
      refine wpOp_step rfl (fun K hK => ?_)
      simp only [puts, List.foldl]
      go_simp
      exact hK _ _ ⟨rfl, rfl, hg, Below.refl _ _⟩
    case ns3 =>
      intro u wx hg hC
      have hJ2 : u 2 = (.bool true) := hC.at 2 (by kernel_rfl)
      clear hC
      refine wpOp_step rfl (fun K hK => ?_)
      simp only [puts, List.foldl]
      go_simp
      exact hK _ _ ⟨rfl, rfl, hg, Below.refl _ _⟩
    case ns4 =>
      intro u wx hg hC
      have hJ3 : u 3 = .bool true := hC.at 3 (by kernel_rfl)
      clear hC
      generalize hA : puts [(0, 13), (1, 14), (2, 15), (3, 16), (4, 17), (5, 18), (6, 19), (7, 20), (8, 21), (9, 22), (10, 23), (11, 24), (12, 25), (13, 26), (14, 27), (15, 28), (16, 29), (17, 30), (18, 31), (19, 32)] _ u = A
      have hgv : A.tmps.getD 16 undef = .bool true := by rw [← hA]; exact (puts_get u 3 16 _ _ (by decide) (by decide) (by kernel_rfl)).trans hJ3
      have hgs : 16 < A.tmps.size := by rw [← hA]; exact puts_room u (by kernel_rfl)
      refine wpOp_skip rfl 3 16 false rfl rfl hgs hgv ?_
      subst hA
      simp only [puts, List.foldl]
      go_simp
      first | exact ⟨rfl, hg, Below.refl _ _⟩ | exact ⟨rfl, hg⟩ | exact ⟨rfl, Below.refl _ _⟩ | exact ⟨rfl, rfl, hg, Below.refl _ _⟩ | exact ⟨hg, Below.refl _ _⟩
    case ns5 =>
      intro u wx hg hC
      have hJ3 : u 3 = .bool true := hC.at 3 (by kernel_rfl)
      clear hC
      generalize hA : puts [(0, 13), (1, 14), (2, 15), (3, 16), (4, 17), (5, 18), (6, 19), (7, 20), (8, 21), (9, 22), (10, 23), (11, 24), (12, 25), (13, 26), (14, 27), (15, 28), (16, 29), (17, 30), (18, 31), (19, 32)] _ u = A
      have hgv : A.tmps.getD 16 undef = .bool true := by rw [← hA]; exact (puts_get u 3 16 _ _ (by decide) (by decide) (by kernel_rfl)).trans hJ3
      have hgs : 16 < A.tmps.size := by rw [← hA]; exact puts_room u (by kernel_rfl)
      refine wpOp_skip rfl 3 16 false rfl rfl hgs hgv ?_
      subst hA
      simp only [puts, List.foldl]
      go_simp
      first | exact ⟨rfl, hg, Below.refl _ _⟩ | exact ⟨rfl, hg⟩ | exact ⟨rfl, Below.refl _ _⟩ | exact ⟨rfl, rfl, hg, Below.refl _ _⟩ | exact ⟨hg, Below.refl _ _⟩
    case ns6 =>
      intro u wx hg hC
      have hJ3 : u 3 = (.bool true) := hC.at 3 (by kernel_rfl)
      have hJ5 : u 5 = undef := hC.at 5 (by kernel_rfl)
      clear hC
      refine wpOp_step rfl (fun K hK => ?_)
      simp only [puts, List.foldl]
      go_simp
      exact hK _ _ ⟨rfl, rfl, hg, Below.refl _ _⟩
    case ns7 =>
      intro u wx hg hC
      have hJ6 : u 6 = (.bool true) := hC.at 6 (by kernel_rfl)
      clear hC
      refine wpOp_step rfl (fun K hK => ?_)
      simp only [puts, List.foldl]
      go_simp
      exact hK _ _ ⟨rfl, rfl, hg, Below.refl _ _⟩
    case ns8 =>
      intro u wx hg hC
      have hJ7 : u 7 = .bool true := hC.at 7 (by kernel_rfl)
      clear hC
      generalize hA : puts [(0, 13), (1, 14), (2, 15), (3, 16), (4, 17), (5, 18), (6, 19), (7, 20), (8, 21), (9, 22), (10, 23), (11, 24), (12, 25), (13, 26), (14, 27), (15, 28), (16, 29), (17, 30), (18, 31), (19, 32)] _ u = A
      have hgv : A.tmps.getD 20 undef = .bool true := by rw [← hA]; exact (puts_get u 7 20 _ _ (by decide) (by decide) (by kernel_rfl)).trans hJ7
      have hgs : 20 < A.tmps.size := by rw [← hA]; exact puts_room u (by kernel_rfl)
      refine wpOp_skip rfl 7 20 false rfl rfl hgs hgv ?_
      subst hA
      simp only [puts, List.foldl]
      go_simp
      first | exact ⟨rfl, hg, Below.refl _ _⟩ | exact ⟨rfl, hg⟩ | exact ⟨rfl, Below.refl _ _⟩ | exact ⟨rfl, rfl, hg, Below.refl _ _⟩ | exact ⟨hg, Below.refl _ _⟩
    case ns9 =>
      intro u wx hg hC
      have hJ7 : u 7 = .bool true := hC.at 7 (by kernel_rfl)
      clear hC
      generalize hA : puts [(0, 13), (1, 14), (2, 15), (3, 16), (4, 17), (5, 18), (6, 19), (7, 20), (8, 21), (9, 22), (10, 23), (11, 24), (12, 25), (13, 26), (14, 27), (15, 28), (16, 29), (17, 30), (18, 31), (19, 32)] _ u = A
      have hgv : A.tmps.getD 20 undef = .bool true := by rw [← hA]; exact (puts_get u 7 20 _ _ (by decide) (by decide) (by kernel_rfl)).trans hJ7
      have hgs : 20 < A.tmps.size := by rw [← hA]; exact puts_room u (by kernel_rfl)
      refine wpOp_skip rfl 7 20 false rfl rfl hgs hgv ?_
      subst hA
      simp only [puts, List.foldl]
      go_simp
      first | exact ⟨rfl, hg, Below.refl _ _⟩ | exact ⟨rfl, hg⟩ | exact ⟨rfl, Below.refl _ _⟩ | exact ⟨rfl, rfl, hg, Below.refl _ _⟩ | exact ⟨hg, Below.refl _ _⟩
    case ns10 =>
      intro u wx hg hC
      have hJ7 : u 7 = .bool true := hC.at 7 (by kernel_rfl)
      clear hC
      generalize hA : puts [(0, 13), (1, 14), (2, 15), (3, 16), (4, 17), (5, 18), (6, 19), (7, 20), (8, 21), (9, 22), (10, 23), (11, 24), (12, 25), (13, 26), (14, 27), (15, 28), (16, 29), (17, 30), (18, 31), (19, 32)] _ u = A
      have hgv : A.tmps.getD 20 undef = .bool true := by rw [← hA]; exact (puts_get u 7 20 _ _ (by decide) (by decide) (by kernel_rfl)).trans hJ7
      have hgs : 20 < A.tmps.size := by rw [← hA]; exact puts_room u (by kernel_rfl)
      refine wpOp_skip rfl 7 20 false rfl rfl hgs hgv ?_
      subst hA
      simp only [puts, List.foldl]
      go_simp
      first | exact ⟨rfl, hg, Below.refl _ _⟩ | exact ⟨rfl, hg⟩ | exact ⟨rfl, Below.refl _ _⟩ | exact ⟨rfl, rfl, hg, Below.refl _ _⟩ | exact ⟨hg, Below.refl _ _⟩
    case ns11 =>
      intro u wx hg hC
      have hJ7 : u 7 = .bool true := hC.at 7 (by kernel_rfl)
      clear hC
      generalize hA : puts [(0, 13), (1, 14), (2, 15), (3, 16), (4, 17), (5, 18), (6, 19), (7, 20), (8, 21), (9, 22), (10, 23), (11, 24), (12, 25), (13, 26), (14, 27), (15, 28), (16, 29), (17, 30), (18, 31), (19, 32)] _ u = A
      have hgv : A.tmps.getD 20 undef = .bool true := by rw [← hA]; exact (puts_get u 7 20 _ _ (by decide) (by decide) (by kernel_rfl)).trans hJ7
      have hgs : 20 < A.tmps.size := by rw [← hA]; exact puts_room u (by kernel_rfl)
      refine wpOp_skip rfl 7 20 false rfl rfl hgs hgv ?_
      subst hA
      simp only [puts, List.foldl]
      go_simp
      first | exact ⟨rfl, hg, Below.refl _ _⟩ | exact ⟨rfl, hg⟩ | exact ⟨rfl, Below.refl _ _⟩ | exact ⟨rfl, rfl, hg, Below.refl _ _⟩ | exact ⟨hg, Below.refl _ _⟩
    case ns12 =>
      intro u wx hg hC
      have hJ7 : u 7 = .bool true := hC.at 7 (by kernel_rfl)
      clear hC
      generalize hA : puts [(0, 13), (1, 14), (2, 15), (3, 16), (4, 17), (5, 18), (6, 19), (7, 20), (8, 21), (9, 22), (10, 23), (11, 24), (12, 25), (13, 26), (14, 27), (15, 28), (16, 29), (17, 30), (18, 31), (19, 32)] _ u = A
      have hgv : A.tmps.getD 20 undef = .bool true := by rw [← hA]; exact (puts_get u 7 20 _ _ (by decide) (by decide) (by kernel_rfl)).trans hJ7
      have hgs : 20 < A.tmps.size := by rw [← hA]; exact puts_room u (by kernel_rfl)
      refine wpOp_skip rfl 7 20 false rfl rfl hgs hgv ?_
      subst hA
      simp only [puts, List.foldl]
      go_simp
      first | exact ⟨rfl, hg, Below.refl _ _⟩ | exact ⟨rfl, hg⟩ | exact ⟨rfl, Below.refl _ _⟩ | exact ⟨rfl, rfl, hg, Below.refl _ _⟩ | exact ⟨hg, Below.refl _ _⟩
    case ns13 =>
      intro u wx hg hC
      have hJ7 : u 7 = .bool true := hC.at 7 (by kernel_rfl)
      clear hC
      generalize hA : puts [(0, 13), (1, 14), (2, 15), (3, 16), (4, 17), (5, 18), (6, 19), (7, 20), (8, 21), (9, 22), (10, 23), (11, 24), (12, 25), (13, 26), (14, 27), (15, 28), (16, 29), (17, 30), (18, 31), (19, 32)] _ u = A
      have hgv : A.tmps.getD 20 undef = .bool true := by rw [← hA]; exact (puts_get u 7 20 _ _ (by decide) (by decide) (by kernel_rfl)).trans hJ7
      have hgs : 20 < A.tmps.size := by rw [← hA]; exact puts_room u (by kernel_rfl)
      refine wpOp_skip rfl 7 20 false rfl rfl hgs hgv ?_
      subst hA
      simp only [puts, List.foldl]
      go_simp
      first | exact ⟨rfl, hg, Below.refl _ _⟩ | exact ⟨rfl, hg⟩ | exact ⟨rfl, Below.refl _ _⟩ | exact ⟨rfl, rfl, hg, Below.refl _ _⟩ | exact ⟨hg, Below.refl _ _⟩
    case ns14 =>
      intro u wx hg hC
      have hJ7 : u 7 = .bool true := hC.at 7 (by kernel_rfl)
      clear hC
      generalize hA : puts [(0, 13), (1, 14), (2, 15), (3, 16), (4, 17), (5, 18), (6, 19), (7, 20), (8, 21), (9, 22), (10, 23), (11, 24), (12, 25), (13, 26), (14, 27), (15, 28), (16, 29), (17, 30), (18, 31), (19, 32)] _ u = A
      have hgv : A.tmps.getD 20 undef = .bool true := by rw [← hA]; exact (puts_get u 7 20 _ _ (by decide) (by decide) (by kernel_rfl)).trans hJ7
      have hgs : 20 < A.tmps.size := by rw [← hA]; exact puts_room u (by kernel_rfl)
      refine wpOp_skip rfl 7 20 false rfl rfl hgs hgv ?_
      subst hA
      simp only [puts, List.foldl]
      go_simp
      first | exact ⟨rfl, hg, Below.refl _ _⟩ | exact ⟨rfl, hg⟩ | exact ⟨rfl, Below.refl _ _⟩ | exact ⟨rfl, rfl, hg, Below.refl _ _⟩ | exact ⟨hg, Below.refl _ _⟩
    case ns15 =>
      intro u wx hg hC
      have hJ7 : u 7 = .bool true := hC.at 7 (by kernel_rfl)
      clear hC
      generalize hA : puts [(0, 13), (1, 14), (2, 15), (3, 16), (4, 17), (5, 18), (6, 19), (7, 20), (8, 21), (9, 22), (10, 23), (11, 24), (12, 25), (13, 26), (14, 27), (15, 28), (16, 29), (17, 30), (18, 31), (19, 32)] _ u = A
      have hgv : A.tmps.getD 20 undef = .bool true := by rw [← hA]; exact (puts_get u 7 20 _ _ (by decide) (by decide) (by kernel_rfl)).trans hJ7
      have hgs : 20 < A.tmps.size := by rw [← hA]; exact puts_room u (by kernel_rfl)
      refine wpOp_skip rfl 7 20 false rfl rfl hgs hgv ?_
      subst hA
      simp only [puts, List.foldl]
      go_simp
      first | exact ⟨rfl, hg, Below.refl _ _⟩ | exact ⟨rfl, hg⟩ | exact ⟨rfl, Below.refl _ _⟩ | exact ⟨rfl, rfl, hg, Below.refl _ _⟩ | exact ⟨hg, Below.refl _ _⟩
    case ns16 =>
      intro u wx hg hC
      have hJ7 : u 7 = .bool true := hC.at 7 (by kernel_rfl)
      clear hC
      generalize hA : puts [(0, 13), (1, 14), (2, 15), (3, 16), (4, 17), (5, 18), (6, 19), (7, 20), (8, 21), (9, 22), (10, 23), (11, 24), (12, 25), (13, 26), (14, 27), (15, 28), (16, 29), (17, 30), (18, 31), (19, 32)] _ u = A
      have hgv : A.tmps.getD 20 undef = .bool true := by rw [← hA]; exact (puts_get u 7 20 _ _ (by decide) (by decide) (by kernel_rfl)).trans hJ7
      have hgs : 20 < A.tmps.size := by rw [← hA]; exact puts_room u (by kernel_rfl)
      refine wpOp_skip rfl 7 20 false rfl rfl hgs hgv ?_
      subst hA
      simp only [puts, List.foldl]
      go_simp
      first | exact ⟨rfl, hg, Below.refl _ _⟩ | exact ⟨rfl, hg⟩ | exact ⟨rfl, Below.refl _ _⟩ | exact ⟨rfl, rfl, hg, Below.refl _ _⟩ | exact ⟨hg, Below.refl _ _⟩
    case ns17 =>
      intro u wx hg hC
      have hJ7 : u 7 = .bool true := hC.at 7 (by kernel_rfl)
      clear hC
      generalize hA : puts [(0, 13), (1, 14), (2, 15), (3, 16), (4, 17), (5, 18), (6, 19), (7, 20), (8, 21), (9, 22), (10, 23), (11, 24), (12, 25), (13, 26), (14, 27), (15, 28), (16, 29), (17, 30), (18, 31), (19, 32)] _ u = A
      have hgv : A.tmps.getD 20 undef = .bool true := by rw [← hA]; exact (puts_get u 7 20 _ _ (by decide) (by decide) (by kernel_rfl)).trans hJ7
      have hgs : 20 < A.tmps.size := by rw [← hA]; exact puts_room u (by kernel_rfl)
      refine wpOp_skip rfl 7 20 false rfl rfl hgs hgv ?_
      subst hA
      simp only [puts, List.foldl]
      go_simp
      first | exact ⟨rfl, hg, Below.refl _ _⟩ | exact ⟨rfl, hg⟩ | exact ⟨rfl, Below.refl _ _⟩ | exact ⟨rfl, rfl, hg, Below.refl _ _⟩ | exact ⟨hg, Below.refl _ _⟩
    case ns18 =>
      intro u wx hg hC
      have hJ7 : u 7 = .bool true := hC.at 7 (by kernel_rfl)
      clear hC
      generalize hA : puts [(0, 13), (1, 14), (2, 15), (3, 16), (4, 17), (5, 18), (6, 19), (7, 20), (8, 21), (9, 22), (10, 23), (11, 24), (12, 25), (13, 26), (14, 27), (15, 28), (16, 29), (17, 30), (18, 31), (19, 32)] _ u = A
      have hgv : A.tmps.getD 20 undef = .bool true := by rw [← hA]; exact (puts_get u 7 20 _ _ (by decide) (by decide) (by kernel_rfl)).trans hJ7
      have hgs : 20 < A.tmps.size := by rw [← hA]; exact puts_room u (by kernel_rfl)
      refine wpOp_skip rfl 7 20 false rfl rfl hgs hgv ?_
      subst hA
      simp only [puts, List.foldl]
      go_simp
      first | exact ⟨rfl, hg, Below.refl _ _⟩ | exact ⟨rfl, hg⟩ | exact ⟨rfl, Below.refl _ _⟩ | exact ⟨rfl, rfl, hg, Below.refl _ _⟩ | exact ⟨hg, Below.refl _ _⟩
    case ns19 =>
      intro u wx hg hC
      have hJ7 : u 7 = (.bool true) := hC.at 7 (by kernel_rfl)
      have hJ18 : u 18 = undef := hC.at 18 (by kernel_rfl)
      clear hC
      refine wpOp_step rfl (fun K hK => ?_)
      simp only [puts, List.foldl]
      go_simp
      exact hK _ _ ⟨rfl, rfl, hg, Below.refl _ _⟩
  case finn =>
    intro u wq hbq hφ
    have e6 : u 19 = .bool true := hφ (19, 32) (by decide)
    clear hφ
    simp only [puts, List.foldl]
    go_simp
    have BQ := Lib.hid (B2.out.next hbq)
    have RQ := Lib.hid (R2.out.step hbq)
    clear hbq e6
    go_wp2
    go_ret
    exact ⟨rfl, BQ.out⟩
set_option maxHeartbeats 4000000 in
theorem geoSpread_B (d p s f : Int) (w : World) (hr : right ⟨d, p, s⟩ = true) (hf : f < 0) :
    Calls Try.prog 5 #[.agg #[.int .i64 d, .int .i64 p, .int .i64 s], .int .i64 f] w fun e w' => e = .returned (.bool true) ∧ Below w.heap.size w w' := by
  have HAW := Lib.hid geoAwake_any
  have HRR : Hid (∀ w1, Calls Try.prog 12 #[.agg #[.int .i64 d, .int .i64 p, .int .i64 s]] w1 fun e w' => e = .returned (.bool true) ∧ Below w1.heap.size w1 w') := Lib.hid fun w1 => (rright_any ⟨d, p, s⟩ w1).mono fun e w' h => by rw [hr] at h; exact h
  have HSL : Hid (∀ w1, Calls Try.prog 14 #[.agg #[.int .i64 d, .int .i64 p, .int .i64 s]] w1 fun e w' => e = .returned (.int .i64 (slot ⟨d, p, s⟩)) ∧ Below w1.heap.size w1 w') := Lib.hid fun w1 => slot_any ⟨d, p, s⟩ w1
  have HF := Lib.hid hf
  generalize slot ⟨d, p, s⟩ = sl at HSL
  clear hr hf
  go_enter Try.func5, Try.ntmps5
  go_wp2_with (first
    | ((with_reducible refine wpBoxK [Value.int .i64 d, .int .i64 p, .int .i64 s] 23 ?_ ?_); rfl; intro w1 r1 b1 s1; have R1 := Lib.hid r1; have B1 := Lib.hid b1; clear r1 b1 s1)
    | (go_at_call 6; (with_reducible refine (HAW.out w1).mono ?_); rintro e w2 ⟨rfl, b2⟩; have R2 := Lib.hid (R1.out.step b2); have B2 := Lib.hid (B1.out.next b2); clear b2))
  have LG : Hid (w.heap.size < w2.heap.size) := Lib.hid R2.out.lt
  have C0 : Hid (w2.cell? ⟨w.heap.size, 0, none⟩ = some (.int .i64 d)) := Lib.hid (R2.out.cell 0)
  have C1 : Hid (w2.cell? ⟨w.heap.size, 1, none⟩ = some (.int .i64 p)) := Lib.hid (R2.out.cell 1)
  have C2 : Hid (w2.cell? ⟨w.heap.size, 2, none⟩ = some (.int .i64 s)) := Lib.hid (R2.out.cell 2)
  refine region_invX [(0, 13), (1, 14), (2, 15), (3, 16), (4, 17), (5, 18), (6, 19), (7, 20), (8, 21), (9, 22), (10, 23), (11, 24), (12, 25), (13, 26), (14, 27), (15, 28), (16, 29), (17, 30), (18, 31), (19, 32)]
    (fun ii => [Is (.agg #[(.int .i64 d), (.int .i64 p), (.int .i64 s)]), Is (.bool true), Is (.bool false), Is (.bool false), Is (.int .i64 f), Is (.bool true), Is (.bool true), Is (.bool true), Is undef, Is undef, Is undef, Is undef, Is undef, Is undef, Is undef, Is undef, Is undef, Is undef, Is undef, Is (.bool true)].getD ii (Is undef))
    (fun w' => Below w2.heap.size w2 w') (by kernel_rfl) (by kernel_rfl) (by decide) (by decide) (by kernel_rfl) rfl ?monon ((Below.refl _ _).drew) ?stepn ?finn
  case monon =>
    intro i
    match i with
    | 0 | 1 | 2 | 3 | 4 | 5 | 6 | 7 | 8 | 9 | 10 | 11 | 12 | 13 | 14 | 15 | 16 | 17 | 18 | 19 => exact Is.monot _
    | _ + 20 => exact Is.monot _
  case stepn =>
    refine List.forall_mem_cons.2 ⟨?ns0, List.forall_mem_cons.2 ⟨?ns1, List.forall_mem_cons.2 ⟨?ns2, List.forall_mem_cons.2 ⟨?ns3, List.forall_mem_cons.2 ⟨?ns4, List.forall_mem_cons.2 ⟨?ns5, List.forall_mem_cons.2 ⟨?ns6, List.forall_mem_cons.2 ⟨?ns7, List.forall_mem_cons.2 ⟨?ns8, List.forall_mem_cons.2 ⟨?ns9, List.forall_mem_cons.2 ⟨?ns10, List.forall_mem_cons.2 ⟨?ns11, List.forall_mem_cons.2 ⟨?ns12, List.forall_mem_cons.2 ⟨?ns13, List.forall_mem_cons.2 ⟨?ns14, List.forall_mem_cons.2 ⟨?ns15, List.forall_mem_cons.2 ⟨?ns16, List.forall_mem_cons.2 ⟨?ns17, List.forall_mem_cons.2 ⟨?ns18, List.forall_mem_cons.2 ⟨?ns19, List.forall_mem_nil _⟩⟩⟩⟩⟩⟩⟩⟩⟩⟩⟩⟩⟩⟩⟩⟩⟩⟩⟩⟩
    case ns0 =>
      intro u wx hg hC
      clear hC
      have hcl0 : wx.cell? ⟨w.heap.size, 0, none⟩ = some (.int .i64 d) := (hg.cell (p := ⟨w.heap.size, 0, none⟩) LG.out).trans C0.out
      have hcl1 : wx.cell? ⟨w.heap.size, 1, none⟩ = some (.int .i64 p) := (hg.cell (p := ⟨w.heap.size, 1, none⟩) LG.out).trans C1.out
      have hcl2 : wx.cell? ⟨w.heap.size, 2, none⟩ = some (.int .i64 s) := (hg.cell (p := ⟨w.heap.size, 2, none⟩) LG.out).trans C2.out
      refine wpOp_step rfl (fun K hK => ?_)
      simp only [puts, List.foldl]
      go_simp
      exact hK _ _ ⟨rfl, rfl, hg, Below.refl _ _⟩
    case ns1 =>
      intro u wx hg hC
      have hJ0 : u 0 = (.agg #[(.int .i64 d), (.int .i64 p), (.int .i64 s)]) := hC.at 0 (by kernel_rfl)
      clear hC
      refine wpOp_step rfl (fun K hK => ?_)
      simp only [puts, List.foldl]
      go_simp
      refine (HRR.out wx).mono ?_
      rintro e w' ⟨rfl, hb'⟩
      exact hK _ _ ⟨rfl, rfl, hg.next hb', hb'⟩
    case ns2 =>
      intro u wx hg hC
      have hJ1 : u 1 = (.bool true) := hC.at 1 (by kernel_rfl)
      clear hC
      refine wpOp_step rfl (fun K hK => ?_)
      simp only [puts, List.foldl]
      go_simp
      exact hK _ _ ⟨rfl, rfl, hg, Below.refl _ _⟩
    case ns3 =>
      intro u wx hg hC
      have hJ2 : u 2 = (.bool false) := hC.at 2 (by kernel_rfl)
      clear hC
      refine wpOp_step rfl (fun K hK => ?_)
      simp only [puts, List.foldl]
      go_simp
      exact hK _ _ ⟨rfl, rfl, hg, Below.refl _ _⟩
    case ns4 =>
      intro u wx hg hC
      have hJ3 : u 3 = (.bool false) := hC.at 3 (by kernel_rfl)
      clear hC
      generalize hA : puts [(0, 13), (1, 14), (2, 15), (3, 16), (4, 17), (5, 18), (6, 19), (7, 20), (8, 21), (9, 22), (10, 23), (11, 24), (12, 25), (13, 26), (14, 27), (15, 28), (16, 29), (17, 30), (18, 31), (19, 32)] _ u = A
      have hgv : A.tmps.getD 16 undef = .bool false := by rw [← hA]; exact (puts_get u 3 16 _ _ (by decide) (by decide) (by kernel_rfl)).trans hJ3
      have hgs : 16 < A.tmps.size := by rw [← hA]; exact puts_room u (by kernel_rfl)
      refine wpOp_guard rfl 3 16 false rfl rfl hgs hgv (fun K hK => ?_)
      subst hA
      simp only [puts, List.foldl]
      go_simp
      exact hK _ _ ⟨rfl, rfl, hg, Below.refl _ _⟩
    case ns5 =>
      intro u wx hg hC
      have hJ3 : u 3 = (.bool false) := hC.at 3 (by kernel_rfl)
      have hJ4 : u 4 = (.int .i64 f) := hC.at 4 (by kernel_rfl)
      clear hC
      have hf := HF.out
      generalize hA : puts [(0, 13), (1, 14), (2, 15), (3, 16), (4, 17), (5, 18), (6, 19), (7, 20), (8, 21), (9, 22), (10, 23), (11, 24), (12, 25), (13, 26), (14, 27), (15, 28), (16, 29), (17, 30), (18, 31), (19, 32)] _ u = A
      have hgv : A.tmps.getD 16 undef = .bool false := by rw [← hA]; exact (puts_get u 3 16 _ _ (by decide) (by decide) (by kernel_rfl)).trans hJ3
      have hgs : 16 < A.tmps.size := by rw [← hA]; exact puts_room u (by kernel_rfl)
      refine wpOp_guard rfl 3 16 false rfl rfl hgs hgv (fun K hK => ?_)
      subst hA
      simp only [puts, List.foldl]
      go_simp
      exact hK _ _ ⟨rfl, rfl, hg, Below.refl _ _⟩
    case ns6 =>
      intro u wx hg hC
      have hJ3 : u 3 = (.bool false) := hC.at 3 (by kernel_rfl)
      have hJ5 : u 5 = (.bool true) := hC.at 5 (by kernel_rfl)
      clear hC
      refine wpOp_step rfl (fun K hK => ?_)
      simp only [puts, List.foldl]
      go_simp
      exact hK _ _ ⟨rfl, rfl, hg, Below.refl _ _⟩
    case ns7 =>
      intro u wx hg hC
      have hJ6 : u 6 = (.bool true) := hC.at 6 (by kernel_rfl)
      clear hC
      refine wpOp_step rfl (fun K hK => ?_)
      simp only [puts, List.foldl]
      go_simp
      exact hK _ _ ⟨rfl, rfl, hg, Below.refl _ _⟩
    case ns8 =>
      intro u wx hg hC
      have hJ7 : u 7 = .bool true := hC.at 7 (by kernel_rfl)
      clear hC
      generalize hA : puts [(0, 13), (1, 14), (2, 15), (3, 16), (4, 17), (5, 18), (6, 19), (7, 20), (8, 21), (9, 22), (10, 23), (11, 24), (12, 25), (13, 26), (14, 27), (15, 28), (16, 29), (17, 30), (18, 31), (19, 32)] _ u = A
      have hgv : A.tmps.getD 20 undef = .bool true := by rw [← hA]; exact (puts_get u 7 20 _ _ (by decide) (by decide) (by kernel_rfl)).trans hJ7
      have hgs : 20 < A.tmps.size := by rw [← hA]; exact puts_room u (by kernel_rfl)
      refine wpOp_skip rfl 7 20 false rfl rfl hgs hgv ?_
      subst hA
      simp only [puts, List.foldl]
      go_simp
      first | exact ⟨rfl, hg, Below.refl _ _⟩ | exact ⟨rfl, hg⟩ | exact ⟨rfl, Below.refl _ _⟩ | exact ⟨rfl, rfl, hg, Below.refl _ _⟩ | exact ⟨hg, Below.refl _ _⟩
    case ns9 =>
      intro u wx hg hC
      have hJ7 : u 7 = .bool true := hC.at 7 (by kernel_rfl)
      clear hC
      generalize hA : puts [(0, 13), (1, 14), (2, 15), (3, 16), (4, 17), (5, 18), (6, 19), (7, 20), (8, 21), (9, 22), (10, 23), (11, 24), (12, 25), (13, 26), (14, 27), (15, 28), (16, 29), (17, 30), (18, 31), (19, 32)] _ u = A
      have hgv : A.tmps.getD 20 undef = .bool true := by rw [← hA]; exact (puts_get u 7 20 _ _ (by decide) (by decide) (by kernel_rfl)).trans hJ7
      have hgs : 20 < A.tmps.size := by rw [← hA]; exact puts_room u (by kernel_rfl)
      refine wpOp_skip rfl 7 20 false rfl rfl hgs hgv ?_
      subst hA
      simp only [puts, List.foldl]
      go_simp
      first | exact ⟨rfl, hg, Below.refl _ _⟩ | exact ⟨rfl, hg⟩ | exact ⟨rfl, Below.refl _ _⟩ | exact ⟨rfl, rfl, hg, Below.refl _ _⟩ | exact ⟨hg, Below.refl _ _⟩
    case ns10 =>
      intro u wx hg hC
      have hJ7 : u 7 = .bool true := hC.at 7 (by kernel_rfl)
      clear hC
      generalize hA : puts [(0, 13), (1, 14), (2, 15), (3, 16), (4, 17), (5, 18), (6, 19), (7, 20), (8, 21), (9, 22), (10, 23), (11, 24), (12, 25), (13, 26), (14, 27), (15, 28), (16, 29), (17, 30), (18, 31), (19, 32)] _ u = A
      have hgv : A.tmps.getD 20 undef = .bool true := by rw [← hA]; exact (puts_get u 7 20 _ _ (by decide) (by decide) (by kernel_rfl)).trans hJ7
      have hgs : 20 < A.tmps.size := by rw [← hA]; exact puts_room u (by kernel_rfl)
      refine wpOp_skip rfl 7 20 false rfl rfl hgs hgv ?_
      subst hA
      simp only [puts, List.foldl]
      go_simp
      first | exact ⟨rfl, hg, Below.refl _ _⟩ | exact ⟨rfl, hg⟩ | exact ⟨rfl, Below.refl _ _⟩ | exact ⟨rfl, rfl, hg, Below.refl _ _⟩ | exact ⟨hg, Below.refl _ _⟩
    case ns11 =>
      intro u wx hg hC
      have hJ7 : u 7 = .bool true := hC.at 7 (by kernel_rfl)
      clear hC
      generalize hA : puts [(0, 13), (1, 14), (2, 15), (3, 16), (4, 17), (5, 18), (6, 19), (7, 20), (8, 21), (9, 22), (10, 23), (11, 24), (12, 25), (13, 26), (14, 27), (15, 28), (16, 29), (17, 30), (18, 31), (19, 32)] _ u = A
      have hgv : A.tmps.getD 20 undef = .bool true := by rw [← hA]; exact (puts_get u 7 20 _ _ (by decide) (by decide) (by kernel_rfl)).trans hJ7
      have hgs : 20 < A.tmps.size := by rw [← hA]; exact puts_room u (by kernel_rfl)
      refine wpOp_skip rfl 7 20 false rfl rfl hgs hgv ?_
      subst hA
      simp only [puts, List.foldl]
      go_simp
      first | exact ⟨rfl, hg, Below.refl _ _⟩ | exact ⟨rfl, hg⟩ | exact ⟨rfl, Below.refl _ _⟩ | exact ⟨rfl, rfl, hg, Below.refl _ _⟩ | exact ⟨hg, Below.refl _ _⟩
    case ns12 =>
      intro u wx hg hC
      have hJ7 : u 7 = .bool true := hC.at 7 (by kernel_rfl)
      clear hC
      generalize hA : puts [(0, 13), (1, 14), (2, 15), (3, 16), (4, 17), (5, 18), (6, 19), (7, 20), (8, 21), (9, 22), (10, 23), (11, 24), (12, 25), (13, 26), (14, 27), (15, 28), (16, 29), (17, 30), (18, 31), (19, 32)] _ u = A
      have hgv : A.tmps.getD 20 undef = .bool true := by rw [← hA]; exact (puts_get u 7 20 _ _ (by decide) (by decide) (by kernel_rfl)).trans hJ7
      have hgs : 20 < A.tmps.size := by rw [← hA]; exact puts_room u (by kernel_rfl)
      refine wpOp_skip rfl 7 20 false rfl rfl hgs hgv ?_
      subst hA
      simp only [puts, List.foldl]
      go_simp
      first | exact ⟨rfl, hg, Below.refl _ _⟩ | exact ⟨rfl, hg⟩ | exact ⟨rfl, Below.refl _ _⟩ | exact ⟨rfl, rfl, hg, Below.refl _ _⟩ | exact ⟨hg, Below.refl _ _⟩
    case ns13 =>
      intro u wx hg hC
      have hJ7 : u 7 = .bool true := hC.at 7 (by kernel_rfl)
      clear hC
      generalize hA : puts [(0, 13), (1, 14), (2, 15), (3, 16), (4, 17), (5, 18), (6, 19), (7, 20), (8, 21), (9, 22), (10, 23), (11, 24), (12, 25), (13, 26), (14, 27), (15, 28), (16, 29), (17, 30), (18, 31), (19, 32)] _ u = A
      have hgv : A.tmps.getD 20 undef = .bool true := by rw [← hA]; exact (puts_get u 7 20 _ _ (by decide) (by decide) (by kernel_rfl)).trans hJ7
      have hgs : 20 < A.tmps.size := by rw [← hA]; exact puts_room u (by kernel_rfl)
      refine wpOp_skip rfl 7 20 false rfl rfl hgs hgv ?_
      subst hA
      simp only [puts, List.foldl]
      go_simp
      first | exact ⟨rfl, hg, Below.refl _ _⟩ | exact ⟨rfl, hg⟩ | exact ⟨rfl, Below.refl _ _⟩ | exact ⟨rfl, rfl, hg, Below.refl _ _⟩ | exact ⟨hg, Below.refl _ _⟩
    case ns14 =>
      intro u wx hg hC
      have hJ7 : u 7 = .bool true := hC.at 7 (by kernel_rfl)
      clear hC
      generalize hA : puts [(0, 13), (1, 14), (2, 15), (3, 16), (4, 17), (5, 18), (6, 19), (7, 20), (8, 21), (9, 22), (10, 23), (11, 24), (12, 25), (13, 26), (14, 27), (15, 28), (16, 29), (17, 30), (18, 31), (19, 32)] _ u = A
      have hgv : A.tmps.getD 20 undef = .bool true := by rw [← hA]; exact (puts_get u 7 20 _ _ (by decide) (by decide) (by kernel_rfl)).trans hJ7
      have hgs : 20 < A.tmps.size := by rw [← hA]; exact puts_room u (by kernel_rfl)
      refine wpOp_skip rfl 7 20 false rfl rfl hgs hgv ?_
      subst hA
      simp only [puts, List.foldl]
      go_simp
      first | exact ⟨rfl, hg, Below.refl _ _⟩ | exact ⟨rfl, hg⟩ | exact ⟨rfl, Below.refl _ _⟩ | exact ⟨rfl, rfl, hg, Below.refl _ _⟩ | exact ⟨hg, Below.refl _ _⟩
    case ns15 =>
      intro u wx hg hC
      have hJ7 : u 7 = .bool true := hC.at 7 (by kernel_rfl)
      clear hC
      generalize hA : puts [(0, 13), (1, 14), (2, 15), (3, 16), (4, 17), (5, 18), (6, 19), (7, 20), (8, 21), (9, 22), (10, 23), (11, 24), (12, 25), (13, 26), (14, 27), (15, 28), (16, 29), (17, 30), (18, 31), (19, 32)] _ u = A
      have hgv : A.tmps.getD 20 undef = .bool true := by rw [← hA]; exact (puts_get u 7 20 _ _ (by decide) (by decide) (by kernel_rfl)).trans hJ7
      have hgs : 20 < A.tmps.size := by rw [← hA]; exact puts_room u (by kernel_rfl)
      refine wpOp_skip rfl 7 20 false rfl rfl hgs hgv ?_
      subst hA
      simp only [puts, List.foldl]
      go_simp
      first | exact ⟨rfl, hg, Below.refl _ _⟩ | exact ⟨rfl, hg⟩ | exact ⟨rfl, Below.refl _ _⟩ | exact ⟨rfl, rfl, hg, Below.refl _ _⟩ | exact ⟨hg, Below.refl _ _⟩
    case ns16 =>
      intro u wx hg hC
      have hJ7 : u 7 = .bool true := hC.at 7 (by kernel_rfl)
      clear hC
      generalize hA : puts [(0, 13), (1, 14), (2, 15), (3, 16), (4, 17), (5, 18), (6, 19), (7, 20), (8, 21), (9, 22), (10, 23), (11, 24), (12, 25), (13, 26), (14, 27), (15, 28), (16, 29), (17, 30), (18, 31), (19, 32)] _ u = A
      have hgv : A.tmps.getD 20 undef = .bool true := by rw [← hA]; exact (puts_get u 7 20 _ _ (by decide) (by decide) (by kernel_rfl)).trans hJ7
      have hgs : 20 < A.tmps.size := by rw [← hA]; exact puts_room u (by kernel_rfl)
      refine wpOp_skip rfl 7 20 false rfl rfl hgs hgv ?_
      subst hA
      simp only [puts, List.foldl]
      go_simp
      first | exact ⟨rfl, hg, Below.refl _ _⟩ | exact ⟨rfl, hg⟩ | exact ⟨rfl, Below.refl _ _⟩ | exact ⟨rfl, rfl, hg, Below.refl _ _⟩ | exact ⟨hg, Below.refl _ _⟩
    case ns17 =>
      intro u wx hg hC
      have hJ7 : u 7 = .bool true := hC.at 7 (by kernel_rfl)
      clear hC
      generalize hA : puts [(0, 13), (1, 14), (2, 15), (3, 16), (4, 17), (5, 18), (6, 19), (7, 20), (8, 21), (9, 22), (10, 23), (11, 24), (12, 25), (13, 26), (14, 27), (15, 28), (16, 29), (17, 30), (18, 31), (19, 32)] _ u = A
      have hgv : A.tmps.getD 20 undef = .bool true := by rw [← hA]; exact (puts_get u 7 20 _ _ (by decide) (by decide) (by kernel_rfl)).trans hJ7
      have hgs : 20 < A.tmps.size := by rw [← hA]; exact puts_room u (by kernel_rfl)
      refine wpOp_skip rfl 7 20 false rfl rfl hgs hgv ?_
      subst hA
      simp only [puts, List.foldl]
      go_simp
      first | exact ⟨rfl, hg, Below.refl _ _⟩ | exact ⟨rfl, hg⟩ | exact ⟨rfl, Below.refl _ _⟩ | exact ⟨rfl, rfl, hg, Below.refl _ _⟩ | exact ⟨hg, Below.refl _ _⟩
    case ns18 =>
      intro u wx hg hC
      have hJ7 : u 7 = .bool true := hC.at 7 (by kernel_rfl)
      clear hC
      generalize hA : puts [(0, 13), (1, 14), (2, 15), (3, 16), (4, 17), (5, 18), (6, 19), (7, 20), (8, 21), (9, 22), (10, 23), (11, 24), (12, 25), (13, 26), (14, 27), (15, 28), (16, 29), (17, 30), (18, 31), (19, 32)] _ u = A
      have hgv : A.tmps.getD 20 undef = .bool true := by rw [← hA]; exact (puts_get u 7 20 _ _ (by decide) (by decide) (by kernel_rfl)).trans hJ7
      have hgs : 20 < A.tmps.size := by rw [← hA]; exact puts_room u (by kernel_rfl)
      refine wpOp_skip rfl 7 20 false rfl rfl hgs hgv ?_
      subst hA
      simp only [puts, List.foldl]
      go_simp
      first | exact ⟨rfl, hg, Below.refl _ _⟩ | exact ⟨rfl, hg⟩ | exact ⟨rfl, Below.refl _ _⟩ | exact ⟨rfl, rfl, hg, Below.refl _ _⟩ | exact ⟨hg, Below.refl _ _⟩
    case ns19 =>
      intro u wx hg hC
      have hJ7 : u 7 = (.bool true) := hC.at 7 (by kernel_rfl)
      have hJ18 : u 18 = undef := hC.at 18 (by kernel_rfl)
      clear hC
      refine wpOp_step rfl (fun K hK => ?_)
      simp only [puts, List.foldl]
      go_simp
      exact hK _ _ ⟨rfl, rfl, hg, Below.refl _ _⟩
  case finn =>
    intro u wq hbq hφ
    have e6 : u 19 = .bool true := hφ (19, 32) (by decide)
    clear hφ
    simp only [puts, List.foldl]
    go_simp
    have BQ := Lib.hid (B2.out.next hbq)
    have RQ := Lib.hid (R2.out.step hbq)
    clear hbq e6
    go_wp2
    go_ret
    exact ⟨rfl, BQ.out⟩
set_option maxHeartbeats 4000000 in
theorem geoSpread_C (d p s f : Int) (w : World) (hr : right ⟨d, p, s⟩ = true) (hf : ¬ f < 0) (hm : 2 * slot ⟨d, p, s⟩ + slot ⟨d, p, s⟩ - s < f) :
    Calls Try.prog 5 #[.agg #[.int .i64 d, .int .i64 p, .int .i64 s], .int .i64 f] w fun e w' => e = .returned (.bool true) ∧ Below w.heap.size w w' := by
  have HAW := Lib.hid geoAwake_any
  have HRR : Hid (∀ w1, Calls Try.prog 12 #[.agg #[.int .i64 d, .int .i64 p, .int .i64 s]] w1 fun e w' => e = .returned (.bool true) ∧ Below w1.heap.size w1 w') := Lib.hid fun w1 => (rright_any ⟨d, p, s⟩ w1).mono fun e w' h => by rw [hr] at h; exact h
  have HSL : Hid (∀ w1, Calls Try.prog 14 #[.agg #[.int .i64 d, .int .i64 p, .int .i64 s]] w1 fun e w' => e = .returned (.int .i64 (slot ⟨d, p, s⟩)) ∧ Below w1.heap.size w1 w') := Lib.hid fun w1 => slot_any ⟨d, p, s⟩ w1
  have HF := Lib.hid hf
  have HM := Lib.hid hm
  have hrt := (right_iff ⟨d, p, s⟩).1 hr
  have hsl := slot_le ⟨d, p, s⟩
  have hs1 : 1 ≤ s := hrt.s1
  have hs8 : s ≤ 8 := hrt.s8
  generalize slot ⟨d, p, s⟩ = sl at HSL HM hsl
  have W1 : Hid (IntKind.i64.wrap (2 * sl) = 2 * sl) := Lib.hid (by rw [IntKind.wrap_i64]; omega)
  have W2 : Hid (IntKind.i64.wrap (2 * sl + sl) = 2 * sl + sl) := Lib.hid (by rw [IntKind.wrap_i64]; omega)
  have W3 : Hid (IntKind.i64.wrap (2 * sl + sl - s) = 2 * sl + sl - s) := Lib.hid (by rw [IntKind.wrap_i64]; omega)
  clear hsl hs1 hs8 hm hf hr hrt
  go_enter Try.func5, Try.ntmps5
  go_wp2_with (first
    | ((with_reducible refine wpBoxK [Value.int .i64 d, .int .i64 p, .int .i64 s] 23 ?_ ?_); rfl; intro w1 r1 b1 s1; have R1 := Lib.hid r1; have B1 := Lib.hid b1; clear r1 b1 s1)
    | (go_at_call 6; (with_reducible refine (HAW.out w1).mono ?_); rintro e w2 ⟨rfl, b2⟩; have R2 := Lib.hid (R1.out.step b2); have B2 := Lib.hid (B1.out.next b2); clear b2))
  have LG : Hid (w.heap.size < w2.heap.size) := Lib.hid R2.out.lt
  have C0 : Hid (w2.cell? ⟨w.heap.size, 0, none⟩ = some (.int .i64 d)) := Lib.hid (R2.out.cell 0)
  have C1 : Hid (w2.cell? ⟨w.heap.size, 1, none⟩ = some (.int .i64 p)) := Lib.hid (R2.out.cell 1)
  have C2 : Hid (w2.cell? ⟨w.heap.size, 2, none⟩ = some (.int .i64 s)) := Lib.hid (R2.out.cell 2)
  refine region_invX [(0, 13), (1, 14), (2, 15), (3, 16), (4, 17), (5, 18), (6, 19), (7, 20), (8, 21), (9, 22), (10, 23), (11, 24), (12, 25), (13, 26), (14, 27), (15, 28), (16, 29), (17, 30), (18, 31), (19, 32)]
    (fun ii => [Is (.agg #[(.int .i64 d), (.int .i64 p), (.int .i64 s)]), Is (.bool true), Is (.bool false), Is (.bool false), Is (.int .i64 f), Is (.bool false), Is (.bool false), Is (.bool false), Is (.int .i64 f), Is (.agg #[(.int .i64 d), (.int .i64 p), (.int .i64 s)]), Is (.int .i64 sl), Is (.int .i64 (2 * sl)), Is (.agg #[(.int .i64 d), (.int .i64 p), (.int .i64 s)]), Is (.int .i64 sl), Is (.int .i64 (2 * sl + sl)), Is (.pointer (some ⟨w.heap.size, 2, none⟩)), Is (.int .i64 s), Is (.int .i64 (2 * sl + sl - s)), Is (.bool true), Is (.bool true)].getD ii (Is undef))
    (fun w' => Below w2.heap.size w2 w') (by kernel_rfl) (by kernel_rfl) (by decide) (by decide) (by kernel_rfl) rfl ?monon ((Below.refl _ _).drew) ?stepn ?finn
  case monon =>
    intro i
    match i with
    | 0 | 1 | 2 | 3 | 4 | 5 | 6 | 7 | 8 | 9 | 10 | 11 | 12 | 13 | 14 | 15 | 16 | 17 | 18 | 19 => exact Is.monot _
    | _ + 20 => exact Is.monot _
  case stepn =>
    refine List.forall_mem_cons.2 ⟨?ns0, List.forall_mem_cons.2 ⟨?ns1, List.forall_mem_cons.2 ⟨?ns2, List.forall_mem_cons.2 ⟨?ns3, List.forall_mem_cons.2 ⟨?ns4, List.forall_mem_cons.2 ⟨?ns5, List.forall_mem_cons.2 ⟨?ns6, List.forall_mem_cons.2 ⟨?ns7, List.forall_mem_cons.2 ⟨?ns8, List.forall_mem_cons.2 ⟨?ns9, List.forall_mem_cons.2 ⟨?ns10, List.forall_mem_cons.2 ⟨?ns11, List.forall_mem_cons.2 ⟨?ns12, List.forall_mem_cons.2 ⟨?ns13, List.forall_mem_cons.2 ⟨?ns14, List.forall_mem_cons.2 ⟨?ns15, List.forall_mem_cons.2 ⟨?ns16, List.forall_mem_cons.2 ⟨?ns17, List.forall_mem_cons.2 ⟨?ns18, List.forall_mem_cons.2 ⟨?ns19, List.forall_mem_nil _⟩⟩⟩⟩⟩⟩⟩⟩⟩⟩⟩⟩⟩⟩⟩⟩⟩⟩⟩⟩
    case ns0 =>
      intro u wx hg hC
      clear hC
      have hcl0 : wx.cell? ⟨w.heap.size, 0, none⟩ = some (.int .i64 d) := (hg.cell (p := ⟨w.heap.size, 0, none⟩) LG.out).trans C0.out
      have hcl1 : wx.cell? ⟨w.heap.size, 1, none⟩ = some (.int .i64 p) := (hg.cell (p := ⟨w.heap.size, 1, none⟩) LG.out).trans C1.out
      have hcl2 : wx.cell? ⟨w.heap.size, 2, none⟩ = some (.int .i64 s) := (hg.cell (p := ⟨w.heap.size, 2, none⟩) LG.out).trans C2.out
      refine wpOp_step rfl (fun K hK => ?_)
      simp only [puts, List.foldl]
      go_simp
      exact hK _ _ ⟨rfl, rfl, hg, Below.refl _ _⟩
    case ns1 =>
      intro u wx hg hC
      have hJ0 : u 0 = (.agg #[(.int .i64 d), (.int .i64 p), (.int .i64 s)]) := hC.at 0 (by kernel_rfl)
      clear hC
      refine wpOp_step rfl (fun K hK => ?_)
      simp only [puts, List.foldl]
      go_simp
      refine (HRR.out wx).mono ?_
      rintro e w' ⟨rfl, hb'⟩
      exact hK _ _ ⟨rfl, rfl, hg.next hb', hb'⟩
    case ns2 =>
      intro u wx hg hC
      have hJ1 : u 1 = (.bool true) := hC.at 1 (by kernel_rfl)
      clear hC
      refine wpOp_step rfl (fun K hK => ?_)
      simp only [puts, List.foldl]
      go_simp
      exact hK _ _ ⟨rfl, rfl, hg, Below.refl _ _⟩
    case ns3 =>
      intro u wx hg hC
      have hJ2 : u 2 = (.bool false) := hC.at 2 (by kernel_rfl)
      clear hC
      refine wpOp_step rfl (fun K hK => ?_)
      simp only [puts, List.foldl]
      go_simp
      exact hK _ _ ⟨rfl, rfl, hg, Below.refl _ _⟩
    case ns4 =>
      intro u wx hg hC
      have hJ3 : u 3 = (.bool false) := hC.at 3 (by kernel_rfl)
      clear hC
      generalize hA : puts [(0, 13), (1, 14), (2, 15), (3, 16), (4, 17), (5, 18), (6, 19), (7, 20), (8, 21), (9, 22), (10, 23), (11, 24), (12, 25), (13, 26), (14, 27), (15, 28), (16, 29), (17, 30), (18, 31), (19, 32)] _ u = A
      have hgv : A.tmps.getD 16 undef = .bool false := by rw [← hA]; exact (puts_get u 3 16 _ _ (by decide) (by decide) (by kernel_rfl)).trans hJ3
      have hgs : 16 < A.tmps.size := by rw [← hA]; exact puts_room u (by kernel_rfl)
      refine wpOp_guard rfl 3 16 false rfl rfl hgs hgv (fun K hK => ?_)
      subst hA
      simp only [puts, List.foldl]
      go_simp
      exact hK _ _ ⟨rfl, rfl, hg, Below.refl _ _⟩
    case ns5 =>
      intro u wx hg hC
      have hJ3 : u 3 = (.bool false) := hC.at 3 (by kernel_rfl)
      have hJ4 : u 4 = (.int .i64 f) := hC.at 4 (by kernel_rfl)
      clear hC
      have hf := HF.out
      have hf2 : decide (f < 0) = false := decide_eq_false (by have := HF.out; omega)
      generalize hA : puts [(0, 13), (1, 14), (2, 15), (3, 16), (4, 17), (5, 18), (6, 19), (7, 20), (8, 21), (9, 22), (10, 23), (11, 24), (12, 25), (13, 26), (14, 27), (15, 28), (16, 29), (17, 30), (18, 31), (19, 32)] _ u = A
      have hgv : A.tmps.getD 16 undef = .bool false := by rw [← hA]; exact (puts_get u 3 16 _ _ (by decide) (by decide) (by kernel_rfl)).trans hJ3
      have hgs : 16 < A.tmps.size := by rw [← hA]; exact puts_room u (by kernel_rfl)
      refine wpOp_guard rfl 3 16 false rfl rfl hgs hgv (fun K hK => ?_)
      subst hA
      simp only [puts, List.foldl]
      go_simp
      exact hK _ _ ⟨rfl, rfl, hg, Below.refl _ _⟩
    case ns6 =>
      intro u wx hg hC
      have hJ3 : u 3 = (.bool false) := hC.at 3 (by kernel_rfl)
      have hJ5 : u 5 = (.bool false) := hC.at 5 (by kernel_rfl)
      clear hC
      refine wpOp_step rfl (fun K hK => ?_)
      simp only [puts, List.foldl]
      go_simp
      exact hK _ _ ⟨rfl, rfl, hg, Below.refl _ _⟩
    case ns7 =>
      intro u wx hg hC
      have hJ6 : u 6 = (.bool false) := hC.at 6 (by kernel_rfl)
      clear hC
      refine wpOp_step rfl (fun K hK => ?_)
      simp only [puts, List.foldl]
      go_simp
      exact hK _ _ ⟨rfl, rfl, hg, Below.refl _ _⟩
    case ns8 =>
      intro u wx hg hC
      have hJ7 : u 7 = (.bool false) := hC.at 7 (by kernel_rfl)
      clear hC
      generalize hA : puts [(0, 13), (1, 14), (2, 15), (3, 16), (4, 17), (5, 18), (6, 19), (7, 20), (8, 21), (9, 22), (10, 23), (11, 24), (12, 25), (13, 26), (14, 27), (15, 28), (16, 29), (17, 30), (18, 31), (19, 32)] _ u = A
      have hgv : A.tmps.getD 20 undef = .bool false := by rw [← hA]; exact (puts_get u 7 20 _ _ (by decide) (by decide) (by kernel_rfl)).trans hJ7
      have hgs : 20 < A.tmps.size := by rw [← hA]; exact puts_room u (by kernel_rfl)
      refine wpOp_guard rfl 7 20 false rfl rfl hgs hgv (fun K hK => ?_)
      subst hA
      simp only [puts, List.foldl]
      go_simp
      exact hK _ _ ⟨rfl, rfl, hg, Below.refl _ _⟩
    case ns9 =>
      intro u wx hg hC
      have hJ7 : u 7 = (.bool false) := hC.at 7 (by kernel_rfl)
      clear hC
      have hcl0 : wx.cell? ⟨w.heap.size, 0, none⟩ = some (.int .i64 d) := (hg.cell (p := ⟨w.heap.size, 0, none⟩) LG.out).trans C0.out
      have hcl1 : wx.cell? ⟨w.heap.size, 1, none⟩ = some (.int .i64 p) := (hg.cell (p := ⟨w.heap.size, 1, none⟩) LG.out).trans C1.out
      have hcl2 : wx.cell? ⟨w.heap.size, 2, none⟩ = some (.int .i64 s) := (hg.cell (p := ⟨w.heap.size, 2, none⟩) LG.out).trans C2.out
      generalize hA : puts [(0, 13), (1, 14), (2, 15), (3, 16), (4, 17), (5, 18), (6, 19), (7, 20), (8, 21), (9, 22), (10, 23), (11, 24), (12, 25), (13, 26), (14, 27), (15, 28), (16, 29), (17, 30), (18, 31), (19, 32)] _ u = A
      have hgv : A.tmps.getD 20 undef = .bool false := by rw [← hA]; exact (puts_get u 7 20 _ _ (by decide) (by decide) (by kernel_rfl)).trans hJ7
      have hgs : 20 < A.tmps.size := by rw [← hA]; exact puts_room u (by kernel_rfl)
      refine wpOp_guard rfl 7 20 false rfl rfl hgs hgv (fun K hK => ?_)
      subst hA
      simp only [puts, List.foldl]
      go_simp
      exact hK _ _ ⟨rfl, rfl, hg, Below.refl _ _⟩
    case ns10 =>
      intro u wx hg hC
      have hJ7 : u 7 = (.bool false) := hC.at 7 (by kernel_rfl)
      have hJ9 : u 9 = (.agg #[(.int .i64 d), (.int .i64 p), (.int .i64 s)]) := hC.at 9 (by kernel_rfl)
      clear hC
      generalize hA : puts [(0, 13), (1, 14), (2, 15), (3, 16), (4, 17), (5, 18), (6, 19), (7, 20), (8, 21), (9, 22), (10, 23), (11, 24), (12, 25), (13, 26), (14, 27), (15, 28), (16, 29), (17, 30), (18, 31), (19, 32)] _ u = A
      have hgv : A.tmps.getD 20 undef = .bool false := by rw [← hA]; exact (puts_get u 7 20 _ _ (by decide) (by decide) (by kernel_rfl)).trans hJ7
      have hgs : 20 < A.tmps.size := by rw [← hA]; exact puts_room u (by kernel_rfl)
      refine wpOp_guard rfl 7 20 false rfl rfl hgs hgv (fun K hK => ?_)
      subst hA
      simp only [puts, List.foldl]
      go_simp
      refine (HSL.out wx).mono ?_
      rintro e w' ⟨rfl, hb'⟩
      exact hK _ _ ⟨rfl, rfl, hg.next hb', hb'⟩
    case ns11 =>
      intro u wx hg hC
      have hJ7 : u 7 = (.bool false) := hC.at 7 (by kernel_rfl)
      have hJ10 : u 10 = (.int .i64 sl) := hC.at 10 (by kernel_rfl)
      clear hC
      have hw : IntKind.i64.wrap (2 * sl) = 2 * sl := W1.out
      generalize hA : puts [(0, 13), (1, 14), (2, 15), (3, 16), (4, 17), (5, 18), (6, 19), (7, 20), (8, 21), (9, 22), (10, 23), (11, 24), (12, 25), (13, 26), (14, 27), (15, 28), (16, 29), (17, 30), (18, 31), (19, 32)] _ u = A
      have hgv : A.tmps.getD 20 undef = .bool false := by rw [← hA]; exact (puts_get u 7 20 _ _ (by decide) (by decide) (by kernel_rfl)).trans hJ7
      have hgs : 20 < A.tmps.size := by rw [← hA]; exact puts_room u (by kernel_rfl)
      refine wpOp_guard rfl 7 20 false rfl rfl hgs hgv (fun K hK => ?_)
      subst hA
      simp only [puts, List.foldl]
      go_simp
      exact hK _ _ ⟨rfl, rfl, hg, Below.refl _ _⟩
    case ns12 =>
      intro u wx hg hC
      have hJ7 : u 7 = (.bool false) := hC.at 7 (by kernel_rfl)
      clear hC
      have hcl0 : wx.cell? ⟨w.heap.size, 0, none⟩ = some (.int .i64 d) := (hg.cell (p := ⟨w.heap.size, 0, none⟩) LG.out).trans C0.out
      have hcl1 : wx.cell? ⟨w.heap.size, 1, none⟩ = some (.int .i64 p) := (hg.cell (p := ⟨w.heap.size, 1, none⟩) LG.out).trans C1.out
      have hcl2 : wx.cell? ⟨w.heap.size, 2, none⟩ = some (.int .i64 s) := (hg.cell (p := ⟨w.heap.size, 2, none⟩) LG.out).trans C2.out
      generalize hA : puts [(0, 13), (1, 14), (2, 15), (3, 16), (4, 17), (5, 18), (6, 19), (7, 20), (8, 21), (9, 22), (10, 23), (11, 24), (12, 25), (13, 26), (14, 27), (15, 28), (16, 29), (17, 30), (18, 31), (19, 32)] _ u = A
      have hgv : A.tmps.getD 20 undef = .bool false := by rw [← hA]; exact (puts_get u 7 20 _ _ (by decide) (by decide) (by kernel_rfl)).trans hJ7
      have hgs : 20 < A.tmps.size := by rw [← hA]; exact puts_room u (by kernel_rfl)
      refine wpOp_guard rfl 7 20 false rfl rfl hgs hgv (fun K hK => ?_)
      subst hA
      simp only [puts, List.foldl]
      go_simp
      exact hK _ _ ⟨rfl, rfl, hg, Below.refl _ _⟩
    case ns13 =>
      intro u wx hg hC
      have hJ7 : u 7 = (.bool false) := hC.at 7 (by kernel_rfl)
      have hJ12 : u 12 = (.agg #[(.int .i64 d), (.int .i64 p), (.int .i64 s)]) := hC.at 12 (by kernel_rfl)
      clear hC
      generalize hA : puts [(0, 13), (1, 14), (2, 15), (3, 16), (4, 17), (5, 18), (6, 19), (7, 20), (8, 21), (9, 22), (10, 23), (11, 24), (12, 25), (13, 26), (14, 27), (15, 28), (16, 29), (17, 30), (18, 31), (19, 32)] _ u = A
      have hgv : A.tmps.getD 20 undef = .bool false := by rw [← hA]; exact (puts_get u 7 20 _ _ (by decide) (by decide) (by kernel_rfl)).trans hJ7
      have hgs : 20 < A.tmps.size := by rw [← hA]; exact puts_room u (by kernel_rfl)
      refine wpOp_guard rfl 7 20 false rfl rfl hgs hgv (fun K hK => ?_)
      subst hA
      simp only [puts, List.foldl]
      go_simp
      refine (HSL.out wx).mono ?_
      rintro e w' ⟨rfl, hb'⟩
      exact hK _ _ ⟨rfl, rfl, hg.next hb', hb'⟩
    case ns14 =>
      intro u wx hg hC
      have hJ7 : u 7 = (.bool false) := hC.at 7 (by kernel_rfl)
      have hJ11 : u 11 = (.int .i64 (2 * sl)) := hC.at 11 (by kernel_rfl)
      have hJ13 : u 13 = (.int .i64 sl) := hC.at 13 (by kernel_rfl)
      clear hC
      have hw : IntKind.i64.wrap (2 * sl + sl) = 2 * sl + sl := W2.out
      generalize hA : puts [(0, 13), (1, 14), (2, 15), (3, 16), (4, 17), (5, 18), (6, 19), (7, 20), (8, 21), (9, 22), (10, 23), (11, 24), (12, 25), (13, 26), (14, 27), (15, 28), (16, 29), (17, 30), (18, 31), (19, 32)] _ u = A
      have hgv : A.tmps.getD 20 undef = .bool false := by rw [← hA]; exact (puts_get u 7 20 _ _ (by decide) (by decide) (by kernel_rfl)).trans hJ7
      have hgs : 20 < A.tmps.size := by rw [← hA]; exact puts_room u (by kernel_rfl)
      refine wpOp_guard rfl 7 20 false rfl rfl hgs hgv (fun K hK => ?_)
      subst hA
      simp only [puts, List.foldl]
      go_simp
      exact hK _ _ ⟨rfl, rfl, hg, Below.refl _ _⟩
    case ns15 =>
      intro u wx hg hC
      have hJ7 : u 7 = (.bool false) := hC.at 7 (by kernel_rfl)
      clear hC
      generalize hA : puts [(0, 13), (1, 14), (2, 15), (3, 16), (4, 17), (5, 18), (6, 19), (7, 20), (8, 21), (9, 22), (10, 23), (11, 24), (12, 25), (13, 26), (14, 27), (15, 28), (16, 29), (17, 30), (18, 31), (19, 32)] _ u = A
      have hgv : A.tmps.getD 20 undef = .bool false := by rw [← hA]; exact (puts_get u 7 20 _ _ (by decide) (by decide) (by kernel_rfl)).trans hJ7
      have hgs : 20 < A.tmps.size := by rw [← hA]; exact puts_room u (by kernel_rfl)
      refine wpOp_guard rfl 7 20 false rfl rfl hgs hgv (fun K hK => ?_)
      subst hA
      simp only [puts, List.foldl]
      go_simp
      exact hK _ _ ⟨rfl, rfl, hg, Below.refl _ _⟩
    case ns16 =>
      intro u wx hg hC
      have hJ7 : u 7 = (.bool false) := hC.at 7 (by kernel_rfl)
      have hJ15 : u 15 = (.pointer (some ⟨w.heap.size, 2, none⟩)) := hC.at 15 (by kernel_rfl)
      clear hC
      have hcl : wx.cell? ⟨w.heap.size, 2, none⟩ = some (.int .i64 s) := (hg.cell (p := ⟨w.heap.size, 2, none⟩) LG.out).trans C2.out
      generalize hA : puts [(0, 13), (1, 14), (2, 15), (3, 16), (4, 17), (5, 18), (6, 19), (7, 20), (8, 21), (9, 22), (10, 23), (11, 24), (12, 25), (13, 26), (14, 27), (15, 28), (16, 29), (17, 30), (18, 31), (19, 32)] _ u = A
      have hgv : A.tmps.getD 20 undef = .bool false := by rw [← hA]; exact (puts_get u 7 20 _ _ (by decide) (by decide) (by kernel_rfl)).trans hJ7
      have hgs : 20 < A.tmps.size := by rw [← hA]; exact puts_room u (by kernel_rfl)
      refine wpOp_guard rfl 7 20 false rfl rfl hgs hgv (fun K hK => ?_)
      subst hA
      simp only [puts, List.foldl]
      go_simp
      exact hK _ _ ⟨rfl, rfl, hg, Below.refl _ _⟩
    case ns17 =>
      intro u wx hg hC
      have hJ7 : u 7 = (.bool false) := hC.at 7 (by kernel_rfl)
      have hJ14 : u 14 = (.int .i64 (2 * sl + sl)) := hC.at 14 (by kernel_rfl)
      have hJ16 : u 16 = (.int .i64 s) := hC.at 16 (by kernel_rfl)
      clear hC
      have hw : IntKind.i64.wrap (2 * sl + sl - s) = 2 * sl + sl - s := W3.out
      generalize hA : puts [(0, 13), (1, 14), (2, 15), (3, 16), (4, 17), (5, 18), (6, 19), (7, 20), (8, 21), (9, 22), (10, 23), (11, 24), (12, 25), (13, 26), (14, 27), (15, 28), (16, 29), (17, 30), (18, 31), (19, 32)] _ u = A
      have hgv : A.tmps.getD 20 undef = .bool false := by rw [← hA]; exact (puts_get u 7 20 _ _ (by decide) (by decide) (by kernel_rfl)).trans hJ7
      have hgs : 20 < A.tmps.size := by rw [← hA]; exact puts_room u (by kernel_rfl)
      refine wpOp_guard rfl 7 20 false rfl rfl hgs hgv (fun K hK => ?_)
      subst hA
      simp only [puts, List.foldl]
      go_simp
      exact hK _ _ ⟨rfl, rfl, hg, Below.refl _ _⟩
    case ns18 =>
      intro u wx hg hC
      have hJ7 : u 7 = (.bool false) := hC.at 7 (by kernel_rfl)
      have hJ8 : u 8 = (.int .i64 f) := hC.at 8 (by kernel_rfl)
      have hJ17 : u 17 = (.int .i64 (2 * sl + sl - s)) := hC.at 17 (by kernel_rfl)
      clear hC
      have hf := HM.out
      generalize hA : puts [(0, 13), (1, 14), (2, 15), (3, 16), (4, 17), (5, 18), (6, 19), (7, 20), (8, 21), (9, 22), (10, 23), (11, 24), (12, 25), (13, 26), (14, 27), (15, 28), (16, 29), (17, 30), (18, 31), (19, 32)] _ u = A
      have hgv : A.tmps.getD 20 undef = .bool false := by rw [← hA]; exact (puts_get u 7 20 _ _ (by decide) (by decide) (by kernel_rfl)).trans hJ7
      have hgs : 20 < A.tmps.size := by rw [← hA]; exact puts_room u (by kernel_rfl)
      refine wpOp_guard rfl 7 20 false rfl rfl hgs hgv (fun K hK => ?_)
      subst hA
      simp only [puts, List.foldl]
      go_simp
      exact hK _ _ ⟨rfl, rfl, hg, Below.refl _ _⟩
    case ns19 =>
      intro u wx hg hC
      have hJ7 : u 7 = (.bool false) := hC.at 7 (by kernel_rfl)
      have hJ18 : u 18 = (.bool true) := hC.at 18 (by kernel_rfl)
      clear hC
      refine wpOp_step rfl (fun K hK => ?_)
      simp only [puts, List.foldl]
      go_simp
      exact hK _ _ ⟨rfl, rfl, hg, Below.refl _ _⟩
  case finn =>
    intro u wq hbq hφ
    have e6 : u 19 = .bool true := hφ (19, 32) (by decide)
    clear hφ
    simp only [puts, List.foldl]
    go_simp
    have BQ := Lib.hid (B2.out.next hbq)
    have RQ := Lib.hid (R2.out.step hbq)
    clear hbq e6
    go_wp2
    go_ret
    exact ⟨rfl, BQ.out⟩
set_option maxHeartbeats 4000000 in
theorem geoSpread_D (d p s f : Int) (w : World) (S : Nat) (W : Nat) (D : Dim ⟨d, p, s⟩ W S) (hf : ¬ f < 0) (hm : ¬ 2 * slot ⟨d, p, s⟩ + slot ⟨d, p, s⟩ - s < f) :
    Calls Try.prog 5 #[.agg #[.int .i64 d, .int .i64 p, .int .i64 s], .int .i64 f] w fun e w' => e = .returned (.bool true) ∧ Below w.heap.size w w' := by
  have HAW := Lib.hid geoAwake_any
  have hr := (right_iff ⟨d, p, s⟩).2 D.r
  have HRR : Hid (∀ w1, Calls Try.prog 12 #[.agg #[.int .i64 d, .int .i64 p, .int .i64 s]] w1 fun e w' => e = .returned (.bool true) ∧ Below w1.heap.size w1 w') := Lib.hid fun w1 => (rright_any ⟨d, p, s⟩ w1).mono fun e w' h => by rw [hr] at h; exact h
  have HSL : Hid (∀ w1, Calls Try.prog 14 #[.agg #[.int .i64 d, .int .i64 p, .int .i64 s]] w1 fun e w' => e = .returned (.int .i64 (slot ⟨d, p, s⟩)) ∧ Below w1.heap.size w1 w') := Lib.hid fun w1 => slot_any ⟨d, p, s⟩ w1
  have HF := Lib.hid hf
  have HM := Lib.hid hm
  have hrt := (right_iff ⟨d, p, s⟩).1 hr
  have hsl := slot_le ⟨d, p, s⟩
  have hs1 : 1 ≤ s := hrt.s1
  have hs8 : s ≤ 8 := hrt.s8
  have HFB : Hid (0 ≤ f ∧ f ≤ 400) := Lib.hid ⟨by omega, by omega⟩
  have HS : Hid (s = (S : Int)) := Lib.hid D.s
  have HSB : Hid (1 ≤ s ∧ s ≤ 8) := Lib.hid ⟨hs1, hs8⟩
  have HS8 : Hid (S ≤ 8) := Lib.hid (by have h : s = (S : Int) := D.s; omega)
  have hm3 : f ≤ 3 * slot ⟨d, p, s⟩ - s := by omega
  have HKO := Lib.hid fun k (hk : k < S) => key_ok D (f := f) (by omega) hm3 hk
  have HKN : Hid (∀ k, k < S → keys ⟨d, p, s⟩ f k (key ⟨d, p, s⟩ f k) = false) := Lib.hid fun k hk => keys_new D (by omega) hm3 hk
  have HOF : Hid (∀ (n : Int) w1, Calls Try.prog 10 #[.agg #[.int .i64 d, .int .i64 p, .int .i64 s], .int .i64 n] w1 fun e w' => e = .returned (.tuple #[.int .i64 (ofA ⟨d, p, s⟩ n), .int .i64 (ofB ⟨d, p, s⟩ n), .int .i64 (ofC ⟨d, p, s⟩ n), .bool (ofK ⟨d, p, s⟩ n)]) ∧ Below w1.heap.size w1 w') := Lib.hid fun n w1 => of_any ⟨d, p, s⟩ n w1
  clear hm3
  generalize slot ⟨d, p, s⟩ = sl at HSL HM hsl
  have W1 : Hid (IntKind.i64.wrap (2 * sl) = 2 * sl) := Lib.hid (by rw [IntKind.wrap_i64]; omega)
  have W2 : Hid (IntKind.i64.wrap (2 * sl + sl) = 2 * sl + sl) := Lib.hid (by rw [IntKind.wrap_i64]; omega)
  have W3 : Hid (IntKind.i64.wrap (2 * sl + sl - s) = 2 * sl + sl - s) := Lib.hid (by rw [IntKind.wrap_i64]; omega)
  clear hsl hs1 hs8 hm hf hr hrt
  clear D
  go_enter Try.func5, Try.ntmps5
  go_wp2_with (first
    | ((with_reducible refine wpBoxK [Value.int .i64 d, .int .i64 p, .int .i64 s] 23 ?_ ?_); rfl; intro w1 r1 b1 s1; have R1 := Lib.hid r1; have B1 := Lib.hid b1; clear r1 b1 s1)
    | (go_at_call 6; (with_reducible refine (HAW.out w1).mono ?_); rintro e w2 ⟨rfl, b2⟩; have R2 := Lib.hid (R1.out.step b2); have B2 := Lib.hid (B1.out.next b2); clear b2))
  have LG : Hid (w.heap.size < w2.heap.size) := Lib.hid R2.out.lt
  have C0 : Hid (w2.cell? ⟨w.heap.size, 0, none⟩ = some (.int .i64 d)) := Lib.hid (R2.out.cell 0)
  have C1 : Hid (w2.cell? ⟨w.heap.size, 1, none⟩ = some (.int .i64 p)) := Lib.hid (R2.out.cell 1)
  have C2 : Hid (w2.cell? ⟨w.heap.size, 2, none⟩ = some (.int .i64 s)) := Lib.hid (R2.out.cell 2)
  refine region_invX [(0, 13), (1, 14), (2, 15), (3, 16), (4, 17), (5, 18), (6, 19), (7, 20), (8, 21), (9, 22), (10, 23), (11, 24), (12, 25), (13, 26), (14, 27), (15, 28), (16, 29), (17, 30), (18, 31), (19, 32)]
    (fun ii => [Is (.agg #[(.int .i64 d), (.int .i64 p), (.int .i64 s)]), Is (.bool true), Is (.bool false), Is (.bool false), Is (.int .i64 f), Is (.bool false), Is (.bool false), Is (.bool false), Is (.int .i64 f), Is (.agg #[(.int .i64 d), (.int .i64 p), (.int .i64 s)]), Is (.int .i64 sl), Is (.int .i64 (2 * sl)), Is (.agg #[(.int .i64 d), (.int .i64 p), (.int .i64 s)]), Is (.int .i64 sl), Is (.int .i64 (2 * sl + sl)), Is (.pointer (some ⟨w.heap.size, 2, none⟩)), Is (.int .i64 s), Is (.int .i64 (2 * sl + sl - s)), Is (.bool false), Is (.bool false)].getD ii (Is undef))
    (fun w' => Below w2.heap.size w2 w') (by kernel_rfl) (by kernel_rfl) (by decide) (by decide) (by kernel_rfl) rfl ?monon ((Below.refl _ _).drew) ?stepn ?finn
  case monon =>
    intro i
    match i with
    | 0 | 1 | 2 | 3 | 4 | 5 | 6 | 7 | 8 | 9 | 10 | 11 | 12 | 13 | 14 | 15 | 16 | 17 | 18 | 19 => exact Is.monot _
    | _ + 20 => exact Is.monot _
  case stepn =>
    refine List.forall_mem_cons.2 ⟨?ns0, List.forall_mem_cons.2 ⟨?ns1, List.forall_mem_cons.2 ⟨?ns2, List.forall_mem_cons.2 ⟨?ns3, List.forall_mem_cons.2 ⟨?ns4, List.forall_mem_cons.2 ⟨?ns5, List.forall_mem_cons.2 ⟨?ns6, List.forall_mem_cons.2 ⟨?ns7, List.forall_mem_cons.2 ⟨?ns8, List.forall_mem_cons.2 ⟨?ns9, List.forall_mem_cons.2 ⟨?ns10, List.forall_mem_cons.2 ⟨?ns11, List.forall_mem_cons.2 ⟨?ns12, List.forall_mem_cons.2 ⟨?ns13, List.forall_mem_cons.2 ⟨?ns14, List.forall_mem_cons.2 ⟨?ns15, List.forall_mem_cons.2 ⟨?ns16, List.forall_mem_cons.2 ⟨?ns17, List.forall_mem_cons.2 ⟨?ns18, List.forall_mem_cons.2 ⟨?ns19, List.forall_mem_nil _⟩⟩⟩⟩⟩⟩⟩⟩⟩⟩⟩⟩⟩⟩⟩⟩⟩⟩⟩⟩
    case ns0 =>
      intro u wx hg hC
      clear hC
      have hcl0 : wx.cell? ⟨w.heap.size, 0, none⟩ = some (.int .i64 d) := (hg.cell (p := ⟨w.heap.size, 0, none⟩) LG.out).trans C0.out
      have hcl1 : wx.cell? ⟨w.heap.size, 1, none⟩ = some (.int .i64 p) := (hg.cell (p := ⟨w.heap.size, 1, none⟩) LG.out).trans C1.out
      have hcl2 : wx.cell? ⟨w.heap.size, 2, none⟩ = some (.int .i64 s) := (hg.cell (p := ⟨w.heap.size, 2, none⟩) LG.out).trans C2.out
      refine wpOp_step rfl (fun K hK => ?_)
      simp only [puts, List.foldl]
      go_simp
      exact hK _ _ ⟨rfl, rfl, hg, Below.refl _ _⟩
    case ns1 =>
      intro u wx hg hC
      have hJ0 : u 0 = (.agg #[(.int .i64 d), (.int .i64 p), (.int .i64 s)]) := hC.at 0 (by kernel_rfl)
      clear hC
      refine wpOp_step rfl (fun K hK => ?_)
      simp only [puts, List.foldl]
      go_simp
      refine (HRR.out wx).mono ?_
      rintro e w' ⟨rfl, hb'⟩
      exact hK _ _ ⟨rfl, rfl, hg.next hb', hb'⟩
    case ns2 =>
      intro u wx hg hC
      have hJ1 : u 1 = (.bool true) := hC.at 1 (by kernel_rfl)
      clear hC
      refine wpOp_step rfl (fun K hK => ?_)
      simp only [puts, List.foldl]
      go_simp
      exact hK _ _ ⟨rfl, rfl, hg, Below.refl _ _⟩
    case ns3 =>
      intro u wx hg hC
      have hJ2 : u 2 = (.bool false) := hC.at 2 (by kernel_rfl)
      clear hC
      refine wpOp_step rfl (fun K hK => ?_)
      simp only [puts, List.foldl]
      go_simp
      exact hK _ _ ⟨rfl, rfl, hg, Below.refl _ _⟩
    case ns4 =>
      intro u wx hg hC
      have hJ3 : u 3 = (.bool false) := hC.at 3 (by kernel_rfl)
      clear hC
      generalize hA : puts [(0, 13), (1, 14), (2, 15), (3, 16), (4, 17), (5, 18), (6, 19), (7, 20), (8, 21), (9, 22), (10, 23), (11, 24), (12, 25), (13, 26), (14, 27), (15, 28), (16, 29), (17, 30), (18, 31), (19, 32)] _ u = A
      have hgv : A.tmps.getD 16 undef = .bool false := by rw [← hA]; exact (puts_get u 3 16 _ _ (by decide) (by decide) (by kernel_rfl)).trans hJ3
      have hgs : 16 < A.tmps.size := by rw [← hA]; exact puts_room u (by kernel_rfl)
      refine wpOp_guard rfl 3 16 false rfl rfl hgs hgv (fun K hK => ?_)
      subst hA
      simp only [puts, List.foldl]
      go_simp
      exact hK _ _ ⟨rfl, rfl, hg, Below.refl _ _⟩
    case ns5 =>
      intro u wx hg hC
      have hJ3 : u 3 = (.bool false) := hC.at 3 (by kernel_rfl)
      have hJ4 : u 4 = (.int .i64 f) := hC.at 4 (by kernel_rfl)
      clear hC
      have hf := HF.out
      have hf2 : decide (f < 0) = false := decide_eq_false (by have := HF.out; omega)
      generalize hA : puts [(0, 13), (1, 14), (2, 15), (3, 16), (4, 17), (5, 18), (6, 19), (7, 20), (8, 21), (9, 22), (10, 23), (11, 24), (12, 25), (13, 26), (14, 27), (15, 28), (16, 29), (17, 30), (18, 31), (19, 32)] _ u = A
      have hgv : A.tmps.getD 16 undef = .bool false := by rw [← hA]; exact (puts_get u 3 16 _ _ (by decide) (by decide) (by kernel_rfl)).trans hJ3
      have hgs : 16 < A.tmps.size := by rw [← hA]; exact puts_room u (by kernel_rfl)
      refine wpOp_guard rfl 3 16 false rfl rfl hgs hgv (fun K hK => ?_)
      subst hA
      simp only [puts, List.foldl]
      go_simp
      exact hK _ _ ⟨rfl, rfl, hg, Below.refl _ _⟩
    case ns6 =>
      intro u wx hg hC
      have hJ3 : u 3 = (.bool false) := hC.at 3 (by kernel_rfl)
      have hJ5 : u 5 = (.bool false) := hC.at 5 (by kernel_rfl)
      clear hC
      refine wpOp_step rfl (fun K hK => ?_)
      simp only [puts, List.foldl]
      go_simp
      exact hK _ _ ⟨rfl, rfl, hg, Below.refl _ _⟩
    case ns7 =>
      intro u wx hg hC
      have hJ6 : u 6 = (.bool false) := hC.at 6 (by kernel_rfl)
      clear hC
      refine wpOp_step rfl (fun K hK => ?_)
      simp only [puts, List.foldl]
      go_simp
      exact hK _ _ ⟨rfl, rfl, hg, Below.refl _ _⟩
    case ns8 =>
      intro u wx hg hC
      have hJ7 : u 7 = (.bool false) := hC.at 7 (by kernel_rfl)
      clear hC
      generalize hA : puts [(0, 13), (1, 14), (2, 15), (3, 16), (4, 17), (5, 18), (6, 19), (7, 20), (8, 21), (9, 22), (10, 23), (11, 24), (12, 25), (13, 26), (14, 27), (15, 28), (16, 29), (17, 30), (18, 31), (19, 32)] _ u = A
      have hgv : A.tmps.getD 20 undef = .bool false := by rw [← hA]; exact (puts_get u 7 20 _ _ (by decide) (by decide) (by kernel_rfl)).trans hJ7
      have hgs : 20 < A.tmps.size := by rw [← hA]; exact puts_room u (by kernel_rfl)
      refine wpOp_guard rfl 7 20 false rfl rfl hgs hgv (fun K hK => ?_)
      subst hA
      simp only [puts, List.foldl]
      go_simp
      exact hK _ _ ⟨rfl, rfl, hg, Below.refl _ _⟩
    case ns9 =>
      intro u wx hg hC
      have hJ7 : u 7 = (.bool false) := hC.at 7 (by kernel_rfl)
      clear hC
      have hcl0 : wx.cell? ⟨w.heap.size, 0, none⟩ = some (.int .i64 d) := (hg.cell (p := ⟨w.heap.size, 0, none⟩) LG.out).trans C0.out
      have hcl1 : wx.cell? ⟨w.heap.size, 1, none⟩ = some (.int .i64 p) := (hg.cell (p := ⟨w.heap.size, 1, none⟩) LG.out).trans C1.out
      have hcl2 : wx.cell? ⟨w.heap.size, 2, none⟩ = some (.int .i64 s) := (hg.cell (p := ⟨w.heap.size, 2, none⟩) LG.out).trans C2.out
      generalize hA : puts [(0, 13), (1, 14), (2, 15), (3, 16), (4, 17), (5, 18), (6, 19), (7, 20), (8, 21), (9, 22), (10, 23), (11, 24), (12, 25), (13, 26), (14, 27), (15, 28), (16, 29), (17, 30), (18, 31), (19, 32)] _ u = A
      have hgv : A.tmps.getD 20 undef = .bool false := by rw [← hA]; exact (puts_get u 7 20 _ _ (by decide) (by decide) (by kernel_rfl)).trans hJ7
      have hgs : 20 < A.tmps.size := by rw [← hA]; exact puts_room u (by kernel_rfl)
      refine wpOp_guard rfl 7 20 false rfl rfl hgs hgv (fun K hK => ?_)
      subst hA
      simp only [puts, List.foldl]
      go_simp
      exact hK _ _ ⟨rfl, rfl, hg, Below.refl _ _⟩
    case ns10 =>
      intro u wx hg hC
      have hJ7 : u 7 = (.bool false) := hC.at 7 (by kernel_rfl)
      have hJ9 : u 9 = (.agg #[(.int .i64 d), (.int .i64 p), (.int .i64 s)]) := hC.at 9 (by kernel_rfl)
      clear hC
      generalize hA : puts [(0, 13), (1, 14), (2, 15), (3, 16), (4, 17), (5, 18), (6, 19), (7, 20), (8, 21), (9, 22), (10, 23), (11, 24), (12, 25), (13, 26), (14, 27), (15, 28), (16, 29), (17, 30), (18, 31), (19, 32)] _ u = A
      have hgv : A.tmps.getD 20 undef = .bool false := by rw [← hA]; exact (puts_get u 7 20 _ _ (by decide) (by decide) (by kernel_rfl)).trans hJ7
      have hgs : 20 < A.tmps.size := by rw [← hA]; exact puts_room u (by kernel_rfl)
      refine wpOp_guard rfl 7 20 false rfl rfl hgs hgv (fun K hK => ?_)
      subst hA
      simp only [puts, List.foldl]
      go_simp
      refine (HSL.out wx).mono ?_
      rintro e w' ⟨rfl, hb'⟩
      exact hK _ _ ⟨rfl, rfl, hg.next hb', hb'⟩
    case ns11 =>
      intro u wx hg hC
      have hJ7 : u 7 = (.bool false) := hC.at 7 (by kernel_rfl)
      have hJ10 : u 10 = (.int .i64 sl) := hC.at 10 (by kernel_rfl)
      clear hC
      have hw : IntKind.i64.wrap (2 * sl) = 2 * sl := W1.out
      generalize hA : puts [(0, 13), (1, 14), (2, 15), (3, 16), (4, 17), (5, 18), (6, 19), (7, 20), (8, 21), (9, 22), (10, 23), (11, 24), (12, 25), (13, 26), (14, 27), (15, 28), (16, 29), (17, 30), (18, 31), (19, 32)] _ u = A
      have hgv : A.tmps.getD 20 undef = .bool false := by rw [← hA]; exact (puts_get u 7 20 _ _ (by decide) (by decide) (by kernel_rfl)).trans hJ7
      have hgs : 20 < A.tmps.size := by rw [← hA]; exact puts_room u (by kernel_rfl)
      refine wpOp_guard rfl 7 20 false rfl rfl hgs hgv (fun K hK => ?_)
      subst hA
      simp only [puts, List.foldl]
      go_simp
      exact hK _ _ ⟨rfl, rfl, hg, Below.refl _ _⟩
    case ns12 =>
      intro u wx hg hC
      have hJ7 : u 7 = (.bool false) := hC.at 7 (by kernel_rfl)
      clear hC
      have hcl0 : wx.cell? ⟨w.heap.size, 0, none⟩ = some (.int .i64 d) := (hg.cell (p := ⟨w.heap.size, 0, none⟩) LG.out).trans C0.out
      have hcl1 : wx.cell? ⟨w.heap.size, 1, none⟩ = some (.int .i64 p) := (hg.cell (p := ⟨w.heap.size, 1, none⟩) LG.out).trans C1.out
      have hcl2 : wx.cell? ⟨w.heap.size, 2, none⟩ = some (.int .i64 s) := (hg.cell (p := ⟨w.heap.size, 2, none⟩) LG.out).trans C2.out
      generalize hA : puts [(0, 13), (1, 14), (2, 15), (3, 16), (4, 17), (5, 18), (6, 19), (7, 20), (8, 21), (9, 22), (10, 23), (11, 24), (12, 25), (13, 26), (14, 27), (15, 28), (16, 29), (17, 30), (18, 31), (19, 32)] _ u = A
      have hgv : A.tmps.getD 20 undef = .bool false := by rw [← hA]; exact (puts_get u 7 20 _ _ (by decide) (by decide) (by kernel_rfl)).trans hJ7
      have hgs : 20 < A.tmps.size := by rw [← hA]; exact puts_room u (by kernel_rfl)
      refine wpOp_guard rfl 7 20 false rfl rfl hgs hgv (fun K hK => ?_)
      subst hA
      simp only [puts, List.foldl]
      go_simp
      exact hK _ _ ⟨rfl, rfl, hg, Below.refl _ _⟩
    case ns13 =>
      intro u wx hg hC
      have hJ7 : u 7 = (.bool false) := hC.at 7 (by kernel_rfl)
      have hJ12 : u 12 = (.agg #[(.int .i64 d), (.int .i64 p), (.int .i64 s)]) := hC.at 12 (by kernel_rfl)
      clear hC
      generalize hA : puts [(0, 13), (1, 14), (2, 15), (3, 16), (4, 17), (5, 18), (6, 19), (7, 20), (8, 21), (9, 22), (10, 23), (11, 24), (12, 25), (13, 26), (14, 27), (15, 28), (16, 29), (17, 30), (18, 31), (19, 32)] _ u = A
      have hgv : A.tmps.getD 20 undef = .bool false := by rw [← hA]; exact (puts_get u 7 20 _ _ (by decide) (by decide) (by kernel_rfl)).trans hJ7
      have hgs : 20 < A.tmps.size := by rw [← hA]; exact puts_room u (by kernel_rfl)
      refine wpOp_guard rfl 7 20 false rfl rfl hgs hgv (fun K hK => ?_)
      subst hA
      simp only [puts, List.foldl]
      go_simp
      refine (HSL.out wx).mono ?_
      rintro e w' ⟨rfl, hb'⟩
      exact hK _ _ ⟨rfl, rfl, hg.next hb', hb'⟩
    case ns14 =>
      intro u wx hg hC
      have hJ7 : u 7 = (.bool false) := hC.at 7 (by kernel_rfl)
      have hJ11 : u 11 = (.int .i64 (2 * sl)) := hC.at 11 (by kernel_rfl)
      have hJ13 : u 13 = (.int .i64 sl) := hC.at 13 (by kernel_rfl)
      clear hC
      have hw : IntKind.i64.wrap (2 * sl + sl) = 2 * sl + sl := W2.out
      generalize hA : puts [(0, 13), (1, 14), (2, 15), (3, 16), (4, 17), (5, 18), (6, 19), (7, 20), (8, 21), (9, 22), (10, 23), (11, 24), (12, 25), (13, 26), (14, 27), (15, 28), (16, 29), (17, 30), (18, 31), (19, 32)] _ u = A
      have hgv : A.tmps.getD 20 undef = .bool false := by rw [← hA]; exact (puts_get u 7 20 _ _ (by decide) (by decide) (by kernel_rfl)).trans hJ7
      have hgs : 20 < A.tmps.size := by rw [← hA]; exact puts_room u (by kernel_rfl)
      refine wpOp_guard rfl 7 20 false rfl rfl hgs hgv (fun K hK => ?_)
      subst hA
      simp only [puts, List.foldl]
      go_simp
      exact hK _ _ ⟨rfl, rfl, hg, Below.refl _ _⟩
    case ns15 =>
      intro u wx hg hC
      have hJ7 : u 7 = (.bool false) := hC.at 7 (by kernel_rfl)
      clear hC
      generalize hA : puts [(0, 13), (1, 14), (2, 15), (3, 16), (4, 17), (5, 18), (6, 19), (7, 20), (8, 21), (9, 22), (10, 23), (11, 24), (12, 25), (13, 26), (14, 27), (15, 28), (16, 29), (17, 30), (18, 31), (19, 32)] _ u = A
      have hgv : A.tmps.getD 20 undef = .bool false := by rw [← hA]; exact (puts_get u 7 20 _ _ (by decide) (by decide) (by kernel_rfl)).trans hJ7
      have hgs : 20 < A.tmps.size := by rw [← hA]; exact puts_room u (by kernel_rfl)
      refine wpOp_guard rfl 7 20 false rfl rfl hgs hgv (fun K hK => ?_)
      subst hA
      simp only [puts, List.foldl]
      go_simp
      exact hK _ _ ⟨rfl, rfl, hg, Below.refl _ _⟩
    case ns16 =>
      intro u wx hg hC
      have hJ7 : u 7 = (.bool false) := hC.at 7 (by kernel_rfl)
      have hJ15 : u 15 = (.pointer (some ⟨w.heap.size, 2, none⟩)) := hC.at 15 (by kernel_rfl)
      clear hC
      have hcl : wx.cell? ⟨w.heap.size, 2, none⟩ = some (.int .i64 s) := (hg.cell (p := ⟨w.heap.size, 2, none⟩) LG.out).trans C2.out
      generalize hA : puts [(0, 13), (1, 14), (2, 15), (3, 16), (4, 17), (5, 18), (6, 19), (7, 20), (8, 21), (9, 22), (10, 23), (11, 24), (12, 25), (13, 26), (14, 27), (15, 28), (16, 29), (17, 30), (18, 31), (19, 32)] _ u = A
      have hgv : A.tmps.getD 20 undef = .bool false := by rw [← hA]; exact (puts_get u 7 20 _ _ (by decide) (by decide) (by kernel_rfl)).trans hJ7
      have hgs : 20 < A.tmps.size := by rw [← hA]; exact puts_room u (by kernel_rfl)
      refine wpOp_guard rfl 7 20 false rfl rfl hgs hgv (fun K hK => ?_)
      subst hA
      simp only [puts, List.foldl]
      go_simp
      exact hK _ _ ⟨rfl, rfl, hg, Below.refl _ _⟩
    case ns17 =>
      intro u wx hg hC
      have hJ7 : u 7 = (.bool false) := hC.at 7 (by kernel_rfl)
      have hJ14 : u 14 = (.int .i64 (2 * sl + sl)) := hC.at 14 (by kernel_rfl)
      have hJ16 : u 16 = (.int .i64 s) := hC.at 16 (by kernel_rfl)
      clear hC
      have hw : IntKind.i64.wrap (2 * sl + sl - s) = 2 * sl + sl - s := W3.out
      generalize hA : puts [(0, 13), (1, 14), (2, 15), (3, 16), (4, 17), (5, 18), (6, 19), (7, 20), (8, 21), (9, 22), (10, 23), (11, 24), (12, 25), (13, 26), (14, 27), (15, 28), (16, 29), (17, 30), (18, 31), (19, 32)] _ u = A
      have hgv : A.tmps.getD 20 undef = .bool false := by rw [← hA]; exact (puts_get u 7 20 _ _ (by decide) (by decide) (by kernel_rfl)).trans hJ7
      have hgs : 20 < A.tmps.size := by rw [← hA]; exact puts_room u (by kernel_rfl)
      refine wpOp_guard rfl 7 20 false rfl rfl hgs hgv (fun K hK => ?_)
      subst hA
      simp only [puts, List.foldl]
      go_simp
      exact hK _ _ ⟨rfl, rfl, hg, Below.refl _ _⟩
    case ns18 =>
      intro u wx hg hC
      have hJ7 : u 7 = (.bool false) := hC.at 7 (by kernel_rfl)
      have hJ8 : u 8 = (.int .i64 f) := hC.at 8 (by kernel_rfl)
      have hJ17 : u 17 = (.int .i64 (2 * sl + sl - s)) := hC.at 17 (by kernel_rfl)
      clear hC
      have hf := HM.out
      have hf2 : decide (2 * sl + sl - s < f) = false := decide_eq_false (by have := HM.out; omega)
      generalize hA : puts [(0, 13), (1, 14), (2, 15), (3, 16), (4, 17), (5, 18), (6, 19), (7, 20), (8, 21), (9, 22), (10, 23), (11, 24), (12, 25), (13, 26), (14, 27), (15, 28), (16, 29), (17, 30), (18, 31), (19, 32)] _ u = A
      have hgv : A.tmps.getD 20 undef = .bool false := by rw [← hA]; exact (puts_get u 7 20 _ _ (by decide) (by decide) (by kernel_rfl)).trans hJ7
      have hgs : 20 < A.tmps.size := by rw [← hA]; exact puts_room u (by kernel_rfl)
      refine wpOp_guard rfl 7 20 false rfl rfl hgs hgv (fun K hK => ?_)
      subst hA
      simp only [puts, List.foldl]
      go_simp
      exact hK _ _ ⟨rfl, rfl, hg, Below.refl _ _⟩
    case ns19 =>
      intro u wx hg hC
      have hJ7 : u 7 = (.bool false) := hC.at 7 (by kernel_rfl)
      have hJ18 : u 18 = (.bool false) := hC.at 18 (by kernel_rfl)
      clear hC
      refine wpOp_step rfl (fun K hK => ?_)
      simp only [puts, List.foldl]
      go_simp
      exact hK _ _ ⟨rfl, rfl, hg, Below.refl _ _⟩
  case finn =>
    intro u wq hbq hφ
    have e6 : u 19 = .bool false := hφ (19, 32) (by decide)
    clear hφ
    simp only [puts, List.foldl]
    go_simp
    have BQ := Lib.hid (B2.out.next hbq)
    have RQ := Lib.hid (R2.out.step hbq)
    clear hbq e6
    have HSE0 : Hid (SeenG KP (wq.alloc (.map #[] 0)) wq.heap.size 0 (keys ⟨d, p, s⟩ f 0)) := Lib.hid (SeenG.made wq)
    have HB0 : Hid (Below wq.heap.size wq (wq.alloc (.map #[] 0))) := Lib.hid (alloc_below _ _)
    have hmm := @run_makeMap Try.prog
    go_wp2
    clear hmm
    go_loopw [6] (fun i wr => ∃ k : Nat, k ≤ S ∧ i = .int .i64 (f + k) ∧ SeenG KP wr wq.heap.size k (keys ⟨d, p, s⟩ f k) ∧ Below wq.heap.size wq wr) (fun i _ => (f + S - intOf i).toNat)
    case atStart => exact ⟨0, Nat.zero_le _, by go_num, HSE0.out, HB0.out⟩
    case round =>
      clear HSE0 HB0
      obtain ⟨k, hk, rfl, hse, hbw⟩ := hrel
      have RW := Lib.hid (RQ.out.step hbw)
      have c2 := RW.out.cell 2
      have HSE := Lib.hid hse
      have HW := Lib.hid hbw
      clear hse hbw
      have hf1 := HFB.out.1
      have hf2 := HFB.out.2
      have hsb1 : 1 ≤ s := HSB.out.1
      have hsb2 : s ≤ 8 := HSB.out.2
      by_cases hlt : k < S
      · have e1 : f + (k : Int) < f + s := by have := HS.out; omega
        obtain ⟨x, y, hxy⟩ : ∃ x y, (ofA ⟨d, p, s⟩ (f + k), ofB ⟨d, p, s⟩ (f + k)) = (x, y) := ⟨_, _, rfl⟩
        have HKEY : Hid (key ⟨d, p, s⟩ f k = (x, y)) := Lib.hid hxy
        obtain ⟨hx, hy⟩ := Prod.mk.inj hxy
        have HOF1 := Lib.hid fun w1 => HOF.out (f + k) w1
        have hko := HKO.out k hlt
        rw [hx, hy] at hko
        rw [hx, hy, hko.1] at HOF1
        have HOK : Hid (KP.ok (x, y)) := Lib.hid ⟨⟨by have := hko.2; show -9223372036854775808 ≤ x; omega, by have := hko.2; show x < 9223372036854775808; omega⟩, by have := hko.2; show -9223372036854775808 ≤ y; omega, by have := hko.2; show y < 9223372036854775808; omega⟩
        have HNEW : Hid (keys ⟨d, p, s⟩ f k (x, y) = false) := Lib.hid (by rw [← HKEY.out]; exact HKN.out k hlt)
        have HK1 : Hid (k < 100000) := Lib.hid (by have := HS8.out; omega)
        have HST : Hid (∀ z, keys ⟨d, p, s⟩ f (k + 1) z = (keys ⟨d, p, s⟩ f k z || decide (z = (x, y)))) := Lib.hid fun z => by rw [keys_succ, HKEY.out]
        clear hxy hx hy hko
        go_wp2_with (first
          | ((with_reducible refine RW.out.wpLoadK 23 fits_geo rfl ?_ ?_); rfl)
          | (go_at_call 10; (with_reducible refine (HOF1.out wr).mono ?_); rintro e w9 ⟨rfl, b9⟩; have S9 := Lib.hid (HSE.out.below b9); have hlook : (Instr.lookup 50 (.map (some wq.heap.size)) (.agg #[.int .i64 x, .int .i64 y]) false).run Try.prog w9 = .ok (.bool false) w9 := (by have h := S9.out.look HOK.out; rw [HNEW.out] at h; exact h); have B9 := Lib.hid (HW.out.next b9); clear b9)
          | (at_mapUpdate; refine S9.out.wpPut HOK.out HNEW.out HK1.out rfl _ _ _ rfl rfl rfl rfl ?_; intro w10 s10 g10; have S10 := Lib.hid s10; have B10 := Lib.hid (B9.out.grown g10 B9.out.size (fun j hj => by cases hj; exact Nat.le_refl _)); clear s10 g10))
        go_roundw
        case rel => exact ⟨k + 1, by omega, by go_num, S10.out.congr rfl fun z _ => (HST.out z).symm, B10.out⟩
        case measure => simp [intOf]; omega
      · have e1 : ¬ f + (k : Int) < f + s := by have := HS.out; omega
        have e2 : decide (f + (k : Int) < f + s) = false := decide_eq_false e1
        go_wp2
        go_ret
        exact ⟨rfl, BQ.out.trans (HW.out.mono BQ.out.size)⟩
theorem geoSpread_walk (d p s f : Int) (w : World) :
    Calls Try.prog 5 #[.agg #[.int .i64 d, .int .i64 p, .int .i64 s], .int .i64 f] w fun e w' => e = .returned (.bool true) ∧ Below w.heap.size w w' := by
  cases hr : right ⟨d, p, s⟩ with
  | false => exact geoSpread_A d p s f w hr
  | true =>
    by_cases hf : f < 0
    · exact geoSpread_B d p s f w hr hf
    · by_cases hm : 2 * slot ⟨d, p, s⟩ + slot ⟨d, p, s⟩ - s < f
      · exact geoSpread_C d p s f w hr hf hm
      · have h := (right_iff ⟨d, p, s⟩).1 hr
        exact geoSpread_D d p s f w s.toNat (d + p).toNat ⟨h, by have := h.d1; have := h.p2; dsimp only at *; omega, by have := h.s1; dsimp only at *; omega⟩ hf hm
end Go.Proofs.Ytiakbdekleaaoaa
