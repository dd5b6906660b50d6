/- The lines of a map (gen_geo_t.py). -/
import Derived.Test.YtiakbdekleaaoaaDoorGeoS
import Derived.Test.YtiakbdekleaaoaaDoorGeoF
import Derived.Test.YtiakbdekleaaoaaDoorGeoMath5
namespace Go.Proofs.YtiakbdekleaaoaaDoor
open Go.RowKit GeoMath
set_option linter.unusedVariables false
set_option maxRecDepth 100000

set_option maxHeartbeats 2000000 in
theorem line_any (d p s : Int) (W S : Nat) (D : Dim ⟨d, p, s⟩ W S) (x y z : Nat) (w : World) (h1 : x < 3) (h2 : z < W) (h3 : y < S) :
    Calls Tryd.prog 13 #[.agg #[.int .i64 d, .int .i64 p, .int .i64 s], .int .i64 ((x * (W * S) + z * S + y : Nat) : Int)] w fun e w' => e = .returned (.string (slotT d x y z)) ∧ Below w.heap.size w w' := by
  have hr := D.r
  have hd1 : 1 ≤ d := hr.d1
  have hd8 : d ≤ 8 := hr.d8
  have hp6 : p ≤ 6 := hr.p6
  have hs8 : s ≤ 8 := hr.s8
  have hW : d + p = (W : Int) := D.w
  have hS : s = (S : Int) := D.s
  have HOF : Hid (∀ w1, Calls Tryd.prog 20 #[.agg #[.int .i64 d, .int .i64 p, .int .i64 s], .int .i64 ((x * (W * S) + z * S + y : Nat) : Int)] w1 fun e w' => e = .returned (.tuple #[.int .i64 (x : Int), .int .i64 (y : Int), .int .i64 (z : Int), .bool true]) ∧ Below w1.heap.size w1 w') := Lib.hid fun w1 => by
    have h := of_any ⟨d, p, s⟩ ((x * (W * S) + z * S + y : Nat) : Int) w1
    obtain ⟨x1, x2, x3, x4⟩ := of_at D h1 h2 h3
    rw [x1, x2, x3, x4] at h
    exact h
  generalize ((x * (W * S) + z * S + y : Nat) : Int) = k at HOF ⊢
  obtain ⟨a, ha⟩ : ∃ a : Int, (x : Int) = a := ⟨_, rfl⟩
  obtain ⟨b, hb⟩ : ∃ a : Int, (y : Int) = a := ⟨_, rfl⟩
  obtain ⟨c, hc⟩ : ∃ a : Int, (z : Int) = a := ⟨_, rfl⟩
  have HNA : Hid (∀ w1, Calls Tryd.prog 21 #[.int .i64 a] w1 fun e w' => e = .returned (.string (nm a)) ∧ Below w1.heap.size w1 w') := Lib.hid fun w1 => (name_any a w1 (by omega) (by omega)).mono fun e w' h => ⟨h.1, by rw [← h.2]; exact Below.refl _ _⟩
  have HIT : Hid (∀ w1, Calls Tryd.prog 22 #[.int .i64 b] w1 fun e w' => e = .returned (.string (dg b)) ∧ Below w1.heap.size w1 w') := Lib.hid fun w1 => (itoa_any b w1 (by omega) (by omega)).mono fun e w' h => ⟨h.1, by rw [← h.2]; exact Below.refl _ _⟩
  have HPA : Hid (∀ w1, Calls Tryd.prog 23 #[.agg #[.int .i64 d, .int .i64 p, .int .i64 s], .int .i64 c] w1 fun e w' => e = .returned (.string (partT d c)) ∧ Below w1.heap.size w1 w') := Lib.hid fun w1 => part_any d p s c w1 (by omega) (by omega) (by omega) (by omega)
  rw [ha, hb, hc] at HOF ⊢
  have HT : Hid (slotT d a b c = nm a ++ ⟨#[32]⟩ ++ dg b ++ partT d c) := Lib.hid rfl
  have hz1 := nm_size a
  have hz2 := dg_size b
  have hz3 := part_size d c
  generalize slotT d a b c = T at HT ⊢
  generalize nm a = NM at *
  generalize dg b = DB at *
  generalize partT d c = PT at *
  obtain ⟨T1, hT1⟩ : ∃ T1, NM ++ (⟨#[32]⟩ : ByteArray) = T1 := ⟨_, rfl⟩
  rw [hT1] at HT
  obtain ⟨T2, hT2⟩ : ∃ T2, T1 ++ DB = T2 := ⟨_, rfl⟩
  rw [hT2] at HT
  obtain ⟨T3, hT3⟩ : ∃ T3, T2 ++ PT = T3 := ⟨_, rfl⟩
  rw [hT3] at HT
  have z1 : T1.size = NM.size + 1 := by rw [← hT1, ByteArray.size_append]; rfl
  have z2 : T2.size = T1.size + DB.size := by rw [← hT2, ByteArray.size_append]
  have HZ : Hid (¬ 9223372036854775807 < NM.size + 1 ∧ ¬ 9223372036854775807 < T1.size + DB.size ∧ ¬ 9223372036854775807 < T2.size + PT.size) := Lib.hid ⟨by omega, by omega, by omega⟩
  have HT1 := Lib.hid hT1
  have HT2 := Lib.hid hT2
  have HT3 := Lib.hid hT3
  clear hT1 hT2 hT3 z1 z2 hz1 hz2 hz3 ha hb hc hS hW hr D h1 h2 h3
  go_enter Tryd.func13, Tryd.ntmps13
  go_wp2_with (first
    | ((with_reducible refine wpBoxK [Value.int .i64 d, .int .i64 p, .int .i64 s] 23 ?_ ?_); rfl; intro w1 r1 b1 s1; have R1 := Lib.hid r1; have B1 := Lib.hid b1; clear r1 b1 s1)
    | ((with_reducible refine R1.out.wpLoadK 23 fits_geo rfl ?_ ?_); rfl)
    | (go_at_call 20; (with_reducible refine (HOF.out w1).mono ?_); rintro e w2 ⟨rfl, b2⟩; have R2 := Lib.hid (R1.out.step b2); have B2 := Lib.hid (B1.out.next b2); clear b2))
  have LG : Hid (w.heap.size < w2.heap.size) := Lib.hid R2.out.lt
  have C0 : Hid (w2.cell? ⟨w.heap.size, 0, none⟩ = some (.int .i64 d)) := Lib.hid (R2.out.cell 0)
  have C1 : Hid (w2.cell? ⟨w.heap.size, 1, none⟩ = some (.int .i64 p)) := Lib.hid (R2.out.cell 1)
  have C2 : Hid (w2.cell? ⟨w.heap.size, 2, none⟩ = some (.int .i64 s)) := Lib.hid (R2.out.cell 2)
  refine region_invX [(0, 17), (1, 18), (2, 19), (3, 20), (4, 21), (5, 22), (6, 23), (7, 24), (8, 25), (9, 26), (10, 4)]
    (fun ii => [Is (.int .i64 a), Is (.string NM), Is (.string T1), Is (.int .i64 b), Is (.string DB), Is (.string T2), Is (.agg #[(.int .i64 d), (.int .i64 p), (.int .i64 s)]), Is (.int .i64 c), Is (.string PT), Is (.string T3), Is (.string T3)].getD ii (Is undef))
    (fun w' => Below w2.heap.size w2 w') (by kernel_rfl) (by kernel_rfl) (by decide) (by decide) (by kernel_rfl) rfl ?monon ((Below.refl _ _).drew) ?stepn ?finn
  case monon =>
    intro i
    match i with
    | 0 | 1 | 2 | 3 | 4 | 5 | 6 | 7 | 8 | 9 | 10 => exact Is.monot _
    | _ + 11 => exact Is.monot _
  case stepn =>
    refine List.forall_mem_cons.2 ⟨?ns0, List.forall_mem_cons.2 ⟨?ns1, List.forall_mem_cons.2 ⟨?ns2, List.forall_mem_cons.2 ⟨?ns3, List.forall_mem_cons.2 ⟨?ns4, List.forall_mem_cons.2 ⟨?ns5, List.forall_mem_cons.2 ⟨?ns6, List.forall_mem_cons.2 ⟨?ns7, List.forall_mem_cons.2 ⟨?ns8, List.forall_mem_cons.2 ⟨?ns9, List.forall_mem_cons.2 ⟨?ns10, List.forall_mem_nil _⟩⟩⟩⟩⟩⟩⟩⟩⟩⟩⟩
    case ns0 =>
      intro u wx hg hC
      clear hC
      refine wpOp_step rfl (fun K hK => ?_)
      simp only [puts, List.foldl]
      go_simp
      exact hK _ _ ⟨rfl, rfl, hg, Below.refl _ _⟩
    case ns1 =>
      intro u wx hg hC
      have hJ0 : u 0 = (.int .i64 a) := hC.at 0 (by kernel_rfl)
      clear hC
      refine wpOp_step rfl (fun K hK => ?_)
      simp only [puts, List.foldl]
      go_simp
      refine (HNA.out wx).mono ?_
      rintro e w' ⟨rfl, hb'⟩
      exact hK _ _ ⟨rfl, rfl, hg.next hb', hb'⟩
    case ns2 =>
      intro u wx hg hC
      have hJ1 : u 1 = (.string NM) := hC.at 1 (by kernel_rfl)
      clear hC
      have hw : NM ++ { data := #[32] } = T1 := HT1.out
      have hz : ¬ 9223372036854775807 < NM.size + 1 := HZ.out.1
      refine wpOp_step rfl (fun K hK => ?_)
      simp only [puts, List.foldl]
      go_simp
      exact hK _ _ ⟨rfl, rfl, hg, Below.refl _ _⟩
    case ns3 =>
      intro u wx hg hC
      clear hC
      refine wpOp_step rfl (fun K hK => ?_)
      simp only [puts, List.foldl]
      go_simp
      exact hK _ _ ⟨rfl, rfl, hg, Below.refl _ _⟩
    case ns4 =>
      intro u wx hg hC
      have hJ3 : u 3 = (.int .i64 b) := hC.at 3 (by kernel_rfl)
      clear hC
      refine wpOp_step rfl (fun K hK => ?_)
      simp only [puts, List.foldl]
      go_simp
      refine (HIT.out wx).mono ?_
      rintro e w' ⟨rfl, hb'⟩
      exact hK _ _ ⟨rfl, rfl, hg.next hb', hb'⟩
    case ns5 =>
      intro u wx hg hC
      have hJ2 : u 2 = (.string T1) := hC.at 2 (by kernel_rfl)
      have hJ4 : u 4 = (.string DB) := hC.at 4 (by kernel_rfl)
      clear hC
      have hw : T1 ++ DB = T2 := HT2.out
      have hz : ¬ 9223372036854775807 < T1.size + DB.size := HZ.out.2.1
      refine wpOp_step rfl (fun K hK => ?_)
      simp only [puts, List.foldl]
      go_simp
      exact hK _ _ ⟨rfl, rfl, hg, Below.refl _ _⟩
    case ns6 =>
      intro u wx hg hC
      clear hC
      have hcl0 : wx.cell? ⟨w.heap.size, 0, none⟩ = some (.int .i64 d) := (hg.cell (p := ⟨w.heap.size, 0, none⟩) LG.out).trans C0.out
      have hcl1 : wx.cell? ⟨w.heap.size, 1, none⟩ = some (.int .i64 p) := (hg.cell (p := ⟨w.heap.size, 1, none⟩) LG.out).trans C1.out
      have hcl2 : wx.cell? ⟨w.heap.size, 2, none⟩ = some (.int .i64 s) := (hg.cell (p := ⟨w.heap.size, 2, none⟩) LG.out).trans C2.out
      refine wpOp_step rfl (fun K hK => ?_)
      simp only [puts, List.foldl]
      go_simp
      exact hK _ _ ⟨rfl, rfl, hg, Below.refl _ _⟩
    case ns7 =>
      intro u wx hg hC
      clear hC
      refine wpOp_step rfl (fun K hK => ?_)
      simp only [puts, List.foldl]
      go_simp
      exact hK _ _ ⟨rfl, rfl, hg, Below.refl _ _⟩
    case ns8 =>
      intro u wx hg hC
      have hJ6 : u 6 = (.agg #[(.int .i64 d), (.int .i64 p), (.int .i64 s)]) := hC.at 6 (by kernel_rfl)
      have hJ7 : u 7 = (.int .i64 c) := hC.at 7 (by kernel_rfl)
      clear hC
      refine wpOp_step rfl (fun K hK => ?_)
      simp only [puts, List.foldl]
      go_simp
      refine (HPA.out wx).mono ?_
      rintro e w' ⟨rfl, hb'⟩
      exact hK _ _ ⟨rfl, rfl, hg.next hb', hb'⟩
    case ns9 =>
      intro u wx hg hC
      have hJ5 : u 5 = (.string T2) := hC.at 5 (by kernel_rfl)
      have hJ8 : u 8 = (.string PT) := hC.at 8 (by kernel_rfl)
      clear hC
      have hw : T2 ++ PT = T3 := HT3.out
      have hz : ¬ 9223372036854775807 < T2.size + PT.size := HZ.out.2.2
      refine wpOp_step rfl (fun K hK => ?_)
      simp only [puts, List.foldl]
      go_simp
      exact hK _ _ ⟨rfl, rfl, hg, Below.refl _ _⟩
    case ns10 =>
      intro u wx hg hC
      have hJ9 : u 9 = (.string T3) := hC.at 9 (by kernel_rfl)
      clear hC
      refine wpOp_step rfl (fun K hK => ?_)
      simp only [puts, List.foldl]
      go_simp
      exact hK _ _ ⟨rfl, rfl, hg, Below.refl _ _⟩
  case finn =>
    intro u wq hbq hφ
    have e4 : u 10 = .string T3 := hφ (10, 4) (by decide)
    clear hφ
    simp only [puts, List.foldl]
    go_simp
    have BQ := Lib.hid (B2.out.next hbq)
    clear hbq e4
    go_wp2
    go_ret
    exact ⟨by rw [HT.out]; rfl, BQ.out⟩
end Go.Proofs.YtiakbdekleaaoaaDoor
