/- Contracts of geo's Slot, log, tally, All, Room, Golden, ask (gen_geo_c.py). -/
import Derived.Test.YtiakbdekleaaoaaDoorGeoB
namespace Go.Proofs.YtiakbdekleaaoaaDoor
open Go.RowKit GeoMath
set_option linter.unusedVariables false
set_option maxRecDepth 100000

theorem slot_any (g : Gm) (w : World) :
    Calls Tryd.prog 11 #[geoV g] w fun e w' => e = .returned (.int .i64 (slot g)) ∧ Below w.heap.size w w' := by
  have HX := Lib.hid fun w1 => wide_any g w1
  have HW : Hid (IntKind.i64.wrap (wide g * g.s) = slot g) := Lib.hid (by
    have := slot_le g
    rw [← slot, IntKind.wrap_i64]
    omega)
  generalize slot g = sl at HW ⊢
  generalize wide g = wd at HX HW
  obtain ⟨d, p, s⟩ := g
  dsimp only [geoV] at HX HW ⊢
  go_enter Tryd.func11, Tryd.ntmps11
  go_wp2_with ((with_reducible refine wpBoxK [Value.int .i64 d, .int .i64 p, .int .i64 s] 23 ?_ ?_); rfl; intro w1 r1 b1 s1; have R1 := Lib.hid r1; have B1 := Lib.hid b1; clear r1 b1 s1)
  have HLT : Hid (w.heap.size < w1.heap.size) := Lib.hid R1.out.lt
  have C0 : Hid (w1.cell? ⟨w.heap.size, 0, none⟩ = some (.int .i64 d)) := Lib.hid (R1.out.cell 0)
  have C1 : Hid (w1.cell? ⟨w.heap.size, 1, none⟩ = some (.int .i64 p)) := Lib.hid (R1.out.cell 1)
  have C2 : Hid (w1.cell? ⟨w.heap.size, 2, none⟩ = some (.int .i64 s)) := Lib.hid (R1.out.cell 2)
  refine region_invX [(0, 3), (1, 4), (2, 5), (3, 6), (4, 7), (5, 2)]
    (fun ii => [Is (.agg #[(.int .i64 d), (.int .i64 p), (.int .i64 s)]), Is (.int .i64 wd), Is (.pointer (some ⟨w.heap.size, 2, none⟩)), Is (.int .i64 s), Is (.int .i64 sl), Is (.int .i64 sl)].getD ii (Is undef))
    (fun w' => Below w1.heap.size w1 w') (by kernel_rfl) (by kernel_rfl) (by decide) (by decide) (by kernel_rfl) rfl ?monoq ((Below.refl _ _).drew) ?stepq ?finq
  case monoq =>
    intro i
    match i with
    | 0 | 1 | 2 | 3 | 4 | 5 => exact Is.monot _
    | _ + 6 => exact Is.monot _
  case stepq =>
    refine List.forall_mem_cons.2 ⟨?qs0, List.forall_mem_cons.2 ⟨?qs1, List.forall_mem_cons.2 ⟨?qs2, List.forall_mem_cons.2 ⟨?qs3, List.forall_mem_cons.2 ⟨?qs4, List.forall_mem_cons.2 ⟨?qs5, List.forall_mem_nil _⟩⟩⟩⟩⟩⟩
    case qs0 =>
      intro u wx hg hC
      clear hC
      have hcl0 : wx.cell? ⟨w.heap.size, 0, none⟩ = some (.int .i64 d) := (hg.cell (p := ⟨w.heap.size, 0, none⟩) HLT.out).trans C0.out
      have hcl1 : wx.cell? ⟨w.heap.size, 1, none⟩ = some (.int .i64 p) := (hg.cell (p := ⟨w.heap.size, 1, none⟩) HLT.out).trans C1.out
      have hcl2 : wx.cell? ⟨w.heap.size, 2, none⟩ = some (.int .i64 s) := (hg.cell (p := ⟨w.heap.size, 2, none⟩) HLT.out).trans C2.out
      refine wpOp_step rfl (fun K hK => ?_)
      simp only [puts, List.foldl]
      go_simp
      exact hK _ _ ⟨rfl, rfl, hg, Below.refl _ _⟩
    case qs1 =>
      intro u wx hg hC
      have hJ0 : u 0 = (.agg #[(.int .i64 d), (.int .i64 p), (.int .i64 s)]) := hC.at 0 (by kernel_rfl)
      clear hC
      refine wpOp_step rfl (fun K hK => ?_)
      simp only [puts, List.foldl]
      go_simp
      refine (HX.out wx).mono ?_
      rintro e w' ⟨rfl, hb'⟩
      exact hK _ _ ⟨rfl, rfl, hg.next hb', hb'⟩
    case qs2 =>
      intro u wx hg hC
      clear hC
      refine wpOp_step rfl (fun K hK => ?_)
      simp only [puts, List.foldl]
      go_simp
      exact hK _ _ ⟨rfl, rfl, hg, Below.refl _ _⟩
    case qs3 =>
      intro u wx hg hC
      have hJ2 : u 2 = (.pointer (some ⟨w.heap.size, 2, none⟩)) := hC.at 2 (by kernel_rfl)
      clear hC
      have hcl : wx.cell? ⟨w.heap.size, 2, none⟩ = some (.int .i64 s) := (hg.cell (p := ⟨w.heap.size, 2, none⟩) HLT.out).trans C2.out
      refine wpOp_step rfl (fun K hK => ?_)
      simp only [puts, List.foldl]
      go_simp
      exact hK _ _ ⟨rfl, rfl, hg, Below.refl _ _⟩
    case qs4 =>
      intro u wx hg hC
      have hJ1 : u 1 = (.int .i64 wd) := hC.at 1 (by kernel_rfl)
      have hJ3 : u 3 = (.int .i64 s) := hC.at 3 (by kernel_rfl)
      clear hC
      have hw : IntKind.i64.wrap (wd * s) = sl := HW.out
      refine wpOp_step rfl (fun K hK => ?_)
      simp only [puts, List.foldl]
      go_simp
      exact hK _ _ ⟨rfl, rfl, hg, Below.refl _ _⟩
    case qs5 =>
      intro u wx hg hC
      have hJ4 : u 4 = (.int .i64 sl) := hC.at 4 (by kernel_rfl)
      clear hC
      refine wpOp_step rfl (fun K hK => ?_)
      simp only [puts, List.foldl]
      go_simp
      exact hK _ _ ⟨rfl, rfl, hg, Below.refl _ _⟩
  case finq =>
    intro u wq hbq hφ
    have e2 : u 5 = .int .i64 sl := hφ (5, 2) (by decide)
    clear hφ
    simp only [puts, List.foldl]
    go_simp
    have HBQ := Lib.hid (B1.out.next hbq)
    clear hbq e2
    go_wp2
    go_ret
    exact ⟨ret_int rfl, HBQ.out⟩
theorem log_any (g : Gm) (w : World) :
    Calls Tryd.prog 12 #[geoV g] w fun e w' => e = .returned (.int .i64 (log g)) ∧ Below w.heap.size w w' := by
  have HX := Lib.hid fun w1 => slot_any g w1
  have HW := slot_le g
  rw [log]
  generalize slot g = sl at HX HW ⊢
  have h1 := HW.1
  have h2 := HW.2
  clear HW
  obtain ⟨d, p, s⟩ := g
  dsimp only [geoV] at HX ⊢
  go_enter Tryd.func12, Tryd.ntmps12
  go_wp2_with (first
    | ((with_reducible refine wpBoxK [Value.int .i64 d, .int .i64 p, .int .i64 s] 23 ?_ ?_); rfl; intro w1 r1 b1 s1; have R1 := Lib.hid r1; have B1 := Lib.hid b1; clear r1 b1 s1)
    | ((with_reducible refine R1.out.wpLoadK 23 fits_geo rfl ?_ ?_); rfl)
    | (go_at_call 11; (with_reducible refine (HX.out w1).mono ?_); rintro e u1 ⟨rfl, b2⟩; have B2 := Lib.hid (B1.out.next b2); clear b2))
  go_ret
  exact ⟨ret_int rfl, B2.out⟩
theorem log_le (g : Gm) : 0 ≤ log g ∧ log g ≤ 336 := by have := slot_le g; rw [log]; omega
theorem tal_le (g : Gm) : 16 ≤ tal g ∧ tal g ≤ 352 := by have := log_le g; rw [tal]; omega
theorem ask_any (g : Gm) (b : Nat) (L : List Sp) (n : Nat) (w : World) (h : SpAt w b L) (hn : L.length = n) (hL : n < 1000) :
    Calls Tryd.prog 16 #[geoV g, .slice (some ⟨b, 0, none⟩) n n] w fun e w' => e = .returned (.int .i64 (askF g L)) ∧ Below w.heap.size w w' := by
  subst hn
  have HX := Lib.hid fun w1 => right_any g w1
  have HY : Hid (∀ w1, Below w.heap.size w w1 → Calls Tryd.prog 19 #[.slice (some ⟨b, 0, none⟩) L.length L.length] w1 fun e w' => e = .returned (.bool (okAll L)) ∧ Below w1.heap.size w1 w') :=
    Lib.hid fun w1 hb => within_any b L w1 (h.step hb) hL
  rw [askF]
  clear h hL
  generalize L.length = n at HY ⊢
  generalize okAll L = r at HY ⊢
  cases hr : right g with
  | false =>
    rw [hr] at HX
    clear hr HY
    obtain ⟨d, p, s⟩ := g
    dsimp only [geoV] at HX ⊢
    go_enter Tryd.func16, Tryd.ntmps16
    go_wp2_with (first
      | ((with_reducible refine wpBoxK [Value.int .i64 d, .int .i64 p, .int .i64 s] 23 ?_ ?_); rfl; intro w1 r1 b1 s1; have R1 := Lib.hid r1; have B1 := Lib.hid b1; clear r1 b1 s1)
      | ((with_reducible refine R1.out.wpLoadK 23 fits_geo rfl ?_ ?_); rfl)
      | (go_at_call 10; (with_reducible refine (HX.out w1).mono ?_); rintro e u1 ⟨rfl, b2⟩; have B2 := Lib.hid (B1.out.next b2); clear b2))
    go_ret
    exact ⟨ret_int rfl, B2.out⟩
  | true =>
    rw [hr] at HX
    clear hr
    obtain ⟨d, p, s⟩ := g
    cases r with
    | false =>
      dsimp only [geoV] at HX ⊢
      go_enter Tryd.func16, Tryd.ntmps16
      go_wp2_with (first
        | ((with_reducible refine wpBoxK [Value.int .i64 d, .int .i64 p, .int .i64 s] 23 ?_ ?_); rfl; intro w1 r1 b1 s1; have R1 := Lib.hid r1; have B1 := Lib.hid b1; clear r1 b1 s1)
        | ((with_reducible refine R1.out.wpLoadK 23 fits_geo rfl ?_ ?_); rfl)
        | (go_at_call 10; (with_reducible refine (HX.out w1).mono ?_); rintro e u1 ⟨rfl, b2⟩; have B2 := Lib.hid (B1.out.next b2); clear b2)
        | (go_at_call 19; (with_reducible refine (HY.out u1 B2.out).mono ?_); rintro e u2 ⟨rfl, b3⟩; have B3 := Lib.hid (B2.out.next b3); clear b3))
      go_ret
      exact ⟨ret_int rfl, B3.out⟩
    | true =>
      dsimp only [geoV] at HX ⊢
      go_enter Tryd.func16, Tryd.ntmps16
      go_wp2_with (first
        | ((with_reducible refine wpBoxK [Value.int .i64 d, .int .i64 p, .int .i64 s] 23 ?_ ?_); rfl; intro w1 r1 b1 s1; have R1 := Lib.hid r1; have B1 := Lib.hid b1; clear r1 b1 s1)
        | ((with_reducible refine R1.out.wpLoadK 23 fits_geo rfl ?_ ?_); rfl)
        | (go_at_call 10; (with_reducible refine (HX.out w1).mono ?_); rintro e u1 ⟨rfl, b2⟩; have B2 := Lib.hid (B1.out.next b2); clear b2)
        | (go_at_call 19; (with_reducible refine (HY.out u1 B2.out).mono ?_); rintro e u2 ⟨rfl, b3⟩; have B3 := Lib.hid (B2.out.next b3); clear b3))
      go_ret
      exact ⟨ret_int rfl, B3.out⟩
end Go.Proofs.YtiakbdekleaaoaaDoor
