/- Contracts of geo's Right, Wide, Slot, log, tally, All, Room, Golden, ask. -/
import Derived.Test.YtiakbdekleaaoaaDoorGeoA
namespace Go.Proofs.YtiakbdekleaaoaaDoor
open Go.RowKit GeoMath
set_option linter.unusedVariables false
set_option maxRecDepth 100000

def geoV (g : Gm) : Value := .agg #[.int .i64 g.d, .int .i64 g.p, .int .i64 g.s]
theorem fits_geo : Fits Tryd.prog 23 3 := ⟨⟨_, Tryd.underlying23, rfl⟩, by kernel_rfl⟩
theorem within_new (L : List Sp) (cs : Array Value) (n : Nat) (w : World) (hc : cs = (L.flatMap spc).toArray) (hn : L.length = n) (hL : n < 1000) :
    Calls Tryd.prog 19 #[.slice (some ⟨w.heap.size, 0, none⟩) n n] (w.alloc (.cells cs 42)) fun e w' => e = .returned (.bool (okAll L)) ∧ Below w.heap.size w w' := by
  subst hc
  subst hn
  refine (within_any _ L _ (SpAt.of_row (Row.new w 42 (L.flatMap spc))) hL).mono ?_
  rintro e w' ⟨h1, h2⟩
  exact ⟨h1, (alloc_below w _).next h2⟩
theorem right_any (g : Gm) (w : World) :
    Calls Tryd.prog 10 #[geoV g] w fun e w' => e = .returned (.bool (right g)) ∧ Below w.heap.size w w' := by
  have HX := Lib.hid fun w1 => within_new [⟨g.d, 1, 8⟩, ⟨g.p, 2, 6⟩, ⟨g.s, 1, 8⟩] #[.int .i64 g.d, .int .i64 1, .int .i64 8, .int .i64 g.p, .int .i64 2, .int .i64 6, .int .i64 g.s, .int .i64 1, .int .i64 8] 3 w1 rfl rfl (by decide)
  have HR : Hid (okAll [⟨g.d, 1, 8⟩, ⟨g.p, 2, 6⟩, ⟨g.s, 1, 8⟩] = right g) := Lib.hid rfl
  generalize okAll [⟨g.d, 1, 8⟩, ⟨g.p, 2, 6⟩, ⟨g.s, 1, 8⟩] = r at HX HR
  rw [← HR.out]
  obtain ⟨d, p, s⟩ := g
  dsimp only [geoV] at HX ⊢
  go_enter Tryd.func10, Tryd.ntmps10
  go_wp2_with (first
    | ((with_reducible refine wpBoxK [Value.int .i64 d, .int .i64 p, .int .i64 s] 23 ?_ ?_); rfl; intro w1 r1 b1 s1; have c0 := r1.cell 0; have c1 := r1.cell 1; have c2 := r1.cell 2; have B1 := Lib.hid b1; clear r1 b1 s1)
    | (go_at_call 19; (with_reducible refine (HX.out w1).mono ?_); rintro e u1 ⟨rfl, b2⟩; have B2 := Lib.hid (B1.out.next b2); clear b2))
  go_ret
  exact ⟨rfl, B2.out⟩
theorem wide_any (g : Gm) (w : World) :
    Calls Tryd.prog 18 #[geoV g] w fun e w' => e = .returned (.int .i64 (wide g)) ∧ Below w.heap.size w w' := by
  have HX := Lib.hid fun w1 => right_any g w1
  cases hr : right g with
  | false =>
    have HW := Lib.hid (wide_no hr)
    rw [hr] at HX
    clear hr
    obtain ⟨d, p, s⟩ := g
    dsimp only [geoV] at HX ⊢
    go_enter Tryd.func18, Tryd.ntmps18
    go_wp2_with (first
      | ((with_reducible refine wpBoxK [Value.int .i64 d, .int .i64 p, .int .i64 s] 23 ?_ ?_); rfl; intro w1 r1 b1 s1; have R1 := Lib.hid r1; have B1 := Lib.hid b1; clear r1 b1 s1)
      | ((with_reducible refine R1.out.wpLoadK 23 fits_geo rfl ?_ ?_); rfl)
      | (go_at_call 10; (with_reducible refine (HX.out w1).mono ?_); rintro e u1 ⟨rfl, b2⟩; have B2 := Lib.hid (B1.out.next b2); clear b2))
    go_ret
    exact ⟨ret_int HW.out.symm, B2.out⟩
  | true =>
    have HW := Lib.hid (wide_yes hr)
    have hg := (right_iff g).1 hr
    rw [hr] at HX
    clear hr
    obtain ⟨d, p, s⟩ := g
    have h1 := hg.d1
    have h2 := hg.d8
    have h3 := hg.p2
    have h4 := hg.p6
    clear hg
    dsimp only [geoV] at HX h1 h2 h3 h4 ⊢
    go_enter Tryd.func18, Tryd.ntmps18
    go_wp2_with (first
      | ((with_reducible refine wpBoxK [Value.int .i64 d, .int .i64 p, .int .i64 s] 23 ?_ ?_); rfl; intro w1 r1 b1 s1; have R1 := Lib.hid r1; have B1 := Lib.hid b1; clear r1 b1 s1)
      | ((with_reducible refine R1.out.wpLoadK 23 fits_geo rfl ?_ ?_); rfl)
      | (go_at_call 10; (with_reducible refine (HX.out w1).mono ?_); rintro e u1 ⟨rfl, b2⟩; have R2 := R1.out.step b2; have c0 := R2.cell 0; have c1 := R2.cell 1; have B2 := Lib.hid (B1.out.next b2); clear b2 R2))
    go_ret
    exact ⟨ret_int HW.out.symm, B2.out⟩
end Go.Proofs.YtiakbdekleaaoaaDoor
