/- geo's awake; the document's Right, Room; the statements' sector, of (gen_geo_i.py). -/
import Derived.Test.YtiakbdekleaaoaaDoorGeoF
import Derived.Test.YtiakbdekleaaoaaDoorGeoH
import Derived.Test.YtiakbdekleaaoaaDoorGeoMath3
namespace Go.Proofs.YtiakbdekleaaoaaDoor
open Go.RowKit GeoMath
set_option linter.unusedVariables false
set_option maxRecDepth 100000

theorem zero_geo : ∀ u, (zeroValue 23).run Tryd.prog u = .ok (.agg [Value.int .i64 0, .int .i64 0, .int .i64 0].toArray) u := fun u => by kernel_rfl
set_option maxHeartbeats 1000000 in
theorem geoAwake_any (w : World) : Calls Tryd.prog 4 #[] w fun e w' => e = .returned (.bool true) ∧ Below w.heap.size w w' := by
  have HS : Hid (∀ w1, Calls Tryd.prog 9 #[.agg #[.int .i64 2, .int .i64 2, .int .i64 3], .int .i64 1, .int .i64 2, .int .i64 1] w1 fun e w' => e = .returned (.tuple #[.int .i64 17, .int .i64 0]) ∧ Below w1.heap.size w1 w') := Lib.hid fun w1 => sector_any ⟨2, 2, 3⟩ 1 2 1 w1
  have HR : Hid (∀ w1, Calls Tryd.prog 10 #[.agg #[.int .i64 2, .int .i64 2, .int .i64 3]] w1 fun e w' => e = .returned (.bool true) ∧ Below w1.heap.size w1 w') := Lib.hid fun w1 => right_any ⟨2, 2, 3⟩ w1
  have HL : Hid (∀ w1, Calls Tryd.prog 11 #[.agg #[.int .i64 2, .int .i64 2, .int .i64 3]] w1 fun e w' => e = .returned (.int .i64 12) ∧ Below w1.heap.size w1 w') := Lib.hid fun w1 => slot_any ⟨2, 2, 3⟩ w1
  go_enter Tryd.func4, Tryd.ntmps4
  go_wp2_with (first
    | ((with_reducible refine wpAllocK [Value.int .i64 0, .int .i64 0, .int .i64 0] 23 zero_geo ?_ ?_); rfl; intro w1 r1 b1 s1; have R1 := Lib.hid r1; have B1 := Lib.hid b1; clear r1 b1 s1)
    | ((with_reducible refine R1.out.wpStoreK 23 [Value.int .i64 2, .int .i64 2, .int .i64 3] fits_geo rfl rfl rfl ?_ ?_); rfl; intro w2 r2 o2 s2; have R2 := Lib.hid r2; have B2 := Lib.hid (B1.out.trans (o2.below (Nat.le_refl _) B1.out.size)); clear r2 o2 s2)
    | ((with_reducible refine R2.out.wpLoadK 23 fits_geo rfl ?_ ?_); rfl)
    | ((with_reducible refine R3.out.wpLoadK 23 fits_geo rfl ?_ ?_); rfl)
    | ((with_reducible refine R4.out.wpLoadK 23 fits_geo rfl ?_ ?_); rfl)
    | ((with_reducible refine R4.out.wpLoadG 23 fits_geo rfl ?_ ?_); rfl)
    | (go_at_call 9; (with_reducible refine (HS.out w2).mono ?_); rintro e w3 ⟨rfl, b3⟩; have R3 := Lib.hid (R2.out.step b3); have B3 := Lib.hid (B2.out.next b3); clear b3)
    | (go_at_call 10; (with_reducible refine (HR.out w3).mono ?_); rintro e w4 ⟨rfl, b4⟩; have R4 := Lib.hid (R3.out.step b4); have B4 := Lib.hid (B3.out.next b4); clear b4)
    | (go_at_call 11; (with_reducible refine (HL.out w4).mono ?_); rintro e w5 ⟨rfl, b5⟩; have B5 := Lib.hid (B4.out.next b5); clear b5))
  go_ret
  exact ⟨rfl, B5.out⟩
theorem rright_any (g : Gm) (w : World) :
    Calls Tryd.prog 6 #[geoV g] w fun e w' => e = .returned (.bool (right g)) ∧ Below w.heap.size w w' := by
  cases hr : right g with
  | true =>
    have hg := (right_iff g).1 hr
    obtain ⟨d, p, s⟩ := g
    have h1 : (1 : Int) ≤ d := hg.d1
    have h2 : d ≤ 8 := hg.d8
    have h3 : (2 : Int) ≤ p := hg.p2
    have h4 : p ≤ 6 := hg.p6
    have h5 : (1 : Int) ≤ s := hg.s1
    have h6 : s ≤ 8 := hg.s8
    clear hg hr
    dsimp only [geoV]
    go_enter Tryd.func6, Tryd.ntmps6
    go_wp2_with ((with_reducible refine wpBoxK [Value.int .i64 d, .int .i64 p, .int .i64 s] 28 ?_ ?_); rfl; intro w1 r1 b1 s1; have c0 := r1.cell 0; have c1 := r1.cell 1; have c2 := r1.cell 2; have B1 := Lib.hid b1; clear r1 b1 s1)
    go_ret
    exact ⟨rfl, B1.out⟩
  | false =>
    have hn : ¬ Rt g := fun h => by rw [(right_iff g).2 h] at hr; cases hr
    obtain ⟨d, p, s⟩ := g
    have hor : ¬ 1 ≤ d ∨ (1 ≤ d ∧ ¬ d ≤ 8) ∨ (1 ≤ d ∧ d ≤ 8 ∧ ¬ 2 ≤ p) ∨ (1 ≤ d ∧ d ≤ 8 ∧ 2 ≤ p ∧ ¬ p ≤ 6) ∨ (1 ≤ d ∧ d ≤ 8 ∧ 2 ≤ p ∧ p ≤ 6 ∧ ¬ 1 ≤ s) ∨ (1 ≤ d ∧ d ≤ 8 ∧ 2 ≤ p ∧ p ≤ 6 ∧ 1 ≤ s ∧ ¬ s ≤ 8) := by
      by_cases x1 : 1 ≤ d <;> by_cases x2 : d ≤ 8 <;> by_cases x3 : 2 ≤ p <;> by_cases x4 : p ≤ 6 <;> by_cases x5 : 1 ≤ s <;> by_cases x6 : s ≤ 8 <;> simp only [x1, x2, x3, x4, x5, x6] <;> simp
      exact hn ⟨x1, x2, x3, x4, x5, x6⟩
    clear hn hr
    dsimp only [geoV]
    rcases hor with h1 | ⟨h1, h2⟩ | ⟨h1, h2, h3⟩ | ⟨h1, h2, h3, h4⟩ | ⟨h1, h2, h3, h4, h5⟩ | ⟨h1, h2, h3, h4, h5, h6⟩
    all_goals
      go_enter Tryd.func6, Tryd.ntmps6
      go_wp2_with ((with_reducible refine wpBoxK [Value.int .i64 d, .int .i64 p, .int .i64 s] 28 ?_ ?_); rfl; intro w1 r1 b1 s1; have c0 := r1.cell 0; have c1 := r1.cell 1; have c2 := r1.cell 2; have B1 := Lib.hid b1; clear r1 b1 s1)
      go_ret
      exact ⟨rfl, B1.out⟩
end Go.Proofs.YtiakbdekleaaoaaDoor
