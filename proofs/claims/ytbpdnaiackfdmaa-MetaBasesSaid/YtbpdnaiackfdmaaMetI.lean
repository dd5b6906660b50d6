/- The example. -/
import Derived.Test.YtbpdnaiackfdmaaMetH
namespace Go.Proofs.Ytbpdnaiackfdmaa
open Go.RowKit MetMath
set_option linter.unusedVariables false
set_option maxRecDepth 100000

def exL : List Rc := [⟨1, 1, 0, 0⟩, ⟨2, 1, 0, 5⟩, ⟨3, 1, 0, 7⟩]
def exM : Mt := ⟨⟨4, 0, 0⟩, ⟨3, 5, 7⟩, ⟨0, 0, 0⟩, 1, 0, 0, 0⟩
theorem ex_all : allF Mt.new exL = (exM, 0) := by kernel_rfl
set_option maxHeartbeats 1000000 in
theorem met_awake_any (w : World) : Calls Try.prog 6 #[] w fun e w' => e = .returned (.bool true) ∧ Below w.heap.size w w' := by
  obtain ⟨Z, hZ⟩ : ∃ Z, mcs zeroM = Z := ⟨_, rfl⟩
  have HZ : Hid (∀ u, (zeroValue 28).run Try.prog u = .ok (.agg Z.toArray) u) := Lib.hid (by rw [← hZ]; exact zero_meta)
  have HZL : Hid (Z.length = 13) := Lib.hid (by rw [← hZ]; rfl)
  obtain ⟨X, hX⟩ : ∃ X, mcs exM = X := ⟨_, rfl⟩
  have HXL : Hid (X.length = 13) := Lib.hid (by rw [← hX]; rfl)
  have HXO : Hid (X.all (·.oneCell') = true) := Lib.hid (by rw [← hX]; rfl)
  have HX9 : Hid (X[9]? = some (.int .i64 1)) := Lib.hid (by rw [← hX]; rfl)
  have HX4 : Hid (X[4]? = some (.int .i64 5)) := Lib.hid (by rw [← hX]; rfl)
  have HAL : Hid (∀ u, Calls Try.prog 14 #[.slice (some ⟨u.heap.size, 0, none⟩) 3 3] (u.alloc (.cells #[.int .i64 1, .int .i64 1, .int .i64 0, .int .i64 0, .int .i64 2, .int .i64 1, .int .i64 0, .int .i64 5, .int .i64 3, .int .i64 1, .int .i64 0, .int .i64 7] 31)) fun e u' => e = .returned (.tuple #[.agg X.toArray, .int .i64 0]) ∧ Below u.heap.size u u') := Lib.hid fun u => by
    have := met_all_any (some ⟨u.heap.size, 0, none⟩) 3 3 exL _ rfl (by omega) (Lies.new (rcs exL) u 31)
    rw [ex_all, hX] at this
    exact this.mono fun e u' h => ⟨h.1, (alloc_below u _).next h.2⟩
  have HTR : Hid (∀ u, Calls Try.prog 10 #[.agg X.toArray] u fun e u' => e = .returned (.tuple #[.int .i64 1, .bool true]) ∧ Below u.heap.size u u') := Lib.hid fun u => by rw [← hX]; exact met_trial_any exM u
  clear hZ hX
  go_enter Try.func6, Try.ntmps6
  go_wp2_with (first
    | (go_at_call 14; (with_reducible refine (HAL.out w).mono ?_); rintro e u1 ⟨rfl, b_⟩; have B_1 : Hid (Below w.heap.size w u1) := Lib.hid (b_); clear b_)
    | ((with_reducible refine wpAllocK (w := u1) (Z) 28 HZ.out ?_ ?_); rfl; intro u2 r_ b_ s_; have G_m : Hid (w.heap.size ≤ u1.heap.size) := Lib.hid (B_1.out.size); have B_2 : Hid (Below w.heap.size w u2) := Lib.hid (B_1.out.next b_); have Tm_2 := Lib.hid r_; clear r_ b_ s_ B_1)
    | ((with_reducible refine Tm_2.out.wpStoreK 28 (X) fits_meta (HZL.out) (HXL.out) (HXO.out) ?_ ?_); rfl; intro u3 r_ o_ s_; have Tm_3 := Lib.hid r_; have B_3 : Hid (Below w.heap.size w u3) := Lib.hid (B_2.out.trans (o_.below G_m.out B_2.out.size)); clear r_ o_ s_ Tm_2 B_2)
    | ((with_reducible refine Tm_3.out.wpLoadK 28 fits_meta (HXL.out) ?_ ?_); rfl)
    | (go_at_call 10; (with_reducible refine (HTR.out u3).mono ?_); rintro e u4 ⟨rfl, b_⟩; have Tm_4 := Lib.hid (Tm_3.out.step b_); have B_4 : Hid (Below w.heap.size w u4) := Lib.hid (B_3.out.next b_); have c9 := (Tm_4.out.cell 9).trans HX9.out; have c4 := (Tm_4.out.cell 4).trans HX4.out; clear b_ Tm_3 B_3))
  go_ret
  exact ⟨rfl, B_4.out⟩
end Go.Proofs.Ytbpdnaiackfdmaa
