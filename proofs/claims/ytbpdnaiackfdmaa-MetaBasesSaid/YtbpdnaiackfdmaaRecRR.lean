/- The document's Right, of a record. -/
import Derived.Test.YtbpdnaiackfdmaaRecA0
namespace Go.Proofs.Ytbpdnaiackfdmaa
open Go.RowKit
set_option linter.unusedVariables false
set_option maxRecDepth 100000

set_option maxHeartbeats 1000000 in
theorem rref_right_any (k s n v : Int) (w : World) :
    Calls Try.prog 15 #[.agg (rcv k s n v).toArray] w fun e w' => e = .returned (.bool (rOk k s n v)) ∧ Below w.heap.size w w' := by
  obtain ⟨V, hV⟩ : ∃ V, rcv k s n v = V := ⟨_, rfl⟩
  have H0 : Hid (V[0]? = some (.int .i64 k)) := Lib.hid (by rw [← hV]; rfl)
  have H1 : Hid (V[1]? = some (.int .i64 s)) := Lib.hid (by rw [← hV]; rfl)
  have H2 : Hid (V[2]? = some (.int .i64 n)) := Lib.hid (by rw [← hV]; rfl)
  have H3 : Hid (V[3]? = some (.int .i64 v)) := Lib.hid (by rw [← hV]; rfl)
  rw [hV]
  clear hV
  by_cases h0 : 0 ≤ k
  · by_cases h1 : k < 128
    · by_cases h2 : 0 ≤ s
      · by_cases h3 : s < 4
        · by_cases h4 : 0 ≤ n
          · by_cases h5 : n < 65536
            · by_cases h6 : 0 ≤ v
              · by_cases h7 : v < 281474976710656
                · have HR : Hid (rOk k s n v = true) := Lib.hid (by unfold rOk; rw [decide_eq_true_eq]; exact ⟨h0, h1, h2, h3, h4, h5, h6, h7⟩)
                  go_enter Try.func15, Try.ntmps15
                  go_wp2_with (first
                    | ((with_reducible refine wpBoxK V 49 ?_ ?_); rfl; intro u1 r1 b1 s1; have B1 := Lib.hid b1; have c0 : u1.cell? ⟨w.heap.size, 0, none⟩ = some (.int .i64 k) := (r1.cell 0).trans H0.out; have c1 : u1.cell? ⟨w.heap.size, 1, none⟩ = some (.int .i64 s) := (r1.cell 1).trans H1.out; have c2 : u1.cell? ⟨w.heap.size, 2, none⟩ = some (.int .i64 n) := (r1.cell 2).trans H2.out; have c3 : u1.cell? ⟨w.heap.size, 3, none⟩ = some (.int .i64 v) := (r1.cell 3).trans H3.out; clear r1 b1 s1))
                  go_ret
                  exact ⟨ret_bool HR.out.symm, B1.out⟩
                · have HR : Hid (rOk k s n v = false) := Lib.hid (by unfold rOk; rw [decide_eq_false_iff_not]; omega)
                  go_enter Try.func15, Try.ntmps15
                  go_wp2_with (first
                    | ((with_reducible refine wpBoxK V 49 ?_ ?_); rfl; intro u1 r1 b1 s1; have B1 := Lib.hid b1; have c0 : u1.cell? ⟨w.heap.size, 0, none⟩ = some (.int .i64 k) := (r1.cell 0).trans H0.out; have c1 : u1.cell? ⟨w.heap.size, 1, none⟩ = some (.int .i64 s) := (r1.cell 1).trans H1.out; have c2 : u1.cell? ⟨w.heap.size, 2, none⟩ = some (.int .i64 n) := (r1.cell 2).trans H2.out; have c3 : u1.cell? ⟨w.heap.size, 3, none⟩ = some (.int .i64 v) := (r1.cell 3).trans H3.out; clear r1 b1 s1))
                  go_ret
                  exact ⟨ret_bool HR.out.symm, B1.out⟩
              · have HR : Hid (rOk k s n v = false) := Lib.hid (by unfold rOk; rw [decide_eq_false_iff_not]; omega)
                go_enter Try.func15, Try.ntmps15
                go_wp2_with (first
                  | ((with_reducible refine wpBoxK V 49 ?_ ?_); rfl; intro u1 r1 b1 s1; have B1 := Lib.hid b1; have c0 : u1.cell? ⟨w.heap.size, 0, none⟩ = some (.int .i64 k) := (r1.cell 0).trans H0.out; have c1 : u1.cell? ⟨w.heap.size, 1, none⟩ = some (.int .i64 s) := (r1.cell 1).trans H1.out; have c2 : u1.cell? ⟨w.heap.size, 2, none⟩ = some (.int .i64 n) := (r1.cell 2).trans H2.out; have c3 : u1.cell? ⟨w.heap.size, 3, none⟩ = some (.int .i64 v) := (r1.cell 3).trans H3.out; clear r1 b1 s1))
                go_ret
                exact ⟨ret_bool HR.out.symm, B1.out⟩
            · have HR : Hid (rOk k s n v = false) := Lib.hid (by unfold rOk; rw [decide_eq_false_iff_not]; omega)
              go_enter Try.func15, Try.ntmps15
              go_wp2_with (first
                | ((with_reducible refine wpBoxK V 49 ?_ ?_); rfl; intro u1 r1 b1 s1; have B1 := Lib.hid b1; have c0 : u1.cell? ⟨w.heap.size, 0, none⟩ = some (.int .i64 k) := (r1.cell 0).trans H0.out; have c1 : u1.cell? ⟨w.heap.size, 1, none⟩ = some (.int .i64 s) := (r1.cell 1).trans H1.out; have c2 : u1.cell? ⟨w.heap.size, 2, none⟩ = some (.int .i64 n) := (r1.cell 2).trans H2.out; have c3 : u1.cell? ⟨w.heap.size, 3, none⟩ = some (.int .i64 v) := (r1.cell 3).trans H3.out; clear r1 b1 s1))
              go_ret
              exact ⟨ret_bool HR.out.symm, B1.out⟩
          · have HR : Hid (rOk k s n v = false) := Lib.hid (by unfold rOk; rw [decide_eq_false_iff_not]; omega)
            go_enter Try.func15, Try.ntmps15
            go_wp2_with (first
              | ((with_reducible refine wpBoxK V 49 ?_ ?_); rfl; intro u1 r1 b1 s1; have B1 := Lib.hid b1; have c0 : u1.cell? ⟨w.heap.size, 0, none⟩ = some (.int .i64 k) := (r1.cell 0).trans H0.out; have c1 : u1.cell? ⟨w.heap.size, 1, none⟩ = some (.int .i64 s) := (r1.cell 1).trans H1.out; have c2 : u1.cell? ⟨w.heap.size, 2, none⟩ = some (.int .i64 n) := (r1.cell 2).trans H2.out; have c3 : u1.cell? ⟨w.heap.size, 3, none⟩ = some (.int .i64 v) := (r1.cell 3).trans H3.out; clear r1 b1 s1))
            go_ret
            exact ⟨ret_bool HR.out.symm, B1.out⟩
        · have HR : Hid (rOk k s n v = false) := Lib.hid (by unfold rOk; rw [decide_eq_false_iff_not]; omega)
          go_enter Try.func15, Try.ntmps15
          go_wp2_with (first
            | ((with_reducible refine wpBoxK V 49 ?_ ?_); rfl; intro u1 r1 b1 s1; have B1 := Lib.hid b1; have c0 : u1.cell? ⟨w.heap.size, 0, none⟩ = some (.int .i64 k) := (r1.cell 0).trans H0.out; have c1 : u1.cell? ⟨w.heap.size, 1, none⟩ = some (.int .i64 s) := (r1.cell 1).trans H1.out; have c2 : u1.cell? ⟨w.heap.size, 2, none⟩ = some (.int .i64 n) := (r1.cell 2).trans H2.out; have c3 : u1.cell? ⟨w.heap.size, 3, none⟩ = some (.int .i64 v) := (r1.cell 3).trans H3.out; clear r1 b1 s1))
          go_ret
          exact ⟨ret_bool HR.out.symm, B1.out⟩
      · have HR : Hid (rOk k s n v = false) := Lib.hid (by unfold rOk; rw [decide_eq_false_iff_not]; omega)
        go_enter Try.func15, Try.ntmps15
        go_wp2_with (first
          | ((with_reducible refine wpBoxK V 49 ?_ ?_); rfl; intro u1 r1 b1 s1; have B1 := Lib.hid b1; have c0 : u1.cell? ⟨w.heap.size, 0, none⟩ = some (.int .i64 k) := (r1.cell 0).trans H0.out; have c1 : u1.cell? ⟨w.heap.size, 1, none⟩ = some (.int .i64 s) := (r1.cell 1).trans H1.out; have c2 : u1.cell? ⟨w.heap.size, 2, none⟩ = some (.int .i64 n) := (r1.cell 2).trans H2.out; have c3 : u1.cell? ⟨w.heap.size, 3, none⟩ = some (.int .i64 v) := (r1.cell 3).trans H3.out; clear r1 b1 s1))
        go_ret
        exact ⟨ret_bool HR.out.symm, B1.out⟩
    · have HR : Hid (rOk k s n v = false) := Lib.hid (by unfold rOk; rw [decide_eq_false_iff_not]; omega)
      go_enter Try.func15, Try.ntmps15
      go_wp2_with (first
        | ((with_reducible refine wpBoxK V 49 ?_ ?_); rfl; intro u1 r1 b1 s1; have B1 := Lib.hid b1; have c0 : u1.cell? ⟨w.heap.size, 0, none⟩ = some (.int .i64 k) := (r1.cell 0).trans H0.out; have c1 : u1.cell? ⟨w.heap.size, 1, none⟩ = some (.int .i64 s) := (r1.cell 1).trans H1.out; have c2 : u1.cell? ⟨w.heap.size, 2, none⟩ = some (.int .i64 n) := (r1.cell 2).trans H2.out; have c3 : u1.cell? ⟨w.heap.size, 3, none⟩ = some (.int .i64 v) := (r1.cell 3).trans H3.out; clear r1 b1 s1))
      go_ret
      exact ⟨ret_bool HR.out.symm, B1.out⟩
  · have HR : Hid (rOk k s n v = false) := Lib.hid (by unfold rOk; rw [decide_eq_false_iff_not]; omega)
    go_enter Try.func15, Try.ntmps15
    go_wp2_with (first
      | ((with_reducible refine wpBoxK V 49 ?_ ?_); rfl; intro u1 r1 b1 s1; have B1 := Lib.hid b1; have c0 : u1.cell? ⟨w.heap.size, 0, none⟩ = some (.int .i64 k) := (r1.cell 0).trans H0.out; have c1 : u1.cell? ⟨w.heap.size, 1, none⟩ = some (.int .i64 s) := (r1.cell 1).trans H1.out; have c2 : u1.cell? ⟨w.heap.size, 2, none⟩ = some (.int .i64 n) := (r1.cell 2).trans H2.out; have c3 : u1.cell? ⟨w.heap.size, 3, none⟩ = some (.int .i64 v) := (r1.cell 3).trans H3.out; clear r1 b1 s1))
    go_ret
    exact ⟨ret_bool HR.out.symm, B1.out⟩

end Go.Proofs.Ytbpdnaiackfdmaa
