/- The statement's of: what Of answers is what the list has there. -/
import Derived.Test.YtiakbdekleaaoaaGeoI
namespace Go.Proofs.Ytiakbdekleaaoaa
open Go.RowKit GeoMath
set_option linter.unusedVariables false
set_option maxRecDepth 100000

theorem built_place0 : Try.prog.built 45 [] = some [Value.int .i64 0, .int .i64 0, .int .i64 0, .int .i64 0].toArray := by kernel_rfl
set_option maxHeartbeats 1000000 in
theorem lof_out (at_ : Int) (a : Option Addr) (cap n : Nat) (w : World) (hn : n ≤ 400) (h : at_ < 0 ∨ (n : Int) ≤ at_) :
    Calls Try.prog 22 #[.int .i64 at_, .slice a n cap, .agg #[.int .i64 0, .int .i64 0, .int .i64 0, .int .i64 0], .bool false] w fun e w' => e = .returned (.bool true) ∧ Below w.heap.size w w' := by
  have h' : at_ < 0 ∨ (¬ at_ < 0 ∧ (n : Int) ≤ at_) := by omega
  clear h
  rcases h' with h | ⟨h, h2⟩
  all_goals
    go_enter Try.func22, Try.ntmps22
    go_wp2_with ((with_reducible refine wpBoxK [Value.int .i64 0, .int .i64 0, .int .i64 0, .int .i64 0] 45 ?_ ?_); rfl; intro w1 r1 b1 s1; have c0 := r1.cell 0; have c1 := r1.cell 1; have c2 := r1.cell 2; have c3 := r1.cell 3; have B1 := Lib.hid b1; clear r1 b1 s1)
    go_ret
    exact ⟨rfl, B1.out⟩
set_option maxHeartbeats 1000000 in
theorem lof_else (k : Nat) (bl off cap n : Nat) (xw : Int) (w : World) (hn : n ≤ 400) (hk : k < n) (hb : bl < w.heap.size) (hc : w.cell? ⟨bl, off + k * 4, none⟩ = some (.int .i64 xw)) (hx : ¬ xw = 0) :
    Calls Try.prog 22 #[.int .i64 (k : Int), .slice (some ⟨bl, off, none⟩) n cap, .agg #[.int .i64 0, .int .i64 0, .int .i64 0, .int .i64 0], .bool false] w fun e w' => e = .returned (.bool true) ∧ Below w.heap.size w w' := by
  have h1 : ¬ (k : Int) < 0 := by omega
  have h2 : ¬ (n : Int) ≤ (k : Int) := by omega
  have h3 : (k : Int) < (n : Int) := by omega
  have hx1 : (xw == 0) = false := beq_false_of_ne hx
  have hx2 : (xw != 0) = true := by rw [bne, hx1]; rfl
  have HB := Lib.hid hb
  have HC := Lib.hid hc
  clear hb hc
  go_enter Try.func22, Try.ntmps22
  go_wp2_with ((with_reducible refine wpBoxK [Value.int .i64 0, .int .i64 0, .int .i64 0, .int .i64 0] 45 ?_ ?_); rfl; intro w1 r1 b1 s1; have c0 := r1.cell 0; have c1 := r1.cell 1; have c2 := r1.cell 2; have c3 := r1.cell 3; have hq : w1.cell? ⟨bl, off + k * 4, none⟩ = some (.int .i64 xw) := (b1.cell (p := ⟨bl, off + k * 4, none⟩) HB.out).trans HC.out; have B1 := Lib.hid b1; clear r1 b1 s1)
  go_ret
  exact ⟨rfl, B1.out⟩
set_option maxHeartbeats 1000000 in
theorem lof_in (k : Nat) (bl off cap n : Nat) (xa xb xc : Int) (w : World) (hn : n ≤ 400) (hk : k < n) (hb : bl < w.heap.size) (hc : w.rangeAt bl (off + k * 4) [.int .i64 0, .int .i64 xa, .int .i64 xb, .int .i64 xc]) :
    Calls Try.prog 22 #[.int .i64 (k : Int), .slice (some ⟨bl, off, none⟩) n cap, .agg #[.int .i64 0, .int .i64 xa, .int .i64 xb, .int .i64 xc], .bool true] w fun e w' => e = .returned (.bool true) ∧ Below w.heap.size w w' := by
  have h1 : ¬ (k : Int) < 0 := by omega
  have h2 : ¬ (n : Int) ≤ (k : Int) := by omega
  have h3 : (k : Int) < (n : Int) := by omega
  have HB := Lib.hid hb
  have HC := Lib.hid hc
  clear hb hc
  go_enter Try.func22, Try.ntmps22
  go_wp2_with ((with_reducible refine wpBoxK [Value.int .i64 0, .int .i64 xa, .int .i64 xb, .int .i64 xc] 45 ?_ ?_); rfl; intro w1 r1 b1 s1; have c0 := r1.cell 0; have c1 := r1.cell 1; have c2 := r1.cell 2; have c3 := r1.cell 3; have hr : w1.rangeAt bl (off + k * 4) [.int .i64 0, .int .i64 xa, .int .i64 xb, .int .i64 xc] := fun j v hj => (b1.cell (p := ⟨bl, off + k * 4 + j, none⟩) HB.out).trans (HC.out j v hj); have q0 : w1.cell? ⟨bl, off + k * 4, none⟩ = some (.int .i64 0) := hr 0 _ rfl; have q1 := hr 1 _ rfl; have q2 := hr 2 _ rfl; have q3 := hr 3 _ rfl; have B1 := Lib.hid b1; clear r1 b1 s1 hr)
  go_quiet (fail)
  go_wp2
  go_ret
  exact ⟨rfl, B1.out.drewN _⟩
end Go.Proofs.Ytiakbdekleaaoaa
