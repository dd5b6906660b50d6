/- Right: of the program, of the document (gen_head_a.py). -/
import Derived.Test.YtbcilifdgpfmnaaDoorHeadMath
import Derived.Test.YtbcilifdgpfmnaaDoorRow
import Derived.Test.YtbcilifdgpfmnaaDoorShaE
import Derived.Test.YtbcilifdgpfmnaaDoorEq
import Derived.Test.YtbcilifdgpfmnaaDoorRefNum
namespace Go.Proofs.YtbcilifdgpfmnaaDoor
open Go.RowKit HeadMath NumMath
set_option linter.unusedVariables false
set_option maxRecDepth 100000

/-- A head's cells. -/
def hdv (a b c n : Int) (H : List UInt8) : List Value := [.int .i64 a, .int .i64 b, .int .i64 c, .int .i64 n] ++ bytes H
theorem hdv_length (a b c n : Int) (H : List UInt8) (h : H.length = 32) : (hdv a b c n H).length = 36 := by simp [hdv, bytes_length, h]
theorem hdv_one (a b c n : Int) (H : List UInt8) : (hdv a b c n H).all (·.oneCell') = true := by
  simp [hdv, bytes, Value.oneCell']
theorem fits_head : Fits Tryd.prog 27 36 := ⟨⟨_, Tryd.underlying27, rfl⟩, by kernel_rfl⟩
theorem fits_rhead : Fits Tryd.prog 29 36 := ⟨⟨_, Tryd.underlying29, rfl⟩, by kernel_rfl⟩
theorem hd_size_int : ∀ w, (sizeOf 3).run Tryd.prog w = .ok 1 w := fun w => by kernel_rfl
theorem hd_agg_int : ∀ w, (isAgg 3).run Tryd.prog w = .ok false w := fun w => by kernel_rfl
theorem ver_index (a b c : Int) (k : Nat) (v : Value) (w : World) (h : k < 3) (hv : (#[Value.int .i64 a, .int .i64 b, .int .i64 c] : Array Value)[k]? = some v) :
    (Instr.index 23 (.agg #[.int .i64 a, .int .i64 b, .int .i64 c]) (.int .i64 (k : Int))).run Tryd.prog w = .ok v w :=
  run_index_array (P := Tryd.prog) 23 3 3 .i64 #[.int .i64 a, .int .i64 b, .int .i64 c] k v w Tryd.underlying23 hd_size_int hd_agg_int h hv
theorem fits_ver : Fits Tryd.prog 23 3 := ⟨⟨_, Tryd.underlying23, rfl⟩, by kernel_rfl⟩

set_option maxHeartbeats 4000000 in
theorem head_right_any (a b c n : Int) (H : List UInt8) (w : World) :
    Calls Tryd.prog 8 #[.agg (hdv a b c n H).toArray] w fun e w' => e = .returned (.bool (hOk a b c n)) ∧ Below w.heap.size w w' := by
  by_cases h0 : a < 0
  · go_enter Tryd.func8, Tryd.ntmps8
    go_wp2_with (first | ((with_reducible refine wpBoxK (hdv a b c n H) 27 ?_ ?_); rfl; intro u1 r1 b1 s1; have R1 := Lib.hid r1; have B1 := Lib.hid b1; have c0 : u1.cell? ⟨w.heap.size, 0, none⟩ = some (.int .i64 a) := r1.cell 0; have c1 : u1.cell? ⟨w.heap.size, 1, none⟩ = some (.int .i64 b) := r1.cell 1; have c2 : u1.cell? ⟨w.heap.size, 2, none⟩ = some (.int .i64 c) := r1.cell 2; have c3 : u1.cell? ⟨w.heap.size, 3, none⟩ = some (.int .i64 n) := r1.cell 3; have i0 : (Instr.index 23 (.agg #[.int .i64 a, .int .i64 b, .int .i64 c]) (.int .i64 0)).run Tryd.prog u1 = .ok (.int .i64 a) u1 := ver_index a b c 0 _ u1 (by decide) rfl; have i1 : (Instr.index 23 (.agg #[.int .i64 a, .int .i64 b, .int .i64 c]) (.int .i64 1)).run Tryd.prog u1 = .ok (.int .i64 b) u1 := ver_index a b c 1 _ u1 (by decide) rfl; have i2 : (Instr.index 23 (.agg #[.int .i64 a, .int .i64 b, .int .i64 c]) (.int .i64 2)).run Tryd.prog u1 = .ok (.int .i64 c) u1 := ver_index a b c 2 _ u1 (by decide) rfl; have hbs : w.heap.size < u1.heap.size := r1.lt; clear r1 b1 s1) | ((with_reducible refine (show Row u1 w.heap.size 27 ([] ++ [Value.int .i64 a, .int .i64 b, .int .i64 c] ++ (.int .i64 n :: bytes H)) from R1.out).wpLoadMidK 0 rfl 23 fits_ver rfl ?_ ?_); rfl))
    refine wp_loop_rounds 1 ?_
    rw [rounds_succ]
    go_wp2
    go_ret
    exact ⟨ret_bool (by first | exact (hOk_not (by omega)).symm | (rw [show hOk a b c n = false from hOk_not (by omega)]; simp; omega)), B1.out⟩
  by_cases g0 : 65535 < a
  · go_enter Tryd.func8, Tryd.ntmps8
    go_wp2_with (first | ((with_reducible refine wpBoxK (hdv a b c n H) 27 ?_ ?_); rfl; intro u1 r1 b1 s1; have R1 := Lib.hid r1; have B1 := Lib.hid b1; have c0 : u1.cell? ⟨w.heap.size, 0, none⟩ = some (.int .i64 a) := r1.cell 0; have c1 : u1.cell? ⟨w.heap.size, 1, none⟩ = some (.int .i64 b) := r1.cell 1; have c2 : u1.cell? ⟨w.heap.size, 2, none⟩ = some (.int .i64 c) := r1.cell 2; have c3 : u1.cell? ⟨w.heap.size, 3, none⟩ = some (.int .i64 n) := r1.cell 3; have i0 : (Instr.index 23 (.agg #[.int .i64 a, .int .i64 b, .int .i64 c]) (.int .i64 0)).run Tryd.prog u1 = .ok (.int .i64 a) u1 := ver_index a b c 0 _ u1 (by decide) rfl; have i1 : (Instr.index 23 (.agg #[.int .i64 a, .int .i64 b, .int .i64 c]) (.int .i64 1)).run Tryd.prog u1 = .ok (.int .i64 b) u1 := ver_index a b c 1 _ u1 (by decide) rfl; have i2 : (Instr.index 23 (.agg #[.int .i64 a, .int .i64 b, .int .i64 c]) (.int .i64 2)).run Tryd.prog u1 = .ok (.int .i64 c) u1 := ver_index a b c 2 _ u1 (by decide) rfl; have hbs : w.heap.size < u1.heap.size := r1.lt; clear r1 b1 s1) | ((with_reducible refine (show Row u1 w.heap.size 27 ([] ++ [Value.int .i64 a, .int .i64 b, .int .i64 c] ++ (.int .i64 n :: bytes H)) from R1.out).wpLoadMidK 0 rfl 23 fits_ver rfl ?_ ?_); rfl))
    refine wp_loop_rounds 1 ?_
    rw [rounds_succ]
    go_wp2
    go_ret
    exact ⟨ret_bool (by first | exact (hOk_not (by omega)).symm | (rw [show hOk a b c n = false from hOk_not (by omega)]; simp; omega)), B1.out⟩
  by_cases h1 : b < 0
  · go_enter Tryd.func8, Tryd.ntmps8
    go_wp2_with (first | ((with_reducible refine wpBoxK (hdv a b c n H) 27 ?_ ?_); rfl; intro u1 r1 b1 s1; have R1 := Lib.hid r1; have B1 := Lib.hid b1; have c0 : u1.cell? ⟨w.heap.size, 0, none⟩ = some (.int .i64 a) := r1.cell 0; have c1 : u1.cell? ⟨w.heap.size, 1, none⟩ = some (.int .i64 b) := r1.cell 1; have c2 : u1.cell? ⟨w.heap.size, 2, none⟩ = some (.int .i64 c) := r1.cell 2; have c3 : u1.cell? ⟨w.heap.size, 3, none⟩ = some (.int .i64 n) := r1.cell 3; have i0 : (Instr.index 23 (.agg #[.int .i64 a, .int .i64 b, .int .i64 c]) (.int .i64 0)).run Tryd.prog u1 = .ok (.int .i64 a) u1 := ver_index a b c 0 _ u1 (by decide) rfl; have i1 : (Instr.index 23 (.agg #[.int .i64 a, .int .i64 b, .int .i64 c]) (.int .i64 1)).run Tryd.prog u1 = .ok (.int .i64 b) u1 := ver_index a b c 1 _ u1 (by decide) rfl; have i2 : (Instr.index 23 (.agg #[.int .i64 a, .int .i64 b, .int .i64 c]) (.int .i64 2)).run Tryd.prog u1 = .ok (.int .i64 c) u1 := ver_index a b c 2 _ u1 (by decide) rfl; have hbs : w.heap.size < u1.heap.size := r1.lt; clear r1 b1 s1) | ((with_reducible refine (show Row u1 w.heap.size 27 ([] ++ [Value.int .i64 a, .int .i64 b, .int .i64 c] ++ (.int .i64 n :: bytes H)) from R1.out).wpLoadMidK 0 rfl 23 fits_ver rfl ?_ ?_); rfl))
    refine wp_loop_rounds 2 ?_
    rw [rounds_succ]
    go_wp2
    rw [rounds_succ]
    go_wp2
    go_ret
    exact ⟨ret_bool (by first | exact (hOk_not (by omega)).symm | (rw [show hOk a b c n = false from hOk_not (by omega)]; simp; omega)), B1.out⟩
  by_cases g1 : 65535 < b
  · go_enter Tryd.func8, Tryd.ntmps8
    go_wp2_with (first | ((with_reducible refine wpBoxK (hdv a b c n H) 27 ?_ ?_); rfl; intro u1 r1 b1 s1; have R1 := Lib.hid r1; have B1 := Lib.hid b1; have c0 : u1.cell? ⟨w.heap.size, 0, none⟩ = some (.int .i64 a) := r1.cell 0; have c1 : u1.cell? ⟨w.heap.size, 1, none⟩ = some (.int .i64 b) := r1.cell 1; have c2 : u1.cell? ⟨w.heap.size, 2, none⟩ = some (.int .i64 c) := r1.cell 2; have c3 : u1.cell? ⟨w.heap.size, 3, none⟩ = some (.int .i64 n) := r1.cell 3; have i0 : (Instr.index 23 (.agg #[.int .i64 a, .int .i64 b, .int .i64 c]) (.int .i64 0)).run Tryd.prog u1 = .ok (.int .i64 a) u1 := ver_index a b c 0 _ u1 (by decide) rfl; have i1 : (Instr.index 23 (.agg #[.int .i64 a, .int .i64 b, .int .i64 c]) (.int .i64 1)).run Tryd.prog u1 = .ok (.int .i64 b) u1 := ver_index a b c 1 _ u1 (by decide) rfl; have i2 : (Instr.index 23 (.agg #[.int .i64 a, .int .i64 b, .int .i64 c]) (.int .i64 2)).run Tryd.prog u1 = .ok (.int .i64 c) u1 := ver_index a b c 2 _ u1 (by decide) rfl; have hbs : w.heap.size < u1.heap.size := r1.lt; clear r1 b1 s1) | ((with_reducible refine (show Row u1 w.heap.size 27 ([] ++ [Value.int .i64 a, .int .i64 b, .int .i64 c] ++ (.int .i64 n :: bytes H)) from R1.out).wpLoadMidK 0 rfl 23 fits_ver rfl ?_ ?_); rfl))
    refine wp_loop_rounds 2 ?_
    rw [rounds_succ]
    go_wp2
    rw [rounds_succ]
    go_wp2
    go_ret
    exact ⟨ret_bool (by first | exact (hOk_not (by omega)).symm | (rw [show hOk a b c n = false from hOk_not (by omega)]; simp; omega)), B1.out⟩
  by_cases h2 : c < 0
  · go_enter Tryd.func8, Tryd.ntmps8
    go_wp2_with (first | ((with_reducible refine wpBoxK (hdv a b c n H) 27 ?_ ?_); rfl; intro u1 r1 b1 s1; have R1 := Lib.hid r1; have B1 := Lib.hid b1; have c0 : u1.cell? ⟨w.heap.size, 0, none⟩ = some (.int .i64 a) := r1.cell 0; have c1 : u1.cell? ⟨w.heap.size, 1, none⟩ = some (.int .i64 b) := r1.cell 1; have c2 : u1.cell? ⟨w.heap.size, 2, none⟩ = some (.int .i64 c) := r1.cell 2; have c3 : u1.cell? ⟨w.heap.size, 3, none⟩ = some (.int .i64 n) := r1.cell 3; have i0 : (Instr.index 23 (.agg #[.int .i64 a, .int .i64 b, .int .i64 c]) (.int .i64 0)).run Tryd.prog u1 = .ok (.int .i64 a) u1 := ver_index a b c 0 _ u1 (by decide) rfl; have i1 : (Instr.index 23 (.agg #[.int .i64 a, .int .i64 b, .int .i64 c]) (.int .i64 1)).run Tryd.prog u1 = .ok (.int .i64 b) u1 := ver_index a b c 1 _ u1 (by decide) rfl; have i2 : (Instr.index 23 (.agg #[.int .i64 a, .int .i64 b, .int .i64 c]) (.int .i64 2)).run Tryd.prog u1 = .ok (.int .i64 c) u1 := ver_index a b c 2 _ u1 (by decide) rfl; have hbs : w.heap.size < u1.heap.size := r1.lt; clear r1 b1 s1) | ((with_reducible refine (show Row u1 w.heap.size 27 ([] ++ [Value.int .i64 a, .int .i64 b, .int .i64 c] ++ (.int .i64 n :: bytes H)) from R1.out).wpLoadMidK 0 rfl 23 fits_ver rfl ?_ ?_); rfl))
    refine wp_loop_rounds 3 ?_
    rw [rounds_succ]
    go_wp2
    rw [rounds_succ]
    go_wp2
    rw [rounds_succ]
    go_wp2
    go_ret
    exact ⟨ret_bool (by first | exact (hOk_not (by omega)).symm | (rw [show hOk a b c n = false from hOk_not (by omega)]; simp; omega)), B1.out⟩
  by_cases g2 : 65535 < c
  · go_enter Tryd.func8, Tryd.ntmps8
    go_wp2_with (first | ((with_reducible refine wpBoxK (hdv a b c n H) 27 ?_ ?_); rfl; intro u1 r1 b1 s1; have R1 := Lib.hid r1; have B1 := Lib.hid b1; have c0 : u1.cell? ⟨w.heap.size, 0, none⟩ = some (.int .i64 a) := r1.cell 0; have c1 : u1.cell? ⟨w.heap.size, 1, none⟩ = some (.int .i64 b) := r1.cell 1; have c2 : u1.cell? ⟨w.heap.size, 2, none⟩ = some (.int .i64 c) := r1.cell 2; have c3 : u1.cell? ⟨w.heap.size, 3, none⟩ = some (.int .i64 n) := r1.cell 3; have i0 : (Instr.index 23 (.agg #[.int .i64 a, .int .i64 b, .int .i64 c]) (.int .i64 0)).run Tryd.prog u1 = .ok (.int .i64 a) u1 := ver_index a b c 0 _ u1 (by decide) rfl; have i1 : (Instr.index 23 (.agg #[.int .i64 a, .int .i64 b, .int .i64 c]) (.int .i64 1)).run Tryd.prog u1 = .ok (.int .i64 b) u1 := ver_index a b c 1 _ u1 (by decide) rfl; have i2 : (Instr.index 23 (.agg #[.int .i64 a, .int .i64 b, .int .i64 c]) (.int .i64 2)).run Tryd.prog u1 = .ok (.int .i64 c) u1 := ver_index a b c 2 _ u1 (by decide) rfl; have hbs : w.heap.size < u1.heap.size := r1.lt; clear r1 b1 s1) | ((with_reducible refine (show Row u1 w.heap.size 27 ([] ++ [Value.int .i64 a, .int .i64 b, .int .i64 c] ++ (.int .i64 n :: bytes H)) from R1.out).wpLoadMidK 0 rfl 23 fits_ver rfl ?_ ?_); rfl))
    refine wp_loop_rounds 3 ?_
    rw [rounds_succ]
    go_wp2
    rw [rounds_succ]
    go_wp2
    rw [rounds_succ]
    go_wp2
    go_ret
    exact ⟨ret_bool (by first | exact (hOk_not (by omega)).symm | (rw [show hOk a b c n = false from hOk_not (by omega)]; simp; omega)), B1.out⟩
  by_cases h3 : n < 0
  · go_enter Tryd.func8, Tryd.ntmps8
    go_wp2_with (first | ((with_reducible refine wpBoxK (hdv a b c n H) 27 ?_ ?_); rfl; intro u1 r1 b1 s1; have R1 := Lib.hid r1; have B1 := Lib.hid b1; have c0 : u1.cell? ⟨w.heap.size, 0, none⟩ = some (.int .i64 a) := r1.cell 0; have c1 : u1.cell? ⟨w.heap.size, 1, none⟩ = some (.int .i64 b) := r1.cell 1; have c2 : u1.cell? ⟨w.heap.size, 2, none⟩ = some (.int .i64 c) := r1.cell 2; have c3 : u1.cell? ⟨w.heap.size, 3, none⟩ = some (.int .i64 n) := r1.cell 3; have i0 : (Instr.index 23 (.agg #[.int .i64 a, .int .i64 b, .int .i64 c]) (.int .i64 0)).run Tryd.prog u1 = .ok (.int .i64 a) u1 := ver_index a b c 0 _ u1 (by decide) rfl; have i1 : (Instr.index 23 (.agg #[.int .i64 a, .int .i64 b, .int .i64 c]) (.int .i64 1)).run Tryd.prog u1 = .ok (.int .i64 b) u1 := ver_index a b c 1 _ u1 (by decide) rfl; have i2 : (Instr.index 23 (.agg #[.int .i64 a, .int .i64 b, .int .i64 c]) (.int .i64 2)).run Tryd.prog u1 = .ok (.int .i64 c) u1 := ver_index a b c 2 _ u1 (by decide) rfl; have hbs : w.heap.size < u1.heap.size := r1.lt; clear r1 b1 s1) | ((with_reducible refine (show Row u1 w.heap.size 27 ([] ++ [Value.int .i64 a, .int .i64 b, .int .i64 c] ++ (.int .i64 n :: bytes H)) from R1.out).wpLoadMidK 0 rfl 23 fits_ver rfl ?_ ?_); rfl))
    refine wp_loop_rounds 4 ?_
    rw [rounds_succ]
    go_wp2
    rw [rounds_succ]
    go_wp2
    rw [rounds_succ]
    go_wp2
    rw [rounds_succ]
    go_wp2
    go_ret
    exact ⟨ret_bool (by first | exact (hOk_not (by omega)).symm | (rw [show hOk a b c n = false from hOk_not (by omega)]; simp; omega)), B1.out⟩
  by_cases g3 : 16777215 < n
  · go_enter Tryd.func8, Tryd.ntmps8
    go_wp2_with (first | ((with_reducible refine wpBoxK (hdv a b c n H) 27 ?_ ?_); rfl; intro u1 r1 b1 s1; have R1 := Lib.hid r1; have B1 := Lib.hid b1; have c0 : u1.cell? ⟨w.heap.size, 0, none⟩ = some (.int .i64 a) := r1.cell 0; have c1 : u1.cell? ⟨w.heap.size, 1, none⟩ = some (.int .i64 b) := r1.cell 1; have c2 : u1.cell? ⟨w.heap.size, 2, none⟩ = some (.int .i64 c) := r1.cell 2; have c3 : u1.cell? ⟨w.heap.size, 3, none⟩ = some (.int .i64 n) := r1.cell 3; have i0 : (Instr.index 23 (.agg #[.int .i64 a, .int .i64 b, .int .i64 c]) (.int .i64 0)).run Tryd.prog u1 = .ok (.int .i64 a) u1 := ver_index a b c 0 _ u1 (by decide) rfl; have i1 : (Instr.index 23 (.agg #[.int .i64 a, .int .i64 b, .int .i64 c]) (.int .i64 1)).run Tryd.prog u1 = .ok (.int .i64 b) u1 := ver_index a b c 1 _ u1 (by decide) rfl; have i2 : (Instr.index 23 (.agg #[.int .i64 a, .int .i64 b, .int .i64 c]) (.int .i64 2)).run Tryd.prog u1 = .ok (.int .i64 c) u1 := ver_index a b c 2 _ u1 (by decide) rfl; have hbs : w.heap.size < u1.heap.size := r1.lt; clear r1 b1 s1) | ((with_reducible refine (show Row u1 w.heap.size 27 ([] ++ [Value.int .i64 a, .int .i64 b, .int .i64 c] ++ (.int .i64 n :: bytes H)) from R1.out).wpLoadMidK 0 rfl 23 fits_ver rfl ?_ ?_); rfl))
    refine wp_loop_rounds 4 ?_
    rw [rounds_succ]
    go_wp2
    rw [rounds_succ]
    go_wp2
    rw [rounds_succ]
    go_wp2
    rw [rounds_succ]
    go_wp2
    go_ret
    exact ⟨ret_bool (by first | exact (hOk_not (by omega)).symm | (rw [show hOk a b c n = false from hOk_not (by omega)]; simp; omega)), B1.out⟩
  go_enter Tryd.func8, Tryd.ntmps8
  go_wp2_with (first | ((with_reducible refine wpBoxK (hdv a b c n H) 27 ?_ ?_); rfl; intro u1 r1 b1 s1; have R1 := Lib.hid r1; have B1 := Lib.hid b1; have c0 : u1.cell? ⟨w.heap.size, 0, none⟩ = some (.int .i64 a) := r1.cell 0; have c1 : u1.cell? ⟨w.heap.size, 1, none⟩ = some (.int .i64 b) := r1.cell 1; have c2 : u1.cell? ⟨w.heap.size, 2, none⟩ = some (.int .i64 c) := r1.cell 2; have c3 : u1.cell? ⟨w.heap.size, 3, none⟩ = some (.int .i64 n) := r1.cell 3; have i0 : (Instr.index 23 (.agg #[.int .i64 a, .int .i64 b, .int .i64 c]) (.int .i64 0)).run Tryd.prog u1 = .ok (.int .i64 a) u1 := ver_index a b c 0 _ u1 (by decide) rfl; have i1 : (Instr.index 23 (.agg #[.int .i64 a, .int .i64 b, .int .i64 c]) (.int .i64 1)).run Tryd.prog u1 = .ok (.int .i64 b) u1 := ver_index a b c 1 _ u1 (by decide) rfl; have i2 : (Instr.index 23 (.agg #[.int .i64 a, .int .i64 b, .int .i64 c]) (.int .i64 2)).run Tryd.prog u1 = .ok (.int .i64 c) u1 := ver_index a b c 2 _ u1 (by decide) rfl; have hbs : w.heap.size < u1.heap.size := r1.lt; clear r1 b1 s1) | ((with_reducible refine (show Row u1 w.heap.size 27 ([] ++ [Value.int .i64 a, .int .i64 b, .int .i64 c] ++ (.int .i64 n :: bytes H)) from R1.out).wpLoadMidK 0 rfl 23 fits_ver rfl ?_ ?_); rfl))
  refine wp_loop_rounds 4 ?_
  rw [rounds_succ]
  go_wp2
  rw [rounds_succ]
  go_wp2
  rw [rounds_succ]
  go_wp2
  rw [rounds_succ]
  go_wp2
  go_ret
  exact ⟨ret_bool (by first | exact (hOk_of (by omega)).symm | (rw [show hOk a b c n = true from hOk_of (by omega)]; simp; omega)), B1.out⟩

set_option maxHeartbeats 4000000 in
theorem rhead_right_any (a b c n : Int) (H : List UInt8) (w : World) :
    Calls Tryd.prog 7 #[.agg (hdv a b c n H).toArray] w fun e w' => e = .returned (.bool (hOk a b c n)) ∧ Below w.heap.size w w' := by
  by_cases h0 : a < 0
  · go_enter Tryd.func7, Tryd.ntmps7
    go_wp2_with (first | ((with_reducible refine wpBoxK (hdv a b c n H) 29 ?_ ?_); rfl; intro u1 r1 b1 s1; have R1 := Lib.hid r1; have B1 := Lib.hid b1; have c0 : u1.cell? ⟨w.heap.size, 0, none⟩ = some (.int .i64 a) := r1.cell 0; have c1 : u1.cell? ⟨w.heap.size, 1, none⟩ = some (.int .i64 b) := r1.cell 1; have c2 : u1.cell? ⟨w.heap.size, 2, none⟩ = some (.int .i64 c) := r1.cell 2; have c3 : u1.cell? ⟨w.heap.size, 3, none⟩ = some (.int .i64 n) := r1.cell 3; have i0 : (Instr.index 23 (.agg #[.int .i64 a, .int .i64 b, .int .i64 c]) (.int .i64 0)).run Tryd.prog u1 = .ok (.int .i64 a) u1 := ver_index a b c 0 _ u1 (by decide) rfl; have i1 : (Instr.index 23 (.agg #[.int .i64 a, .int .i64 b, .int .i64 c]) (.int .i64 1)).run Tryd.prog u1 = .ok (.int .i64 b) u1 := ver_index a b c 1 _ u1 (by decide) rfl; have i2 : (Instr.index 23 (.agg #[.int .i64 a, .int .i64 b, .int .i64 c]) (.int .i64 2)).run Tryd.prog u1 = .ok (.int .i64 c) u1 := ver_index a b c 2 _ u1 (by decide) rfl; have hbs : w.heap.size < u1.heap.size := r1.lt; clear r1 b1 s1) | ((with_reducible refine (show Row u1 w.heap.size 29 ([] ++ [Value.int .i64 a, .int .i64 b, .int .i64 c] ++ (.int .i64 n :: bytes H)) from R1.out).wpLoadMidK 0 rfl 23 fits_ver rfl ?_ ?_); rfl))
    refine wp_loop_rounds 1 ?_
    rw [rounds_succ]
    go_wp2
    go_ret
    exact ⟨ret_bool (by first | exact (hOk_not (by omega)).symm | (rw [show hOk a b c n = false from hOk_not (by omega)]; simp; omega)), B1.out⟩
  by_cases g0 : 65535 < a
  · go_enter Tryd.func7, Tryd.ntmps7
    go_wp2_with (first | ((with_reducible refine wpBoxK (hdv a b c n H) 29 ?_ ?_); rfl; intro u1 r1 b1 s1; have R1 := Lib.hid r1; have B1 := Lib.hid b1; have c0 : u1.cell? ⟨w.heap.size, 0, none⟩ = some (.int .i64 a) := r1.cell 0; have c1 : u1.cell? ⟨w.heap.size, 1, none⟩ = some (.int .i64 b) := r1.cell 1; have c2 : u1.cell? ⟨w.heap.size, 2, none⟩ = some (.int .i64 c) := r1.cell 2; have c3 : u1.cell? ⟨w.heap.size, 3, none⟩ = some (.int .i64 n) := r1.cell 3; have i0 : (Instr.index 23 (.agg #[.int .i64 a, .int .i64 b, .int .i64 c]) (.int .i64 0)).run Tryd.prog u1 = .ok (.int .i64 a) u1 := ver_index a b c 0 _ u1 (by decide) rfl; have i1 : (Instr.index 23 (.agg #[.int .i64 a, .int .i64 b, .int .i64 c]) (.int .i64 1)).run Tryd.prog u1 = .ok (.int .i64 b) u1 := ver_index a b c 1 _ u1 (by decide) rfl; have i2 : (Instr.index 23 (.agg #[.int .i64 a, .int .i64 b, .int .i64 c]) (.int .i64 2)).run Tryd.prog u1 = .ok (.int .i64 c) u1 := ver_index a b c 2 _ u1 (by decide) rfl; have hbs : w.heap.size < u1.heap.size := r1.lt; clear r1 b1 s1) | ((with_reducible refine (show Row u1 w.heap.size 29 ([] ++ [Value.int .i64 a, .int .i64 b, .int .i64 c] ++ (.int .i64 n :: bytes H)) from R1.out).wpLoadMidK 0 rfl 23 fits_ver rfl ?_ ?_); rfl))
    refine wp_loop_rounds 1 ?_
    rw [rounds_succ]
    go_wp2
    go_ret
    exact ⟨ret_bool (by first | exact (hOk_not (by omega)).symm | (rw [show hOk a b c n = false from hOk_not (by omega)]; simp; omega)), B1.out⟩
  by_cases h1 : b < 0
  · go_enter Tryd.func7, Tryd.ntmps7
    go_wp2_with (first | ((with_reducible refine wpBoxK (hdv a b c n H) 29 ?_ ?_); rfl; intro u1 r1 b1 s1; have R1 := Lib.hid r1; have B1 := Lib.hid b1; have c0 : u1.cell? ⟨w.heap.size, 0, none⟩ = some (.int .i64 a) := r1.cell 0; have c1 : u1.cell? ⟨w.heap.size, 1, none⟩ = some (.int .i64 b) := r1.cell 1; have c2 : u1.cell? ⟨w.heap.size, 2, none⟩ = some (.int .i64 c) := r1.cell 2; have c3 : u1.cell? ⟨w.heap.size, 3, none⟩ = some (.int .i64 n) := r1.cell 3; have i0 : (Instr.index 23 (.agg #[.int .i64 a, .int .i64 b, .int .i64 c]) (.int .i64 0)).run Tryd.prog u1 = .ok (.int .i64 a) u1 := ver_index a b c 0 _ u1 (by decide) rfl; have i1 : (Instr.index 23 (.agg #[.int .i64 a, .int .i64 b, .int .i64 c]) (.int .i64 1)).run Tryd.prog u1 = .ok (.int .i64 b) u1 := ver_index a b c 1 _ u1 (by decide) rfl; have i2 : (Instr.index 23 (.agg #[.int .i64 a, .int .i64 b, .int .i64 c]) (.int .i64 2)).run Tryd.prog u1 = .ok (.int .i64 c) u1 := ver_index a b c 2 _ u1 (by decide) rfl; have hbs : w.heap.size < u1.heap.size := r1.lt; clear r1 b1 s1) | ((with_reducible refine (show Row u1 w.heap.size 29 ([] ++ [Value.int .i64 a, .int .i64 b, .int .i64 c] ++ (.int .i64 n :: bytes H)) from R1.out).wpLoadMidK 0 rfl 23 fits_ver rfl ?_ ?_); rfl))
    refine wp_loop_rounds 2 ?_
    rw [rounds_succ]
    go_wp2
    rw [rounds_succ]
    go_wp2
    go_ret
    exact ⟨ret_bool (by first | exact (hOk_not (by omega)).symm | (rw [show hOk a b c n = false from hOk_not (by omega)]; simp; omega)), B1.out⟩
  by_cases g1 : 65535 < b
  · go_enter Tryd.func7, Tryd.ntmps7
    go_wp2_with (first | ((with_reducible refine wpBoxK (hdv a b c n H) 29 ?_ ?_); rfl; intro u1 r1 b1 s1; have R1 := Lib.hid r1; have B1 := Lib.hid b1; have c0 : u1.cell? ⟨w.heap.size, 0, none⟩ = some (.int .i64 a) := r1.cell 0; have c1 : u1.cell? ⟨w.heap.size, 1, none⟩ = some (.int .i64 b) := r1.cell 1; have c2 : u1.cell? ⟨w.heap.size, 2, none⟩ = some (.int .i64 c) := r1.cell 2; have c3 : u1.cell? ⟨w.heap.size, 3, none⟩ = some (.int .i64 n) := r1.cell 3; have i0 : (Instr.index 23 (.agg #[.int .i64 a, .int .i64 b, .int .i64 c]) (.int .i64 0)).run Tryd.prog u1 = .ok (.int .i64 a) u1 := ver_index a b c 0 _ u1 (by decide) rfl; have i1 : (Instr.index 23 (.agg #[.int .i64 a, .int .i64 b, .int .i64 c]) (.int .i64 1)).run Tryd.prog u1 = .ok (.int .i64 b) u1 := ver_index a b c 1 _ u1 (by decide) rfl; have i2 : (Instr.index 23 (.agg #[.int .i64 a, .int .i64 b, .int .i64 c]) (.int .i64 2)).run Tryd.prog u1 = .ok (.int .i64 c) u1 := ver_index a b c 2 _ u1 (by decide) rfl; have hbs : w.heap.size < u1.heap.size := r1.lt; clear r1 b1 s1) | ((with_reducible refine (show Row u1 w.heap.size 29 ([] ++ [Value.int .i64 a, .int .i64 b, .int .i64 c] ++ (.int .i64 n :: bytes H)) from R1.out).wpLoadMidK 0 rfl 23 fits_ver rfl ?_ ?_); rfl))
    refine wp_loop_rounds 2 ?_
    rw [rounds_succ]
    go_wp2
    rw [rounds_succ]
    go_wp2
    go_ret
    exact ⟨ret_bool (by first | exact (hOk_not (by omega)).symm | (rw [show hOk a b c n = false from hOk_not (by omega)]; simp; omega)), B1.out⟩
  by_cases h2 : c < 0
  · go_enter Tryd.func7, Tryd.ntmps7
    go_wp2_with (first | ((with_reducible refine wpBoxK (hdv a b c n H) 29 ?_ ?_); rfl; intro u1 r1 b1 s1; have R1 := Lib.hid r1; have B1 := Lib.hid b1; have c0 : u1.cell? ⟨w.heap.size, 0, none⟩ = some (.int .i64 a) := r1.cell 0; have c1 : u1.cell? ⟨w.heap.size, 1, none⟩ = some (.int .i64 b) := r1.cell 1; have c2 : u1.cell? ⟨w.heap.size, 2, none⟩ = some (.int .i64 c) := r1.cell 2; have c3 : u1.cell? ⟨w.heap.size, 3, none⟩ = some (.int .i64 n) := r1.cell 3; have i0 : (Instr.index 23 (.agg #[.int .i64 a, .int .i64 b, .int .i64 c]) (.int .i64 0)).run Tryd.prog u1 = .ok (.int .i64 a) u1 := ver_index a b c 0 _ u1 (by decide) rfl; have i1 : (Instr.index 23 (.agg #[.int .i64 a, .int .i64 b, .int .i64 c]) (.int .i64 1)).run Tryd.prog u1 = .ok (.int .i64 b) u1 := ver_index a b c 1 _ u1 (by decide) rfl; have i2 : (Instr.index 23 (.agg #[.int .i64 a, .int .i64 b, .int .i64 c]) (.int .i64 2)).run Tryd.prog u1 = .ok (.int .i64 c) u1 := ver_index a b c 2 _ u1 (by decide) rfl; have hbs : w.heap.size < u1.heap.size := r1.lt; clear r1 b1 s1) | ((with_reducible refine (show Row u1 w.heap.size 29 ([] ++ [Value.int .i64 a, .int .i64 b, .int .i64 c] ++ (.int .i64 n :: bytes H)) from R1.out).wpLoadMidK 0 rfl 23 fits_ver rfl ?_ ?_); rfl))
    refine wp_loop_rounds 3 ?_
    rw [rounds_succ]
    go_wp2
    rw [rounds_succ]
    go_wp2
    rw [rounds_succ]
    go_wp2
    go_ret
    exact ⟨ret_bool (by first | exact (hOk_not (by omega)).symm | (rw [show hOk a b c n = false from hOk_not (by omega)]; simp; omega)), B1.out⟩
  by_cases g2 : 65535 < c
  · go_enter Tryd.func7, Tryd.ntmps7
    go_wp2_with (first | ((with_reducible refine wpBoxK (hdv a b c n H) 29 ?_ ?_); rfl; intro u1 r1 b1 s1; have R1 := Lib.hid r1; have B1 := Lib.hid b1; have c0 : u1.cell? ⟨w.heap.size, 0, none⟩ = some (.int .i64 a) := r1.cell 0; have c1 : u1.cell? ⟨w.heap.size, 1, none⟩ = some (.int .i64 b) := r1.cell 1; have c2 : u1.cell? ⟨w.heap.size, 2, none⟩ = some (.int .i64 c) := r1.cell 2; have c3 : u1.cell? ⟨w.heap.size, 3, none⟩ = some (.int .i64 n) := r1.cell 3; have i0 : (Instr.index 23 (.agg #[.int .i64 a, .int .i64 b, .int .i64 c]) (.int .i64 0)).run Tryd.prog u1 = .ok (.int .i64 a) u1 := ver_index a b c 0 _ u1 (by decide) rfl; have i1 : (Instr.index 23 (.agg #[.int .i64 a, .int .i64 b, .int .i64 c]) (.int .i64 1)).run Tryd.prog u1 = .ok (.int .i64 b) u1 := ver_index a b c 1 _ u1 (by decide) rfl; have i2 : (Instr.index 23 (.agg #[.int .i64 a, .int .i64 b, .int .i64 c]) (.int .i64 2)).run Tryd.prog u1 = .ok (.int .i64 c) u1 := ver_index a b c 2 _ u1 (by decide) rfl; have hbs : w.heap.size < u1.heap.size := r1.lt; clear r1 b1 s1) | ((with_reducible refine (show Row u1 w.heap.size 29 ([] ++ [Value.int .i64 a, .int .i64 b, .int .i64 c] ++ (.int .i64 n :: bytes H)) from R1.out).wpLoadMidK 0 rfl 23 fits_ver rfl ?_ ?_); rfl))
    refine wp_loop_rounds 3 ?_
    rw [rounds_succ]
    go_wp2
    rw [rounds_succ]
    go_wp2
    rw [rounds_succ]
    go_wp2
    go_ret
    exact ⟨ret_bool (by first | exact (hOk_not (by omega)).symm | (rw [show hOk a b c n = false from hOk_not (by omega)]; simp; omega)), B1.out⟩
  by_cases h3 : n < 0
  · go_enter Tryd.func7, Tryd.ntmps7
    go_wp2_with (first | ((with_reducible refine wpBoxK (hdv a b c n H) 29 ?_ ?_); rfl; intro u1 r1 b1 s1; have R1 := Lib.hid r1; have B1 := Lib.hid b1; have c0 : u1.cell? ⟨w.heap.size, 0, none⟩ = some (.int .i64 a) := r1.cell 0; have c1 : u1.cell? ⟨w.heap.size, 1, none⟩ = some (.int .i64 b) := r1.cell 1; have c2 : u1.cell? ⟨w.heap.size, 2, none⟩ = some (.int .i64 c) := r1.cell 2; have c3 : u1.cell? ⟨w.heap.size, 3, none⟩ = some (.int .i64 n) := r1.cell 3; have i0 : (Instr.index 23 (.agg #[.int .i64 a, .int .i64 b, .int .i64 c]) (.int .i64 0)).run Tryd.prog u1 = .ok (.int .i64 a) u1 := ver_index a b c 0 _ u1 (by decide) rfl; have i1 : (Instr.index 23 (.agg #[.int .i64 a, .int .i64 b, .int .i64 c]) (.int .i64 1)).run Tryd.prog u1 = .ok (.int .i64 b) u1 := ver_index a b c 1 _ u1 (by decide) rfl; have i2 : (Instr.index 23 (.agg #[.int .i64 a, .int .i64 b, .int .i64 c]) (.int .i64 2)).run Tryd.prog u1 = .ok (.int .i64 c) u1 := ver_index a b c 2 _ u1 (by decide) rfl; have hbs : w.heap.size < u1.heap.size := r1.lt; clear r1 b1 s1) | ((with_reducible refine (show Row u1 w.heap.size 29 ([] ++ [Value.int .i64 a, .int .i64 b, .int .i64 c] ++ (.int .i64 n :: bytes H)) from R1.out).wpLoadMidK 0 rfl 23 fits_ver rfl ?_ ?_); rfl))
    refine wp_loop_rounds 4 ?_
    rw [rounds_succ]
    go_wp2
    rw [rounds_succ]
    go_wp2
    rw [rounds_succ]
    go_wp2
    rw [rounds_succ]
    go_wp2
    go_ret
    exact ⟨ret_bool (by first | exact (hOk_not (by omega)).symm | (rw [show hOk a b c n = false from hOk_not (by omega)]; simp; omega)), B1.out⟩
  by_cases g3 : 16777215 < n
  · go_enter Tryd.func7, Tryd.ntmps7
    go_wp2_with (first | ((with_reducible refine wpBoxK (hdv a b c n H) 29 ?_ ?_); rfl; intro u1 r1 b1 s1; have R1 := Lib.hid r1; have B1 := Lib.hid b1; have c0 : u1.cell? ⟨w.heap.size, 0, none⟩ = some (.int .i64 a) := r1.cell 0; have c1 : u1.cell? ⟨w.heap.size, 1, none⟩ = some (.int .i64 b) := r1.cell 1; have c2 : u1.cell? ⟨w.heap.size, 2, none⟩ = some (.int .i64 c) := r1.cell 2; have c3 : u1.cell? ⟨w.heap.size, 3, none⟩ = some (.int .i64 n) := r1.cell 3; have i0 : (Instr.index 23 (.agg #[.int .i64 a, .int .i64 b, .int .i64 c]) (.int .i64 0)).run Tryd.prog u1 = .ok (.int .i64 a) u1 := ver_index a b c 0 _ u1 (by decide) rfl; have i1 : (Instr.index 23 (.agg #[.int .i64 a, .int .i64 b, .int .i64 c]) (.int .i64 1)).run Tryd.prog u1 = .ok (.int .i64 b) u1 := ver_index a b c 1 _ u1 (by decide) rfl; have i2 : (Instr.index 23 (.agg #[.int .i64 a, .int .i64 b, .int .i64 c]) (.int .i64 2)).run Tryd.prog u1 = .ok (.int .i64 c) u1 := ver_index a b c 2 _ u1 (by decide) rfl; have hbs : w.heap.size < u1.heap.size := r1.lt; clear r1 b1 s1) | ((with_reducible refine (show Row u1 w.heap.size 29 ([] ++ [Value.int .i64 a, .int .i64 b, .int .i64 c] ++ (.int .i64 n :: bytes H)) from R1.out).wpLoadMidK 0 rfl 23 fits_ver rfl ?_ ?_); rfl))
    refine wp_loop_rounds 4 ?_
    rw [rounds_succ]
    go_wp2
    rw [rounds_succ]
    go_wp2
    rw [rounds_succ]
    go_wp2
    rw [rounds_succ]
    go_wp2
    go_ret
    exact ⟨ret_bool (by first | exact (hOk_not (by omega)).symm | (rw [show hOk a b c n = false from hOk_not (by omega)]; simp; omega)), B1.out⟩
  go_enter Tryd.func7, Tryd.ntmps7
  go_wp2_with (first | ((with_reducible refine wpBoxK (hdv a b c n H) 29 ?_ ?_); rfl; intro u1 r1 b1 s1; have R1 := Lib.hid r1; have B1 := Lib.hid b1; have c0 : u1.cell? ⟨w.heap.size, 0, none⟩ = some (.int .i64 a) := r1.cell 0; have c1 : u1.cell? ⟨w.heap.size, 1, none⟩ = some (.int .i64 b) := r1.cell 1; have c2 : u1.cell? ⟨w.heap.size, 2, none⟩ = some (.int .i64 c) := r1.cell 2; have c3 : u1.cell? ⟨w.heap.size, 3, none⟩ = some (.int .i64 n) := r1.cell 3; have i0 : (Instr.index 23 (.agg #[.int .i64 a, .int .i64 b, .int .i64 c]) (.int .i64 0)).run Tryd.prog u1 = .ok (.int .i64 a) u1 := ver_index a b c 0 _ u1 (by decide) rfl; have i1 : (Instr.index 23 (.agg #[.int .i64 a, .int .i64 b, .int .i64 c]) (.int .i64 1)).run Tryd.prog u1 = .ok (.int .i64 b) u1 := ver_index a b c 1 _ u1 (by decide) rfl; have i2 : (Instr.index 23 (.agg #[.int .i64 a, .int .i64 b, .int .i64 c]) (.int .i64 2)).run Tryd.prog u1 = .ok (.int .i64 c) u1 := ver_index a b c 2 _ u1 (by decide) rfl; have hbs : w.heap.size < u1.heap.size := r1.lt; clear r1 b1 s1) | ((with_reducible refine (show Row u1 w.heap.size 29 ([] ++ [Value.int .i64 a, .int .i64 b, .int .i64 c] ++ (.int .i64 n :: bytes H)) from R1.out).wpLoadMidK 0 rfl 23 fits_ver rfl ?_ ?_); rfl))
  refine wp_loop_rounds 4 ?_
  rw [rounds_succ]
  go_wp2
  rw [rounds_succ]
  go_wp2
  rw [rounds_succ]
  go_wp2
  rw [rounds_succ]
  go_wp2
  go_ret
  exact ⟨ret_bool (by first | exact (hOk_of (by omega)).symm | (rw [show hOk a b c n = true from hOk_of (by omega)]; simp; omega)), B1.out⟩

end Go.Proofs.YtbcilifdgpfmnaaDoor
