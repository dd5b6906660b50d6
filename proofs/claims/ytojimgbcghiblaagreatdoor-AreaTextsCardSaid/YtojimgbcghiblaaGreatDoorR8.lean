import Derived.OwnWalk
import Derived.Laws.IdiomCopy
import Derived.Test.YtojimgbcghiblaaGreatDoorRows
import Derived.Lib.LaidTab
import Derived.MakeChecks
import Derived.Stop.LaidErr
import Derived.Lib.Join
import Derived.Test.YtojimgbcghiblaaGreatDoorR7
set_option linter.unusedVariables false
set_option maxRecDepth 100000
set_option maxHeartbeats 8000000
namespace Go.Proofs.YtojimgbcghiblaaGreatDoor
section
open Go.RowKit HeadMath NumMath
def hdv (a b c n : Int) (H : List UInt8) : List Value := [.int .i64 a, .int .i64 b, .int .i64 c, .int .i64 n] ++ bytes H
theorem zam (a b c n : Int) (H : List UInt8) (h : H.length = 32) : (hdv a b c n H).length = 36 := by simp [hdv, zaa, h]
theorem zcd (a b c n : Int) (H : List UInt8) : (hdv a b c n H).all (·.oneCell') = true := by
 simp [hdv, bytes, Value.oneCell']
theorem fits_head : Fits Tryz.prog 29 36 := ⟨⟨_, Tryz.underlying29, rfl⟩, by kernel_rfl⟩
theorem zdx : Fits Tryz.prog 38 36 := ⟨⟨_, Tryz.underlying38, rfl⟩, by kernel_rfl⟩
theorem zxq : ∀ w, (sizeOf 3).run Tryz.prog w = .ok 1 w := fun w => by kernel_rfl
theorem zbbf : ∀ w, (isAgg 3).run Tryz.prog w = .ok false w := fun w => by kernel_rfl
theorem zlp (a b c : Int) (k : Nat) (v : Value) (w : World) (h : k < 3) (hv : (#[Value.int .i64 a, .int .i64 b, .int .i64 c] : Array Value)[k]? = some v) :
  (Instr.index 25 (.agg #[.int .i64 a, .int .i64 b, .int .i64 c]) (.int .i64 (k : Int))).run Tryz.prog w = .ok v w :=
 zov (P := Tryz.prog) 25 3 3 .i64 #[.int .i64 a, .int .i64 b, .int .i64 c] k v w Tryz.underlying25 zxq zbbf h hv
theorem zbn : Fits Tryz.prog 25 3 := ⟨⟨_, Tryz.underlying25, rfl⟩, by kernel_rfl⟩
theorem zbd {a b c n : Int} {H : List UInt8} {u : World} {g : Nat} {t : TypeId} (r : Row u g t (hdv a b c n H)) : u.cell? ⟨g, 0, none⟩ = some (.int .i64 a) ∧ u.cell? ⟨g, 1, none⟩ = some (.int .i64 b) ∧ u.cell? ⟨g, 2, none⟩ = some (.int .i64 c) ∧ u.cell? ⟨g, 3, none⟩ = some (.int .i64 n) ∧
  (Instr.index 25 (.agg #[.int .i64 a, .int .i64 b, .int .i64 c]) (.int .i64 0)).run Tryz.prog u = .ok (.int .i64 a) u ∧ (Instr.index 25 (.agg #[.int .i64 a, .int .i64 b, .int .i64 c]) (.int .i64 1)).run Tryz.prog u = .ok (.int .i64 b) u ∧ (Instr.index 25 (.agg #[.int .i64 a, .int .i64 b, .int .i64 c]) (.int .i64 2)).run Tryz.prog u = .ok (.int .i64 c) u ∧ g < u.heap.size :=
 ⟨r.cell 0, r.cell 1, r.cell 2, r.cell 3, zlp a b c 0 _ u (by decide) rfl, zlp a b c 1 _ u (by decide) rfl, zlp a b c 2 _ u (by decide) rfl, r.lt⟩
theorem zio (a b c n : Int) (H : List UInt8) (w : World) :
  Calls Tryz.prog 55 #[.agg (hdv a b c n H).toArray] w fun e w' => e = .returned (.bool (hOk a b c n)) ∧ Below w.heap.size w w' := by
 by_cases h0 : a < 0
 .go_enter Tryz.func55, Tryz.ntmps55
  go_wp2_with (first | ((with_reducible refine wpBoxK (hdv a b c n H) 29 ?_ ?_); rfl; intro u1 r1 b1 s1; have R1 := zh r1; have B1 := zh b1; obtain ⟨c0, c1, c2, c3, i0, i1, i2, hbs⟩ := zbd r1; clear r1 b1 s1) | ((with_reducible refine (show Row u1 w.heap.size 29 ([] ++ [Value.int .i64 a, .int .i64 b, .int .i64 c] ++ (.int .i64 n :: bytes H)) from R1.out).wpLoadMidK 0 rfl 25 zbn rfl ?_ ?_); rfl))
  refine wp_loop_rounds 1 ?_
  rw [rounds_succ]
  go_wp2
  go_ret
  exact ⟨zal (by first | exact (zaw (by omega)).symm | (rw [show hOk a b c n = false from zaw (by omega)]; simp; omega)), B1.out⟩
 by_cases g0 : 65535 < a
 .go_enter Tryz.func55, Tryz.ntmps55
  go_wp2_with (first | ((with_reducible refine wpBoxK (hdv a b c n H) 29 ?_ ?_); rfl; intro u1 r1 b1 s1; have R1 := zh r1; have B1 := zh b1; obtain ⟨c0, c1, c2, c3, i0, i1, i2, hbs⟩ := zbd r1; clear r1 b1 s1) | ((with_reducible refine (show Row u1 w.heap.size 29 ([] ++ [Value.int .i64 a, .int .i64 b, .int .i64 c] ++ (.int .i64 n :: bytes H)) from R1.out).wpLoadMidK 0 rfl 25 zbn rfl ?_ ?_); rfl))
  refine wp_loop_rounds 1 ?_
  rw [rounds_succ]
  go_wp2
  go_ret
  exact ⟨zal (by first | exact (zaw (by omega)).symm | (rw [show hOk a b c n = false from zaw (by omega)]; simp; omega)), B1.out⟩
 by_cases h1 : b < 0
 .go_enter Tryz.func55, Tryz.ntmps55
  go_wp2_with (first | ((with_reducible refine wpBoxK (hdv a b c n H) 29 ?_ ?_); rfl; intro u1 r1 b1 s1; have R1 := zh r1; have B1 := zh b1; obtain ⟨c0, c1, c2, c3, i0, i1, i2, hbs⟩ := zbd r1; clear r1 b1 s1) | ((with_reducible refine (show Row u1 w.heap.size 29 ([] ++ [Value.int .i64 a, .int .i64 b, .int .i64 c] ++ (.int .i64 n :: bytes H)) from R1.out).wpLoadMidK 0 rfl 25 zbn rfl ?_ ?_); rfl))
  refine wp_loop_rounds 2 ?_
  rw [rounds_succ]
  go_wp2
  rw [rounds_succ]
  go_wp2
  go_ret
  exact ⟨zal (by first | exact (zaw (by omega)).symm | (rw [show hOk a b c n = false from zaw (by omega)]; simp; omega)), B1.out⟩
 by_cases g1 : 65535 < b
 .go_enter Tryz.func55, Tryz.ntmps55
  go_wp2_with (first | ((with_reducible refine wpBoxK (hdv a b c n H) 29 ?_ ?_); rfl; intro u1 r1 b1 s1; have R1 := zh r1; have B1 := zh b1; obtain ⟨c0, c1, c2, c3, i0, i1, i2, hbs⟩ := zbd r1; clear r1 b1 s1) | ((with_reducible refine (show Row u1 w.heap.size 29 ([] ++ [Value.int .i64 a, .int .i64 b, .int .i64 c] ++ (.int .i64 n :: bytes H)) from R1.out).wpLoadMidK 0 rfl 25 zbn rfl ?_ ?_); rfl))
  refine wp_loop_rounds 2 ?_
  rw [rounds_succ]
  go_wp2
  rw [rounds_succ]
  go_wp2
  go_ret
  exact ⟨zal (by first | exact (zaw (by omega)).symm | (rw [show hOk a b c n = false from zaw (by omega)]; simp; omega)), B1.out⟩
 by_cases h2 : c < 0
 .go_enter Tryz.func55, Tryz.ntmps55
  go_wp2_with (first | ((with_reducible refine wpBoxK (hdv a b c n H) 29 ?_ ?_); rfl; intro u1 r1 b1 s1; have R1 := zh r1; have B1 := zh b1; obtain ⟨c0, c1, c2, c3, i0, i1, i2, hbs⟩ := zbd r1; clear r1 b1 s1) | ((with_reducible refine (show Row u1 w.heap.size 29 ([] ++ [Value.int .i64 a, .int .i64 b, .int .i64 c] ++ (.int .i64 n :: bytes H)) from R1.out).wpLoadMidK 0 rfl 25 zbn rfl ?_ ?_); rfl))
  refine wp_loop_rounds 3 ?_
  rw [rounds_succ]
  go_wp2
  rw [rounds_succ]
  go_wp2
  rw [rounds_succ]
  go_wp2
  go_ret
  exact ⟨zal (by first | exact (zaw (by omega)).symm | (rw [show hOk a b c n = false from zaw (by omega)]; simp; omega)), B1.out⟩
 by_cases g2 : 65535 < c
 .go_enter Tryz.func55, Tryz.ntmps55
  go_wp2_with (first | ((with_reducible refine wpBoxK (hdv a b c n H) 29 ?_ ?_); rfl; intro u1 r1 b1 s1; have R1 := zh r1; have B1 := zh b1; obtain ⟨c0, c1, c2, c3, i0, i1, i2, hbs⟩ := zbd r1; clear r1 b1 s1) | ((with_reducible refine (show Row u1 w.heap.size 29 ([] ++ [Value.int .i64 a, .int .i64 b, .int .i64 c] ++ (.int .i64 n :: bytes H)) from R1.out).wpLoadMidK 0 rfl 25 zbn rfl ?_ ?_); rfl))
  refine wp_loop_rounds 3 ?_
  rw [rounds_succ]
  go_wp2
  rw [rounds_succ]
  go_wp2
  rw [rounds_succ]
  go_wp2
  go_ret
  exact ⟨zal (by first | exact (zaw (by omega)).symm | (rw [show hOk a b c n = false from zaw (by omega)]; simp; omega)), B1.out⟩
 by_cases h3 : n < 0
 .go_enter Tryz.func55, Tryz.ntmps55
  go_wp2_with (first | ((with_reducible refine wpBoxK (hdv a b c n H) 29 ?_ ?_); rfl; intro u1 r1 b1 s1; have R1 := zh r1; have B1 := zh b1; obtain ⟨c0, c1, c2, c3, i0, i1, i2, hbs⟩ := zbd r1; clear r1 b1 s1) | ((with_reducible refine (show Row u1 w.heap.size 29 ([] ++ [Value.int .i64 a, .int .i64 b, .int .i64 c] ++ (.int .i64 n :: bytes H)) from R1.out).wpLoadMidK 0 rfl 25 zbn rfl ?_ ?_); rfl))
  refine wp_loop_rounds 4 ?_
  rw [rounds_succ]
  go_wp2
  rw [rounds_succ]
  go_wp2
  rw [rounds_succ]
  go_wp2
  rw [rounds_succ]
  go_wp2
  go_ret
  exact ⟨zal (by first | exact (zaw (by omega)).symm | (rw [show hOk a b c n = false from zaw (by omega)]; simp; omega)), B1.out⟩
 by_cases g3 : 16777215 < n
 .go_enter Tryz.func55, Tryz.ntmps55
  go_wp2_with (first | ((with_reducible refine wpBoxK (hdv a b c n H) 29 ?_ ?_); rfl; intro u1 r1 b1 s1; have R1 := zh r1; have B1 := zh b1; obtain ⟨c0, c1, c2, c3, i0, i1, i2, hbs⟩ := zbd r1; clear r1 b1 s1) | ((with_reducible refine (show Row u1 w.heap.size 29 ([] ++ [Value.int .i64 a, .int .i64 b, .int .i64 c] ++ (.int .i64 n :: bytes H)) from R1.out).wpLoadMidK 0 rfl 25 zbn rfl ?_ ?_); rfl))
  refine wp_loop_rounds 4 ?_
  rw [rounds_succ]
  go_wp2
  rw [rounds_succ]
  go_wp2
  rw [rounds_succ]
  go_wp2
  rw [rounds_succ]
  go_wp2
  go_ret
  exact ⟨zal (by first | exact (zaw (by omega)).symm | (rw [show hOk a b c n = false from zaw (by omega)]; simp; omega)), B1.out⟩
 go_enter Tryz.func55, Tryz.ntmps55
 go_wp2_with (first | ((with_reducible refine wpBoxK (hdv a b c n H) 29 ?_ ?_); rfl; intro u1 r1 b1 s1; have R1 := zh r1; have B1 := zh b1; obtain ⟨c0, c1, c2, c3, i0, i1, i2, hbs⟩ := zbd r1; clear r1 b1 s1) | ((with_reducible refine (show Row u1 w.heap.size 29 ([] ++ [Value.int .i64 a, .int .i64 b, .int .i64 c] ++ (.int .i64 n :: bytes H)) from R1.out).wpLoadMidK 0 rfl 25 zbn rfl ?_ ?_); rfl))
 refine wp_loop_rounds 4 ?_
 rw [rounds_succ]
 go_wp2
 rw [rounds_succ]
 go_wp2
 rw [rounds_succ]
 go_wp2
 rw [rounds_succ]
 go_wp2
 go_ret
 exact ⟨zal (by first | exact (zon (by omega)).symm | (rw [show hOk a b c n = true from zon (by omega)]; simp; omega)), B1.out⟩
theorem zdc (a b c n : Int) (H : List UInt8) (w : World) :
  Calls Tryz.prog 28 #[.agg (hdv a b c n H).toArray] w fun e w' => e = .returned (.bool (hOk a b c n)) ∧ Below w.heap.size w w' := by
 by_cases h0 : a < 0
 .go_enter Tryz.func28, Tryz.ntmps28
  go_wp2_with (first | ((with_reducible refine wpBoxK (hdv a b c n H) 38 ?_ ?_); rfl; intro u1 r1 b1 s1; have R1 := zh r1; have B1 := zh b1; obtain ⟨c0, c1, c2, c3, i0, i1, i2, hbs⟩ := zbd r1; clear r1 b1 s1) | ((with_reducible refine (show Row u1 w.heap.size 38 ([] ++ [Value.int .i64 a, .int .i64 b, .int .i64 c] ++ (.int .i64 n :: bytes H)) from R1.out).wpLoadMidK 0 rfl 25 zbn rfl ?_ ?_); rfl))
  refine wp_loop_rounds 1 ?_
  rw [rounds_succ]
  go_wp2
  go_ret
  exact ⟨zal (by first | exact (zaw (by omega)).symm | (rw [show hOk a b c n = false from zaw (by omega)]; simp; omega)), B1.out⟩
 by_cases g0 : 65535 < a
 .go_enter Tryz.func28, Tryz.ntmps28
  go_wp2_with (first | ((with_reducible refine wpBoxK (hdv a b c n H) 38 ?_ ?_); rfl; intro u1 r1 b1 s1; have R1 := zh r1; have B1 := zh b1; obtain ⟨c0, c1, c2, c3, i0, i1, i2, hbs⟩ := zbd r1; clear r1 b1 s1) | ((with_reducible refine (show Row u1 w.heap.size 38 ([] ++ [Value.int .i64 a, .int .i64 b, .int .i64 c] ++ (.int .i64 n :: bytes H)) from R1.out).wpLoadMidK 0 rfl 25 zbn rfl ?_ ?_); rfl))
  refine wp_loop_rounds 1 ?_
  rw [rounds_succ]
  go_wp2
  go_ret
  exact ⟨zal (by first | exact (zaw (by omega)).symm | (rw [show hOk a b c n = false from zaw (by omega)]; simp; omega)), B1.out⟩
 by_cases h1 : b < 0
 .go_enter Tryz.func28, Tryz.ntmps28
  go_wp2_with (first | ((with_reducible refine wpBoxK (hdv a b c n H) 38 ?_ ?_); rfl; intro u1 r1 b1 s1; have R1 := zh r1; have B1 := zh b1; obtain ⟨c0, c1, c2, c3, i0, i1, i2, hbs⟩ := zbd r1; clear r1 b1 s1) | ((with_reducible refine (show Row u1 w.heap.size 38 ([] ++ [Value.int .i64 a, .int .i64 b, .int .i64 c] ++ (.int .i64 n :: bytes H)) from R1.out).wpLoadMidK 0 rfl 25 zbn rfl ?_ ?_); rfl))
  refine wp_loop_rounds 2 ?_
  rw [rounds_succ]
  go_wp2
  rw [rounds_succ]
  go_wp2
  go_ret
  exact ⟨zal (by first | exact (zaw (by omega)).symm | (rw [show hOk a b c n = false from zaw (by omega)]; simp; omega)), B1.out⟩
 by_cases g1 : 65535 < b
 .go_enter Tryz.func28, Tryz.ntmps28
  go_wp2_with (first | ((with_reducible refine wpBoxK (hdv a b c n H) 38 ?_ ?_); rfl; intro u1 r1 b1 s1; have R1 := zh r1; have B1 := zh b1; obtain ⟨c0, c1, c2, c3, i0, i1, i2, hbs⟩ := zbd r1; clear r1 b1 s1) | ((with_reducible refine (show Row u1 w.heap.size 38 ([] ++ [Value.int .i64 a, .int .i64 b, .int .i64 c] ++ (.int .i64 n :: bytes H)) from R1.out).wpLoadMidK 0 rfl 25 zbn rfl ?_ ?_); rfl))
  refine wp_loop_rounds 2 ?_
  rw [rounds_succ]
  go_wp2
  rw [rounds_succ]
  go_wp2
  go_ret
  exact ⟨zal (by first | exact (zaw (by omega)).symm | (rw [show hOk a b c n = false from zaw (by omega)]; simp; omega)), B1.out⟩
 by_cases h2 : c < 0
 .go_enter Tryz.func28, Tryz.ntmps28
  go_wp2_with (first | ((with_reducible refine wpBoxK (hdv a b c n H) 38 ?_ ?_); rfl; intro u1 r1 b1 s1; have R1 := zh r1; have B1 := zh b1; obtain ⟨c0, c1, c2, c3, i0, i1, i2, hbs⟩ := zbd r1; clear r1 b1 s1) | ((with_reducible refine (show Row u1 w.heap.size 38 ([] ++ [Value.int .i64 a, .int .i64 b, .int .i64 c] ++ (.int .i64 n :: bytes H)) from R1.out).wpLoadMidK 0 rfl 25 zbn rfl ?_ ?_); rfl))
  refine wp_loop_rounds 3 ?_
  rw [rounds_succ]
  go_wp2
  rw [rounds_succ]
  go_wp2
  rw [rounds_succ]
  go_wp2
  go_ret
  exact ⟨zal (by first | exact (zaw (by omega)).symm | (rw [show hOk a b c n = false from zaw (by omega)]; simp; omega)), B1.out⟩
 by_cases g2 : 65535 < c
 .go_enter Tryz.func28, Tryz.ntmps28
  go_wp2_with (first | ((with_reducible refine wpBoxK (hdv a b c n H) 38 ?_ ?_); rfl; intro u1 r1 b1 s1; have R1 := zh r1; have B1 := zh b1; obtain ⟨c0, c1, c2, c3, i0, i1, i2, hbs⟩ := zbd r1; clear r1 b1 s1) | ((with_reducible refine (show Row u1 w.heap.size 38 ([] ++ [Value.int .i64 a, .int .i64 b, .int .i64 c] ++ (.int .i64 n :: bytes H)) from R1.out).wpLoadMidK 0 rfl 25 zbn rfl ?_ ?_); rfl))
  refine wp_loop_rounds 3 ?_
  rw [rounds_succ]
  go_wp2
  rw [rounds_succ]
  go_wp2
  rw [rounds_succ]
  go_wp2
  go_ret
  exact ⟨zal (by first | exact (zaw (by omega)).symm | (rw [show hOk a b c n = false from zaw (by omega)]; simp; omega)), B1.out⟩
 by_cases h3 : n < 0
 .go_enter Tryz.func28, Tryz.ntmps28
  go_wp2_with (first | ((with_reducible refine wpBoxK (hdv a b c n H) 38 ?_ ?_); rfl; intro u1 r1 b1 s1; have R1 := zh r1; have B1 := zh b1; obtain ⟨c0, c1, c2, c3, i0, i1, i2, hbs⟩ := zbd r1; clear r1 b1 s1) | ((with_reducible refine (show Row u1 w.heap.size 38 ([] ++ [Value.int .i64 a, .int .i64 b, .int .i64 c] ++ (.int .i64 n :: bytes H)) from R1.out).wpLoadMidK 0 rfl 25 zbn rfl ?_ ?_); rfl))
  refine wp_loop_rounds 4 ?_
  rw [rounds_succ]
  go_wp2
  rw [rounds_succ]
  go_wp2
  rw [rounds_succ]
  go_wp2
  rw [rounds_succ]
  go_wp2
  go_ret
  exact ⟨zal (by first | exact (zaw (by omega)).symm | (rw [show hOk a b c n = false from zaw (by omega)]; simp; omega)), B1.out⟩
 by_cases g3 : 16777215 < n
 .go_enter Tryz.func28, Tryz.ntmps28
  go_wp2_with (first | ((with_reducible refine wpBoxK (hdv a b c n H) 38 ?_ ?_); rfl; intro u1 r1 b1 s1; have R1 := zh r1; have B1 := zh b1; obtain ⟨c0, c1, c2, c3, i0, i1, i2, hbs⟩ := zbd r1; clear r1 b1 s1) | ((with_reducible refine (show Row u1 w.heap.size 38 ([] ++ [Value.int .i64 a, .int .i64 b, .int .i64 c] ++ (.int .i64 n :: bytes H)) from R1.out).wpLoadMidK 0 rfl 25 zbn rfl ?_ ?_); rfl))
  refine wp_loop_rounds 4 ?_
  rw [rounds_succ]
  go_wp2
  rw [rounds_succ]
  go_wp2
  rw [rounds_succ]
  go_wp2
  rw [rounds_succ]
  go_wp2
  go_ret
  exact ⟨zal (by first | exact (zaw (by omega)).symm | (rw [show hOk a b c n = false from zaw (by omega)]; simp; omega)), B1.out⟩
 go_enter Tryz.func28, Tryz.ntmps28
 go_wp2_with (first | ((with_reducible refine wpBoxK (hdv a b c n H) 38 ?_ ?_); rfl; intro u1 r1 b1 s1; have R1 := zh r1; have B1 := zh b1; obtain ⟨c0, c1, c2, c3, i0, i1, i2, hbs⟩ := zbd r1; clear r1 b1 s1) | ((with_reducible refine (show Row u1 w.heap.size 38 ([] ++ [Value.int .i64 a, .int .i64 b, .int .i64 c] ++ (.int .i64 n :: bytes H)) from R1.out).wpLoadMidK 0 rfl 25 zbn rfl ?_ ?_); rfl))
 refine wp_loop_rounds 4 ?_
 rw [rounds_succ]
 go_wp2
 rw [rounds_succ]
 go_wp2
 rw [rounds_succ]
 go_wp2
 rw [rounds_succ]
 go_wp2
 go_ret
 exact ⟨zal (by first | exact (zon (by omega)).symm | (rw [show hOk a b c n = true from zon (by omega)]; simp; omega)), B1.out⟩
end
section
open Go.RowKit ShaMath
theorem zbdg : (Tryz.prog.info? 5).map (fun i => (i.zero, i.size, i.bytes)) = some (some (.int .u8 0), 1, 8) ∨ (Tryz.prog.info? 5).map (fun i => (i.zero, i.size, i.bytes)) = some (some (.int .u8 0), 1, 1) := Or.inr (by kernel_rfl)
theorem zbas (n k : Nat) (hk : k < 8) : (eightB n)[k]? = some (UInt8.ofNat (n / 2 ^ (8 * (7 - k)) % 256)) := by
 rw [eightB, List.getElem?_map, List.getElem?_eq_getElem (by simpa using hk), List.getElem_range, Nat.pow_mul]
 rfl
theorem zwh (n : Nat) (w : World) (hn : n < 1000000000000) :
  Calls Tryz.prog 124 #[.int .i64 (n : Int)] w fun e w' => e = .returned (.string (str (tailL n))) ∧ Below w.heap.size w w' := by
 obtain ⟨m, hm⟩ : ∃ m, n % 64 = m := ⟨_, rfl⟩
 obtain ⟨d, hd⟩ : ∃ d, 119 - m = d := ⟨_, rfl⟩
 obtain ⟨z, hz⟩ : ∃ z, d % 64 = z := ⟨_, rfl⟩
 obtain ⟨p, hp⟩ : ∃ p, 1 + z = p := ⟨_, rfl⟩
 obtain ⟨c, hc⟩ : ∃ c, p + 8 = c := ⟨_, rfl⟩
 obtain ⟨n8, hn8⟩ : ∃ x, n * 8 = x := ⟨_, rfl⟩
 obtain ⟨X, hX⟩ : ∃ X : List UInt8, X = 128 :: List.replicate z 0 := ⟨_, rfl⟩
 obtain ⟨E, hE⟩ : ∃ E : List UInt8, E = eightB n8 := ⟨_, rfl⟩
 have ht : tailL n = X ++ E := by rw [tailL, hX, hE, hm, hd, hz, <- hn8, Nat.mul_comm]; rfl
 have lX : X.length = p := by rw [hX]; simp; omega
 have lE : E.length = 8 := by rw [hE, zjw]
 have hrep : (List.replicate c (Value.int .u8 0)).set 0 (.int .u8 128) = bytes X ++ bytes (List.replicate 8 0) := by
  rw [<- zaj, hX, show c = 1 + (z + 8) by omega, Nat.add_comm 1, List.replicate_succ, List.set_cons_zero, List.cons_append, List.replicate_append_replicate]
  simp [bytes]
 rw [ht]
 have e1 : (n : Int) % 64 = (m : Int) := by omega
 have e2 : 119 - (m : Int) = (d : Int) := by omega
 have e3 : (d : Int) % 64 = (z : Int) := by omega
 have e4 : 1 + (z : Int) = (p : Int) := by omega
 have e5 : (p : Int) + 8 = (c : Int) := by omega
 have e6 : (n : Int) * 8 = (n8 : Int) := by omega
 have e7 : IntKind.u64.wrap (n : Int) = (n : Int) := by rw [IntKind.wrap_u64]; omega
 have b1 : (m : Int) < 64 := by omega
 have b2 : (d : Int) <= 119 := by omega
 have b3 : (z : Int) < 64 := by omega
 have b4 : (p : Int) <= 64 := by omega
 have b4' : 1 <= (p : Int) := by omega
 have b5 : (c : Int) <= 72 := by omega
 have b5' : 9 <= c := by omega
 have b6 : (n8 : Int) < 8000000000000 := by omega
 have b7 : p + 8 <= c := by omega
 have hb8 : (n : Int) < 1000000000000 := by omega
 have e8 : IntKind.u64.wrap (n8 : Int) = (n8 : Int) := by rw [IntKind.wrap_u64]; omega
 have HR := zh hrep
 have LX := zh lX
 have LE := zh lE
 have HE := zh hE
 have HPC := zh hc
 have hpc : p <= c := by omega
 clear hn b6 hb8
 clear hm hd hz hp hc hn8 hX hE ht lX lE hrep
 go_enter Tryz.func124, Tryz.ntmps124
 go_wp2_with (first
  | ((with_reducible refine wpMakeK 107 5 (.int .u8 0) p c Tryz.underlying107 zbdg rfl hpc (by omega) ?_ ?_); rfl; intro u0 r0 b0 s0; have R0 := zh r0; have hc0 : u0.cell? ⟨w.heap.size, 0, none⟩ = some (.int .u8 0) := (by rw [r0.cell, List.getElem?_replicate, if_pos (by omega)]); have hf0 := r0.frozen 0; have B0 := zh b0; clear r0 b0 s0))
 have hown0 : (u0.setCell ⟨w.heap.size, 0, none⟩ (.int .u8 128)).ownsRow w.heap.size 5 1 (.slice (some ⟨w.heap.size, 0, none⟩) p c) (p + 0) (bytes X ++ bytes (E.take 0)) := by
  have h1 := R0.out.set 0 (.int .u8 128)
  rw [HR.out] at h1
  have := h1.owns (base := w.heap.size) (n := p) (cap := c) (Nat.le_refl _) (by rw [zaa, LX.out]) (by simp [bytes]; omega) hpc (by unfold maxLen; omega)
  simpa [bytes] using this
 have HOWN := zh hown0
 have HB := zh (B0.out.setCell (p := ⟨w.heap.size, 0, none⟩) (Nat.le_refl _) (.int .u8 128))
 have hp64 : p <= 64 := by omega
 clear hown0 R0 hc0 hf0 B0 HR e1 e2 e3 e4 e5 b1 b2 b3 b4 b4' b5 b5' b7 hpc
 go_loopw [18, 4] (fun i v wr => ∃ k : Nat, k <= 8 ∧ i = .int .i64 k ∧ wr.ownsRow w.heap.size 5 1 v (p + k) (bytes X ++ bytes (E.take k)) ∧ Below w.heap.size w wr) (fun i _ _ => 8 - (intOf i).toNat)
 case atStart => exact ⟨0, by omega, rfl, HOWN.out, HB.out⟩
 case round =>
  clear HOWN HB
  obtain ⟨k, hk, rfl, hown, hbw⟩ := hrel
  by_cases hlt : k < 8
  .obtain ⟨j, hj⟩ : ∃ j, 7 - k = j := ⟨_, rfl⟩
   obtain ⟨s, hs⟩ : ∃ s, 8 * j = s := ⟨_, rfl⟩
   have hkE : k < E.length := by rw [LE.out]; exact hlt
   obtain ⟨b, hb⟩ : ∃ b, E[k] = b := ⟨_, rfl⟩; have hby := zbas n8 k hlt; rw [<- HE.out, List.getElem?_eq_getElem hkE, hb, hj, hs] at hby
   have hby2 : (n8 : Int) / 2 ^ s % 256 = (b.toNat : Int) := by rw [Option.some.inj hby, NumMath.toNat_mod]; simp
   have HT : Hid (E.take (k + 1) = E.take k ++ [b]) := zh (by rw [List.take_succ_eq_append_getElem hkE, hb])
   have HOWN := zh (hown.alloc (.cells #[.int .u8 (b.toNat : Int)] 5))
   have HL : Hid (Lies (wr.alloc (.cells #[.int .u8 (b.toNat : Int)] 5)) (wr.alloc (.cells #[.int .u8 (b.toNat : Int)] 5)).heap.size (some ⟨wr.heap.size, 0, none⟩) [.int .u8 (b.toNat : Int)]) := zh (Lies.new [_] _ _)
   have HBW := zh (hbw.alloc hbw.size (.cells #[.int .u8 (b.toNat : Int)] 5))
   have hzz : w.heap.size <= (wr.alloc (.cells #[.int .u8 (b.toNat : Int)] 5)).heap.size := HBW.out.size
   have HZZ := zh hzz
   have HOL : Hid (∀ j, u4.ownBlock = some j -> w.heap.size <= j) := zh fun j hj => (hown.lt j hj).1
   have f1 : 7 - (k : Int) = (j : Int) := by omega
   have f2 : 8 * (j : Int) = (s : Int) := by omega
   have g1 : (j : Int) < 8 := by omega
   have g2 : (s : Int) < 64 := by omega
   have hk1 : (k : Int) < 8 := by omega
   have HO1 : Hid ((Value.int .u8 (b.toNat : Int)).oneCell' = true) := zh rfl
   have HPK : Big (p + k + 1 <= 1099511627776) := ⟨by omega⟩
   clear hown hbw hzz hby hb hkE hj hs
   go_wp2_with (first
    | ((with_reducible refine wpAppend1K HOWN.out Tryz.underlying107 zhh HL.out HO1.out HPK HZZ.out ?_ ?_); rfl; intro v1 w1 g1 g2 g3; have HV1 := zh g1; have HG1 := zh g2; clear g1 g2 g3))
   go_roundw
   case rel =>
    refine ⟨k + 1, by omega, by go_num, ?_, HBW.out.grown HG1.out HZZ.out HOL.out⟩
    rw [HT.out, zaj, <- List.append_assoc]; exact HV1.out
   case measure => simp [intOf]; omega
  .have ek : k = 8 := by omega
   rw [ek, List.take_of_length_le (by rw [LE.out]; omega), <- zaj] at hown
   have hconv := own_string hown; have HB := zh hbw; clear hown hbw ek; go_wp2; go_ret; exact ⟨rfl, HB.out⟩
theorem zum : Fits Tryz.prog 200 73 := ⟨⟨_, Tryz.underlying200, rfl⟩, by kernel_rfl⟩
theorem zqt : Fits Tryz.prog 198 64 := ⟨⟨_, Tryz.underlying198, rfl⟩, by kernel_rfl⟩
theorem zwi : (Tryz.prog.info? 3).map (·.size) = some 1 := by kernel_rfl
def dig (h : List W) (r : List UInt8) (n : Nat) : List Value := u32s h ++ bytes r ++ [.int .i64 (n : Int)]
theorem ziw (h : List W) (r : List UInt8) (n : Nat) (h1 : h.length = 8) (h2 : r.length = 64) : (dig h r n).length = 73 := by simp [dig, zax, zaa, h1, h2]
theorem zblp (h : List W) (r : List UInt8) (n : Nat) : (dig h r n).all (·.oneCell') = true := by simp [dig, u32s, bytes, Value.oneCell']
theorem zzi (h : List W) (r : List UInt8) (n m : Nat) (h1 : h.length = 8) (h2 : r.length = 64) : (dig h r n).set 72 (.int .i64 (m : Int)) = dig h r m := by
 rw [dig, List.set_append_right _ _ (by simp [zax, zaa, h1, h2])]
 simp [dig, zax, zaa, h1, h2]
theorem zer (h : List W) (r : List UInt8) (n : Nat) (h1 : h.length = 8) (h2 : r.length = 64) : (dig h r n)[72]? = some (.int .i64 (n : Int)) := by
 rw [dig, List.getElem?_append_right (by simp [zax, zaa, h1, h2])]
 simp [zax, zaa, h1, h2]
def Dg (w : World) (b : Nat) (l : List UInt8) : Prop := ∃ h r, Row w b 200 (dig h r l.length) ∧ Held l h r
def Dgb (w : World) (b : Nat) (l : List UInt8) : Prop := ∃ h r, Row w b 200 (dig h r l.length) ∧ Begun l h r
theorem Dg.step {w w' : World} {b : Nat} {l : List UInt8} (h : Dg w b l) (hb : Below w.heap.size w w') : Dg w' b l := by
 obtain ⟨x, r, h1, h2⟩ := h
 exact ⟨x, r, h1.step hb, h2⟩
theorem zbcy (b : Nat) (h : List W) (r : List UInt8) (n : Nat) (w : World) (hg : Glob w) (hr : Row w b 200 (dig h r n)) (hx : h.length = 8) :
  Calls Tryz.prog 148 #[.pointer (some ⟨b, 0, none⟩)] w fun e w' => e = .returned (.tuple #[]) ∧ Row w' b 200 (dig first r n) ∧ Only b w w' := by
 unfold dig at *
 rw [List.append_assoc] at *
 exact zbcx b _ _ w hg hr (by rw [zax, hx])
theorem zbmm (b : Nat) (h : List W) (r : List UInt8) (n : Nat) (w : World) (hg : Glob w) (hb2 : 2 + 1 <= b) (hr : Row w b 200 (dig h r n)) (hh : h.length = 8) (hk : r.length = 64) :
  Calls Tryz.prog 149 #[.pointer (some ⟨b, 0, none⟩), .agg (bytes r).toArray] w fun e w' => e = .returned (.tuple #[]) ∧ Row w' b 200 (dig (mixed h r) r n) ∧ Only b w w' := by
 unfold dig at *
 rw [List.append_assoc] at *
 exact zbml b h _ r w hg hb2 hr hh hk
theorem zbea (h : List W) (r : List UInt8) (n q m : Nat) : dig h r n = (u32s h ++ bytes (r.take q)) ++ bytes ((r.drop q).take m) ++ (bytes (r.drop (q + m)) ++ [.int .i64 (n : Int)]) := by
 have e : bytes r = bytes (r.take q) ++ (bytes ((r.drop q).take m) ++ bytes (r.drop (q + m))) := by
  rw [<- zaj, <- zaj]
  congr 1
  rw [<- List.drop_drop, List.take_append_drop, List.take_append_drop]
 rw [dig, e]
 simp only [List.append_assoc]
theorem zbht (h : List W) (r x : List UInt8) (n q m : Nat) (hm : x.length = m) : (u32s h ++ bytes (r.take q)) ++ bytes x ++ (bytes (r.drop (q + m)) ++ [.int .i64 (n : Int)]) = dig h (r.take q ++ x ++ r.drop (q + x.length)) n := by
 rw [dig, zaj, zaj, hm]
 simp only [List.append_assoc]
theorem zui (t : ByteArray) (m : Nat) : (t.extract m t.size).data.toList = t.data.toList.drop m := by
 rw [ByteArray.data_extract, Array.toList_extract]
 simp only [List.extract_eq_take_drop]
 rw [List.take_of_length_le]
 rw [List.length_drop, zai]
 omega
theorem zli (b : Nat) (l : List UInt8) (s : ByteArray) (w : World) (hg : Glob w) (hb2 : 2 + 1 <= b) (hd : Dg w b l) (hs : l.length + s.size < 1000000000000) :
  Calls Tryz.prog 123 #[.pointer (some ⟨b, 0, none⟩), .string s] w fun e w' => e = .returned (.tuple #[]) ∧ Dg w' b (l ++ s.data.toList) ∧ Only b w w' := by
 obtain ⟨h, r, hr, hH⟩ := hd
 have hcell := hr.cell 72
 rw [zer _ _ _ hH.eight hH.block] at hcell
 have HS : Big (l.length + s.size < 1000000000000) := ⟨hs⟩
 have HG := zh hg
 by_cases hl : l = []
 have hl0 : l.length = 0 := by rw [hl]; rfl
 rw [hl0] at hcell
 have HBG : Hid (∀ u, Glob u -> Row u b 200 (dig h r l.length) -> Calls Tryz.prog 148 #[.pointer (some ⟨b, 0, none⟩)] u fun e u' => e = .returned (.tuple #[]) ∧ Row u' b 200 (dig first r l.length) ∧ Only b u u') := zh fun u g x => zbcy b h r l.length u g x hH.eight
 have hc0 : w.cell? ⟨b, 72, none⟩ = some (.int .i64 0) := hcell
 have HR := zh hr
 have HB : Hid (Begun l first r) := zh (by rw [hl]; exact Begun.nil r hH.block)
 clear hcell hg hr hH hs hl hl0
 go_enter Tryz.func123, Tryz.ntmps123
 go_wp2_with (first
  | (go_at_call 148; refine (HBG.out _ HG.out HR.out).mono ?_; rintro e u1 ⟨rfl, r1, o1⟩; have R1 := zh r1; have O1 := zh o1; clear r1 o1))
 have HD : Hid (Dgb u1 b l) := zh ⟨first, r, R1.out, HB.out⟩
 clear HBG hc0 HR HB R1
 rotate_left
 have hl0 : 0 < l.length := List.length_pos_iff.2 hl
 obtain ⟨n, hn⟩ : ∃ n, l.length = n := ⟨_, rfl⟩
 rw [hn] at hcell hl0
 have hb1 : ((n : Int) == 0) = false := by simp; omega
 have HD : Hid (Dgb w b l) := zh ⟨h, r, hr, hH.begun hl⟩
 have O1 : Hid (Only b w w) := zh (Only.refl b w)
 clear hg hr hH hs hl hn
 go_enter Tryz.func123, Tryz.ntmps123
 go_wp2
 clear hcell hb1 hl0
 all_goals
  clear h r
  go_loopw [1] (fun x wr => ∃ (j : Nat) (t : ByteArray), j <= s.size ∧ x = .string t ∧ t.data.toList = s.data.toList.drop j ∧ Dgb wr b (l ++ s.data.toList.take j) ∧ Only b w wr) (fun x _ => match x with | .string t => t.size | _ => 0)
  case atStart => exact ⟨0, s, by omega, rfl, by simp, by rw [List.take_zero, List.append_nil]; exact HD.out, O1.out⟩
  case round =>
   clear HD O1; obtain ⟨j, t, hj, rfl, htl, hd, ho⟩ := hrel; obtain ⟨h, r, hr, hH⟩ := hd
   have ht : t.size = s.size - j := by rw [<- zai, htl, List.length_drop, zai]
   have hgl : Glob wr := HG.out.only ho hb2
   obtain ⟨n, hn⟩ : ∃ n, (l ++ s.data.toList.take j).length = n := ⟨_, rfl⟩
   have hn2 : n = l.length + j := by rw [<- hn, List.length_append, List.length_take, zai]; omega
   rw [hn] at hr
   by_cases hlt : 0 < t.size
   .obtain ⟨q, hq⟩ : ∃ q, n % 64 = q := ⟨_, rfl⟩
    obtain ⟨d, hdd⟩ : ∃ d, 64 - q = d := ⟨_, rfl⟩; obtain ⟨m, hm⟩ : ∃ m, Nat.min t.size d = m := ⟨_, rfl⟩; obtain ⟨n2, hn3⟩ : ∃ n2, n + m = n2 := ⟨_, rfl⟩
    have hm1 : m <= t.size := by rw [<- hm]; exact Nat.min_le_left _ _
    have hm2 : m <= d := by rw [<- hm]; exact Nat.min_le_right _ _
    have hm0 : 0 < m := by rw [<- hm]; exact Nat.lt_min.2 ⟨hlt, by omega⟩
    obtain ⟨x, hx⟩ : ∃ x, t.data.toList.take m = x := ⟨_, rfl⟩
    have hxl : x.length = m := by rw [<- hx, List.length_take, zai]; omega
    have hlx : (l ++ s.data.toList.take j) ++ x = l ++ s.data.toList.take (j + m) := by rw [List.append_assoc, <- hx, htl, <- List.take_add]
    have hstep := hH.step x (by rw [hxl]; exact hm0) q (by rw [hn]; exact hq)
    rw [hlx, hxl] at hstep; obtain ⟨r2, hr2⟩ : ∃ r2, r.take q ++ x ++ r.drop (q + m) = r2 := ⟨_, rfl⟩; rw [hr2] at hstep
    have hr2l : r2.length = 64 := by rw [<- hr2]; have := hH.block; simp [hxl]; omega
    have hnx : (l ++ s.data.toList.take (j + m)).length = n2 := by rw [<- hlx, List.length_append, hn, hxl, hn3]
    have cn : wr.cell? ⟨b, 72, none⟩ = some (.int .i64 (n : Int)) := by rw [hr.cell, zer _ _ _ hH.eight hH.block]
    have R0 := zh hr.drew; rw [zbea h r n q m] at R0
    have LX : Hid ((u32s h ++ bytes (r.take q)).length = 8 + q) := zh (by rw [List.length_append, zax, zaa, hH.eight, List.length_take, hH.block]; omega)
    have LY : Hid ((bytes ((r.drop q).take m)).length = m) := zh (by rw [zaa, List.length_take, List.length_drop, hH.block]; omega)
    have HJ : Hid ((u32s h ++ bytes (r.take q)) ++ bytes (t.data.toList.take m) ++ (bytes (r.drop (q + m)) ++ [.int .i64 (n : Int)]) = dig h r2 n) := zh (by rw [zbht _ _ _ _ _ _ (by rw [hx, hxl]), hx, hxl, hr2])
    have HM := zh hm; have H8 := zh hH.eight; have HR2 := zh hr2l; have HNX := zh hnx
    have HX1 : Hid ((t.extract m t.size).data.toList = s.data.toList.drop (j + m)) := zh (by rw [zui, htl, List.drop_drop])
    have HTS := zh ht; have HO := zh ho.drew
    have HGL : Hid (Glob wr.drew) := zh (hgl.step (zb).drew)
    have h64 : 64 - q = d := hdd
    have e1 : (n : Int) % 64 = (q : Int) := by omega
    have e1t : (n : Int).tmod 64 = (q : Int) := by rw [Int.tmod_eq_emod_of_nonneg (by omega)]; exact e1
    have e2 : (n : Int) + (m : Int) = (n2 : Int) := by omega
    have hq1 : (q : Int) < 64 := by omega
    have hq2 : q <= 64 := by omega
    have hq3 : (q : Int) <= 64 := by omega
    have hm3 : (m : Int) <= (t.size : Int) := by omega
    have hm4 : m <= t.size := hm1
    have hne : ¬ 64 = q := by omega
    have hw2 : IntKind.i64.wrap (n2 : Int) = (n2 : Int) := IntWalk.i64_in _ (by have := HS.out; omega)
    have hlen72 : Hid (72 < (dig h r2 n).length) := zh (by rw [ziw _ _ _ hH.eight hr2l]; omega)
    have hv1 : Hid ((Value.int .i64 (n2 : Int)).cells = #[Value.int .i64 (n2 : Int)]) := zh rfl
    have hv2 : Hid ((Value.int .i64 (n2 : Int)).oneCell' = true) := zh rfl
    have HXS : Hid ((t.extract m t.size).size < t.size) := zh (by rw [<- zai, HX1.out, List.length_drop, zai]; omega)
    have HJM : Hid (j + m <= s.size) := zh (by omega)
    by_cases hqm : q + m = 64
    .have e3 : (n2 : Int) % 64 = 0 := by omega
     have e3t : (n2 : Int).tmod 64 = 0 := by rw [Int.tmod_eq_emod_of_nonneg (by omega)]; exact e3
     have HB := zh (hstep.2 hqm); clear hr hH hgl ho htl ht hn hn2 hq hdd hm hm1 hm2 hx hxl hlx hstep hr2 hr2l hnx hn3 hqm; go_wp2
     go_still_tail 10, (by kernel_rfl)
     change wpList _ _ _ _ _ wr.drew
     generalize wr.drew = wq at *
     go_wp2_with (first
      | ((with_reducible refine R0.out.wpCopyK LX.out 9 d Tryz.underlying107 zhh HM.out LY.out ?_ ?_); rfl; intro u2 r3 o3 s3; have R2 : Hid (Row u2 b 200 (dig h r2 n)) := zh (by rw [<- HJ.out]; exact r3); have O2 := zh o3; have cn2 : u2.cell? ⟨b, 72, none⟩ = some (.int .i64 (n : Int)) := (by rw [R2.out.cell, zer _ _ _ H8.out HR2.out]); clear r3 o3 s3)
      | ((with_reducible refine R2.out.wpStore1K 72 3 (.int .i64 (n2 : Int)) zwi hlen72.out hv1.out hv2.out ?_ ?_); rfl; intro u3 r4 o4 s4; have R3 : Hid (Row u3 b 200 (dig h r2 n2)) := zh (by rw [<- zzi h r2 n n2 H8.out HR2.out]; exact r4); have O3 := zh o4; have cn3 : u3.cell? ⟨b, 72, none⟩ = some (.int .i64 (n2 : Int)) := (by rw [R3.out.cell, zer _ _ _ H8.out HR2.out]); clear r4 o4 s4))
     have D3 : Hid (Row u3.drew b 200 (u32s h ++ bytes r2 ++ [.int .i64 (n2 : Int)])) := zh R3.out.drew
     have D4 : Hid (Row u3.drew b 200 (dig h r2 n2)) := D3
     have G3 : Hid (Glob u3.drew) := zh (((HGL.out.only O2.out hb2).only O3.out hb2).step (zb).drew)
     have O3d : Hid (Only b w u3.drew) := zh ((HO.out.trans O2.out).trans O3.out).drew
     have LH8 : Hid ((u32s h).length = 8) := zh (by rw [zax, H8.out])
     have LR8 : Hid ((bytes r2).length = 64) := zh (by rw [zaa, HR2.out])
     clear R2 O2 R3 O3 cn2 cn3 HO HGL HJ HM
     refine wp_region_still_tail 7 (by kernel_rfl) (by kernel_rfl) ?_
     simp only [List.take_succ_cons, List.take_zero, List.drop_succ_cons, List.drop_zero]
     iterate 6 still_step
     refine D3.out.stillLoadMid 8 LH8.out 198 zqt LR8.out rfl ?_
     refine wpStill_nil ?_
     change wpList _ _ _ _ _ u3.drew
     generalize u3.drew = wx at *
     go_wp2_with (go_at_call 149; refine (zbmm b h r2 n2 _ G3.out hb2 D4.out H8.out HR2.out).mono ?_; rintro e u4 ⟨rfl, r4, o4⟩; have R4 := zh r4; have O4 := zh o4; clear r4 o4)
     go_roundw
     case rel => exact ⟨j + m, t.extract m t.size, HJM.out, rfl, HX1.out, ⟨_, _, by rw [HNX.out]; exact R4.out, HB.out⟩, O3d.out.trans O4.out⟩
     case measure => exact HXS.out
    .have e3 : (n2 : Int) % 64 = ((q + m : Nat) : Int) := by omega
     obtain ⟨q2, hq2'⟩ : ∃ q2, q + m = q2 := ⟨_, rfl⟩; rw [hq2'] at e3
     have e3t : (n2 : Int).tmod 64 = (q2 : Int) := by rw [Int.tmod_eq_emod_of_nonneg (by omega)]; exact e3
     have e3b : ((q2 : Int) == 0) = false := by simp; omega
     have HB := zh (hstep.1 (by omega))
     clear hq2' hr hH hgl ho htl ht hn hn2 hq hdd hm hm1 hm2 hx hxl hlx hstep hr2 hr2l hnx hn3 hqm; go_wp2
     go_still_tail 10, (by kernel_rfl)
     change wpList _ _ _ _ _ wr.drew
     generalize wr.drew = wq at *
     go_wp2_with (first
      | ((with_reducible refine R0.out.wpCopyK LX.out 9 d Tryz.underlying107 zhh HM.out LY.out ?_ ?_); rfl; intro u2 r3 o3 s3; have R2 : Hid (Row u2 b 200 (dig h r2 n)) := zh (by rw [<- HJ.out]; exact r3); have O2 := zh o3; have cn2 : u2.cell? ⟨b, 72, none⟩ = some (.int .i64 (n : Int)) := (by rw [R2.out.cell, zer _ _ _ H8.out HR2.out]); clear r3 o3 s3)
      | ((with_reducible refine R2.out.wpStore1K 72 3 (.int .i64 (n2 : Int)) zwi hlen72.out hv1.out hv2.out ?_ ?_); rfl; intro u3 r4 o4 s4; have R3 : Hid (Row u3 b 200 (dig h r2 n2)) := zh (by rw [<- zzi h r2 n n2 H8.out HR2.out]; exact r4); have O3 := zh o4; have cn3 : u3.cell? ⟨b, 72, none⟩ = some (.int .i64 (n2 : Int)) := (by rw [R3.out.cell, zer _ _ _ H8.out HR2.out]); clear r4 o4 s4))
     go_roundw
     case rel => exact ⟨j + m, t.extract m t.size, HJM.out, rfl, HX1.out, ⟨_, _, by rw [HNX.out]; exact R3.out, HB.out⟩, (HO.out.trans O2.out).trans O3.out⟩
     case measure => exact HXS.out
   .have hts : t.size = 0 := by omega
    have HD : Hid (Dg wr b (l ++ s.data.toList)) := zh (by
     have hj2 : j = s.size := by omega
     have e : l ++ s.data.toList.take j = l ++ s.data.toList := by rw [hj2, List.take_of_length_le (by rw [zai]; omega)]
     rw [e] at hn hH; exact ⟨h, r, by rw [hn]; exact hr, hH.held⟩)
    have HO := zh ho; clear hr hH hgl ho htl ht hn hn2; go_wp2
    go_end0
    exact ⟨rfl, HD.out, HO.out⟩
def dig0 : List Value := dig (List.replicate 8 0#32) (List.replicate 64 0) 0
theorem zbdz : Held [] (List.replicate 8 0#32) (List.replicate 64 0) := Held.nil _ _ (by simp) (by simp)
theorem zxk : dig0.length = 73 := ziw _ _ _ (by simp) (by simp)
theorem zbde : Tryz.prog.built 200 [] = some dig0.toArray := by kernel_rfl
theorem zbks : ∀ u, (zeroValue 200).run Tryz.prog u = .ok (.agg dig0.toArray) u := fun u => by kernel_rfl
theorem dg0 {w : World} {b : Nat} (h : Row w b 200 dig0) : Dg w b [] := ⟨_, _, h, zbdz⟩
theorem zyl (w : World) :
  Calls Tryz.prog 87 #[] w fun e w' => e = .returned (.pointer (some ⟨w.heap.size, 0, none⟩)) ∧ Dg w' w.heap.size [] ∧ Below w.heap.size w w' ∧ w'.heap.size = w.heap.size + 1 := by
 obtain ⟨D, hD⟩ : ∃ D, D = dig0 := ⟨_, rfl⟩
 have HB : Hid (Tryz.prog.built 200 [] = some D.toArray) := zh (by rw [hD]; exact zbde)
 have HD := zh hD
 clear hD
 go_enter Tryz.func87, Tryz.ntmps87
 go_wp2_with (first
  | ((with_reducible refine wpBuildZeroK D 200 HB.out ?_ ?_); rfl)
  | ((with_reducible refine wpBoxK D 200 ?_ ?_); rfl; intro u0 r0 b0 s0; have R0 := zh r0; have B0 := zh b0; have S0 := zh s0; clear r0 b0 s0))
 go_ret
 exact ⟨rfl, dg0 (by rw [<- HD.out]; exact R0.out), B0.out, S0.out⟩
def Off (w : World) (b : Nat) (a : Option Addr) (xs : List Value) : Prop :=
 0 < xs.length -> ∃ bl off, a = some ⟨bl, off, none⟩ ∧ bl < w.heap.size ∧ bl ≠ b ∧ ∀ j u, xs[j]? = some u -> w.cell? ⟨bl, off + j, none⟩ = some u
theorem Lies.off {w : World} {B b : Nat} {a : Option Addr} {xs : List Value} (h : Lies w B a xs) (hB : B <= b) (hw : B <= w.heap.size) : Off w b a xs := by
 intro hx
 obtain ⟨bl, off, e, hl, hc⟩ := h hx
 exact ⟨bl, off, e, by omega, by omega, hc⟩
theorem Off.only {w w' : World} {b : Nat} {a : Option Addr} {xs : List Value} (h : Off w b a xs) (ho : Only b w w') : Off w' b a xs := by
 intro hx
 obtain ⟨bl, off, e, hl, hne, hc⟩ := h hx
 refine ⟨bl, off, e, Nat.lt_of_lt_of_le hl ho.size, hne, fun j u hj => ?_⟩
 rw [World.cell?_of_block (a := ⟨bl, off + j, none⟩) (ho.2.2.2.2 bl hl hne)]
 exact hc j u hj
theorem zsj (l : List ByteArray) (k : Nat) (h : k < l.length) : (cat (l.take k)).length + l[k].size <= (cat l).length := by
 have e : cat l = cat (l.take (k + 1)) ++ cat (l.drop (k + 1)) := by rw [cat, cat, cat, <- List.flatMap_append, List.take_append_drop]
 rw [e, List.length_append, zbq l k h, znb, List.length_append, zai]
 omega
theorem zbhe (b : Nat) (l0 : List UInt8) (a : Option Addr) (cap : Nat) (l : List ByteArray) (w : World) (hg : Glob w) (hb2 : 2 + 1 <= b) (hd : Dg w b l0) (hl : l.length <= 140737488355328) (ht : l0.length + (cat l).length < 1000000000000) (hr : Off w b a (strs l)) :
  Calls Tryz.prog 88 #[.pointer (some ⟨b, 0, none⟩), .slice a l.length cap] w fun e w' => e = .returned (.tuple #[]) ∧ Dg w' b (l0 ++ cat l) ∧ Only b w w' := by
 have HT : Big (l0.length + (cat l).length < 1000000000000) := ⟨ht⟩
 have HG := zh hg
 have HD := zh hd
 have HR := zh hr
 have HL : Big (l.length <= 140737488355328) := ⟨hl⟩
 clear ht hg hd hr hl
 go_enter Tryz.func88, Tryz.ntmps88
 go_wp2
 go_loopw [10] (fun i wr => ∃ k : Nat, k <= l.length ∧ i = .int .i64 k ∧ Dg wr b (l0 ++ cat (l.take k)) ∧ Only b w wr) (fun i _ => l.length - (intOf i).toNat)
 case atStart => exact ⟨0, by omega, rfl, by rw [List.take_zero, cat, List.flatMap_nil, List.append_nil]; exact HD.out, Only.refl b w⟩
 case round =>
  obtain ⟨k, hk, rfl, hd, ho⟩ := hrel
  by_cases hlt : k < l.length
  .obtain ⟨bl, off, rfl, hbl, hne, hc⟩ := (HR.out.only ho) (by rw [zft]; omega)
   have hcell : wr.cell? ⟨bl, off + k, none⟩ = some (.string l[k]) := hc k _ (zns l k hlt)
   have HT2 : Big ((l0 ++ cat (l.take k)).length + l[k].size < 1000000000000) := ⟨by have := HT.out; have := zsj l k hlt; rw [List.length_append]; omega⟩
   have HCAT : Hid ((l0 ++ cat (l.take k)) ++ l[k].data.toList = l0 ++ cat (l.take (k + 1))) := zh (by rw [zbq l k hlt, znb, List.append_assoc])
   have HDK := zh hd; have HO := zh ho; have HGL := zh (HG.out.only ho hb2); obtain ⟨s, hs⟩ : ∃ s, s = l[k] := ⟨_, rfl⟩; rw [<- hs] at hcell HT2 HCAT
   have hw1 : IntKind.i64.wrap ((k : Int) + 1) = (k : Int) + 1 := IntWalk.i64_in _ (by have := HL.out; omega)
   clear hc hd ho hbl hne hs
   go_wp2_with (go_at_call 123; refine (zli b _ _ _ HGL.out hb2 HDK.out HT2.out).mono ?_; rintro e u1 ⟨rfl, d1, o1⟩; have D1 := zh d1; have O1 := zh o1; clear d1 o1)
   go_roundw
   case rel => exact ⟨k + 1, by omega, by go_num, by rw [<- HCAT.out]; exact D1.out, HO.out.trans O1.out⟩
   case measure => simp [intOf]; omega
  .have HE : Hid (l.take k = l) := zh (List.take_of_length_le (by omega))
   have HDK : Hid (Dg wr b (l0 ++ cat l)) := zh (by rw [<- HE.out]; rw [HE.out] at hd; rw [HE.out]; exact hd)
   have HO := zh ho; clear hd ho; go_wp2
   go_end0
   exact ⟨rfl, HDK.out, HO.out⟩
theorem zbhv (b : Nat) (l : List UInt8) (w : World) (hg : Glob w) (hd : Dg w b l) (hn : l.length < 100000000000) :
  Calls Tryz.prog 89 #[.pointer (some ⟨b, 0, none⟩)] w fun e w' => e = .returned (.agg (bytes (sha l)).toArray) ∧ Below w.heap.size w w' := by
 obtain ⟨h, r, hr, hH⟩ := hd
 obtain ⟨n, hnn⟩ : ∃ n, l.length = n := ⟨_, rfl⟩
 obtain ⟨D, hD⟩ : ∃ D, D = dig0 := ⟨_, rfl⟩
 obtain ⟨O, hO⟩ : ∃ O : List UInt8, O = List.replicate 32 0 := ⟨_, rfl⟩
 obtain ⟨S, hS⟩ : ∃ S, S = bytes (sha l) := ⟨_, rfl⟩
 obtain ⟨T, hT⟩ : ∃ T, T = str (tailL n) := ⟨_, rfl⟩
 have hTl : T.data.toList = tailL l.length := by rw [hT, zcc, hnn]
 have HZ : Hid (∀ u, (zeroValue 200).run Tryz.prog u = .ok (.agg D.toArray) u) := zh (by rw [hD]; exact zbks)
 have HZ2 : Hid (∀ u, (zeroValue 27).run Tryz.prog u = .ok (.agg (bytes O).toArray) u) := zh (by rw [hO]; exact zero32)
 have LD : Hid (D.length = 73) := zh (by rw [hD]; exact zxk)
 have LO : Hid ((bytes O).length = 32) := zh (by rw [zaa, hO]; simp)
 have LS : Hid (S.length = 32) := zh (by rw [hS, zaa, sha_length])
 have HS1 : Hid (S.all (·.oneCell') = true) := zh (by rw [hS]; exact zkm _)
 have LG : Hid ((dig h r n).length = 73) := zh (ziw _ _ _ hH.eight hH.block)
 have HG1 : Hid ((dig h r n).all (·.oneCell') = true) := zh (zblp _ _ _)
 have HLAST : Hid ((dig h r n)[72]? = some (.int .i64 (n : Int))) := zh (zer _ _ _ hH.eight hH.block)
 have HNT : Big (l.length + T.size < 1000000000000) := ⟨by rw [hT, zbc, zww]; omega⟩
 have HTA : Hid (∀ u, Calls Tryz.prog 124 #[.int .i64 (n : Int)] u fun e u' => e = .returned (.string T) ∧ Below u.heap.size u u') := zh fun u => by rw [hT]; exact zwh n u (by omega)
 have HSHA : Hid (∀ h5 r5, Held (l ++ T.data.toList) h5 r5 -> h5.length = 8 ∧ bytes (hashB h5) = S) := zh fun h5 r5 x => by
  rw [hTl] at x
  exact ⟨x.eight, by rw [(x.begun (by simp [tailL])).sha, hS]⟩
 have HDG : Hid (∀ u c, Row u c 200 (dig h r n) -> Dg u c l) := zh fun u c x => ⟨h, r, by rw [hnn]; exact x, hH⟩
 have HG := zh hg
 have hs2 := hg.size
 rw [hnn] at hr
 have HR := zh hr
 clear hr
 rw [<- hS]
 clear hg hH hnn hD hO hn hS hT hTl
 go_enter Tryz.func89, Tryz.ntmps89
 go_wp2_with (first
  | ((with_reducible refine wpAllocK (w := w) (bytes O) 27 HZ2.out ?_ ?_); rfl; intro u1 r1 b1 s1; have Q1 := zh r1; have B1 := zh b1; have S1 := zh s1; clear r1 b1 s1)
  | ((with_reducible refine wpAllocK (w := u1) D 200 HZ.out ?_ ?_); rfl; intro u2 r2 b2 s2; have R2 := zh r2; have B2 := zh (B1.out.next b2); have RB := zh ((HR.out.step B1.out).step b2); have Q2 := zh (Q1.out.step b2); have Z2 : Hid (u1.heap.size <= u2.heap.size) := zh b2.size; clear r2 b2 s2)
  | ((with_reducible refine RB.out.wpLoadK 200 zum LG.out ?_ ?_); rfl)
  | ((with_reducible refine R2.out.wpStoreK 200 (dig h r n) zum LD.out LG.out HG1.out ?_ ?_); rfl; intro u3 r3 o3 s3; have D3 := zh (HDG.out u3 u1.heap.size r3); have cn : u3.cell? ⟨u1.heap.size, 72, none⟩ = some (.int .i64 (n : Int)) := (by rw [r3.cell]; exact HLAST.out); have B3 := zh (B2.out.trans (o3.below B1.out.size B2.out.size)); have Q3 := zh (Q2.out.only o3 (by have := S1.out; omega)); clear r3 o3 s3)
  | (go_at_call 124; refine (HTA.out _).mono ?_; rintro e u4 ⟨rfl, b4⟩; have B4 := zh (B3.out.next b4); have D4 := zh (D3.out.step b4); have Q4 := zh (Q3.out.step b4); clear b4)
  | (go_at_call 123; refine (zli u1.heap.size l _ _ (HG.out.step B4.out) (by have := B1.out.size; omega) D4.out HNT.out).mono ?_; rintro e u5 ⟨rfl, d5, o5⟩; obtain ⟨h5, r5, hr5, hH5⟩ := d5; have L5 := zh (HSHA.out h5 r5 hH5).1; have E5 := zh (HSHA.out h5 r5 hH5).2; have R5 := zh hr5; unfold dig at R5; rw [List.append_assoc, <- List.nil_append (u32s h5 ++ _), <- List.append_assoc] at R5; have LU : Hid ((u32s h5).length = 8) := zh (by rw [zax]; exact L5.out); have B5 := zh (B4.out.trans (o5.below B1.out.size B4.out.size)); have Q5 := zh (Q4.out.only o5 (by have := S1.out; omega)); clear hr5 hH5 o5)
  | ((with_reducible refine R5.out.wpLoadMidK 0 rfl 197 zbbc LU.out ?_ ?_); rfl)
  | (go_at_call 125; refine (zbiq h5 _ L5.out).mono ?_; rw [E5.out]; rintro e u6 ⟨rfl, b6⟩; have B6 := zh (B5.out.next b6); have Q6 := zh (Q5.out.step b6); clear b6)
  | ((with_reducible refine Q6.out.wpStoreK 27 S fits_hash LO.out LS.out HS1.out ?_ ?_); rfl; intro u7 r7 o7 s7; have R7 := zh r7; have O7 := zh o7; clear r7 o7 s7))
 exact bodyPost_ret (R7.out.result rfl _ _ rfl Tryz.underlying27 rfl (by rw [LS.out]; exact fits_hash.size)) rfl ⟨rfl, B6.out.trans (O7.out.below (Nat.le_refl _) B6.out.size)⟩
theorem zym (a : Option Addr) (n cap : Nat) (l : List ByteArray) (w : World) (hn : l.length = n) (hg : Glob w) (hl : n <= 140737488355328) (ht : (cat l).length < 100000000000) (hr : Lies w w.heap.size a (strs l)) :
  Calls Tryz.prog 52 #[.slice a n cap] w fun e w' => e = .returned (.agg (bytes (sha (cat l))).toArray) ∧ Below w.heap.size w w' := by
 subst hn
 obtain ⟨S, hS⟩ : ∃ S, S = bytes (sha (cat l)) := ⟨_, rfl⟩
 obtain ⟨O, hO⟩ : ∃ O : List UInt8, O = List.replicate 32 0 := ⟨_, rfl⟩
 have HZ2 : Hid (∀ u, (zeroValue 27).run Tryz.prog u = .ok (.agg (bytes O).toArray) u) := zh (by rw [hO]; exact zero32)
 have LO : Hid ((bytes O).length = 32) := zh (by rw [zaa, hO]; simp)
 have LS : Hid (S.length = 32) := zh (by rw [hS, zaa, sha_length])
 have HS1 : Hid (S.all (·.oneCell') = true) := zh (by rw [hS]; exact zkm _)
 have HSU : Hid (∀ u b, Glob u -> Dg u b ([] ++ cat l) -> Calls Tryz.prog 89 #[.pointer (some ⟨b, 0, none⟩)] u fun e u' => e = .returned (.agg S.toArray) ∧ Below u.heap.size u u') := zh fun u b g d => by rw [hS]; exact zbhv b _ u g d ht
 have HT : Big (([] : List UInt8).length + (cat l).length < 1000000000000) := ⟨by show 0 + _ < _; omega⟩
 have HL : Big (l.length <= 140737488355328) := ⟨hl⟩
 have HG := zh hg
 have HR := zh hr
 have hs2 := hg.size
 rw [<- hS]
 clear hg hl ht hr hS hO
 go_enter Tryz.func52, Tryz.ntmps52
 go_wp2_with (first
  | ((with_reducible refine wpAllocK (w := w) (bytes O) 27 HZ2.out ?_ ?_); rfl; intro u1 r1 b1 s1; have Q1 := zh r1; have B1 := zh b1; clear r1 b1 s1)
  | (go_at_call 87; refine (zyl _).mono ?_; rintro e u2 ⟨rfl, d2, b2, s2⟩; have D2 := zh d2; have B2 := zh (B1.out.next b2); have Q2 := zh (Q1.out.step b2); have OF : Hid (Off u2 u1.heap.size a (strs l)) := zh ((HR.out.below B2.out).off B1.out.size B2.out.size); clear d2 b2 s2)
  | (go_at_call 88; refine (zbhe _ _ _ _ _ _ (HG.out.step B2.out) (by have := B1.out.size; omega) D2.out HL.out HT.out OF.out).mono ?_; rintro e u3 ⟨rfl, d3, o3⟩; have D3 := zh d3; have B3 := zh (B2.out.trans (o3.below B1.out.size B2.out.size)); have Q3 := zh (Q2.out.only o3 (by have := Q1.out.lt; omega)); clear d3 o3)
  | (go_at_call 89; refine (HSU.out _ _ (HG.out.step B3.out) D3.out).mono ?_; rintro e u4 ⟨rfl, b4⟩; have B4 := zh (B3.out.next b4); have Q4 := zh (Q3.out.step b4); clear b4)
  | ((with_reducible refine Q4.out.wpStoreK 27 S fits_hash LO.out LS.out HS1.out ?_ ?_); rfl; intro u7 r7 o7 s7; have R7 := zh r7; have O7 := zh o7; clear r7 o7 s7))
 exact bodyPost_ret (R7.out.result rfl _ _ rfl Tryz.underlying27 rfl (by rw [LS.out]; exact fits_hash.size)) rfl ⟨rfl, B4.out.trans (O7.out.below (Nat.le_refl _) B4.out.size)⟩
theorem zbhk : ∀ w, (isAgg 5).run Tryz.prog w = .ok false w := fun w => by kernel_rfl
theorem zbgr : ∀ w, (sizeOf 5).run Tryz.prog w = .ok 1 w := fun w => by kernel_rfl
theorem zbkg (a : Option Addr) (n cap : Nat) (l : List ByteArray) (D : List UInt8) (w : World) (hn : l.length = n) (hD : sha (cat l) = D) (hg : Glob w) (hl : Big (n <= 140737488355328)) (ht : Big ((cat l).length < 100000000000)) (hr : Lies w w.heap.size a (strs l)) :
  Calls Tryz.prog 52 #[.slice a n cap] w fun e w' => e = .returned (.agg (bytes D).toArray) ∧ Below w.heap.size w w' := by
 subst hD
 exact zym a n cap l w hn hg hl.out ht.out hr
theorem zoa (l : List UInt8) : bytes l = (l.map fun b => (b.toNat : Int)).map (Value.int .u8) := by simp [bytes]
theorem zbit (D E : List UInt8) : (D.map fun b => (b.toNat : Int)) = (E.map fun b => (b.toNat : Int)) ↔ D = E := by
 constructor
 .intro h
  refine List.map_inj_right (f := fun b : UInt8 => (b.toNat : Int)) ?_ |>.1 h
  intro a b hab
  exact UInt8.toNat_inj.1 (by have h2 : (a.toNat : Int) = (b.toNat : Int) := hab; omega)
 .rintro rfl; rfl
theorem zblr (D E : List UInt8) (hD : D.length = 32) (hE : E.length = 32) (u : World) :
  (Op.equalIn 10000 27 (.agg (bytes D).toArray) (.agg (bytes E).toArray)).run Tryz.prog u = .ok (decide (D = E)) u := by
 rw [zoa, zoa, zir 9998 27 5 32 .u8 _ _ u Tryz.underlying27 Tryz.underlying5 zbgr zbhk (by simpa using hD) (by simpa using hE)]
 congr 1
 exact decide_eq_decide.2 (zbit D E)
end
end Go.Proofs.YtojimgbcghiblaaGreatDoor
namespace Go.Proofs.YtojimgbcghiblaaGreatDoor.ShaMath
def sieve : Nat -> List Nat
 | 0 => []
 | n + 1 => if 2 <= n ∧ (sieve n).all (fun p => n % p != 0) then sieve n ++ [n] else sieve n
def fitN (two : Bool) (p y : Nat) : Bool := if two then decide (y * y <= p * 2 ^ 64) else decide (y * y * y <= p * 2 ^ 96)
end Go.Proofs.YtojimgbcghiblaaGreatDoor.ShaMath
namespace Go.Proofs.YtojimgbcghiblaaGreatDoor
section
open Go.RowKit ShaMath
end
end Go.Proofs.YtojimgbcghiblaaGreatDoor
namespace Go.Proofs.YtojimgbcghiblaaGreatDoor.ShaMath
def val : List Nat -> Nat
 | [] => 0
 | d :: r => d + 65536 * val r
def Parts (l : List Nat) : Prop := ∀ d ∈ l, d < 65536
theorem val_lt : ∀ (l : List Nat), Parts l -> val l < 65536 ^ l.length
 | [], _ => by simp [val]
 | d :: r, h => by
  have h1 := val_lt r (fun x hx => h x (by simp [hx]))
  have h2 := h d (by simp)
  rw [val, List.length_cons, Nat.pow_succ]
  omega
theorem fit_two (p x : Nat) : fitN true p x = decide (x * x <= p * 65536 ^ 4) := rfl
end Go.Proofs.YtojimgbcghiblaaGreatDoor.ShaMath
namespace Go.Proofs.YtojimgbcghiblaaGreatDoor
section
open Go.RowKit ShaMath
end
section
open Go.RowKit HeadMath NumMath
theorem fit_two {x : Int} (h : 0 <= x ∧ x <= 65535) : fitB 2 x = true := by
 unfold fitB
 rw [decide_eq_true_eq]
 have : (256 : Int) ^ (2 : Int).toNat = 65536 := by decide
 omega
theorem zbih {x : Int} (h : 0 <= x ∧ x <= 16777215) : fitB 4 x = true := by
 unfold fitB
 rw [decide_eq_true_eq]
 have : (256 : Int) ^ (4 : Int).toNat = 4294967296 := by decide
 omega
theorem zvp {a b c n : Int} (h : hOk a b c n = true) : putR 2 [a, b, c] = (be 2 a.toNat ++ be 2 b.toNat ++ be 2 c.toNat, 0) := by
 obtain ⟨h1, h2, h3, h4⟩ := zkw h
 rw [ziq (zqk (by omega) (by omega)) (by simp [fitAll, fit_two h1, fit_two h2, fit_two h3])]
 simp [putBytes]
theorem zvo {a b c n : Int} (h : hOk a b c n = true) : putR 4 [n] = (be 4 n.toNat, 0) := by
 obtain ⟨h1, h2, h3, h4⟩ := zkw h
 rw [ziq (zqk (by omega) (by omega)) (by simp [fitAll, zbih h4])]
 simp [putBytes]
theorem zblz (a b c n : Int) (H : List UInt8) (w : World) (g : Nat) (t : TypeId) (h : Row w g t (hdv a b c n H)) : Lies w w.heap.size (some ⟨g, 0, none⟩) (ints [a, b, c]) := by
 intro _
 refine ⟨g, 0, rfl, h.lt, fun j u hu => ?_⟩
 rw [Nat.zero_add, h.cell]
 have hj : j < 3 := by have := (List.getElem?_eq_some_iff.1 hu).1; simpa [ints] using this
 match j, hj with
 | 0, _ => exact hu
 | 1, _ => exact hu
 | 2, _ => exact hu
theorem zur (a b c n : Int) (H : List UInt8) (w : World) (g : Nat) (t : TypeId) (h : Row w g t (hdv a b c n H)) (j : Nat) (hj : j < H.length) : w.cell? ⟨g, 4 + j, none⟩ = some (.int .u8 (H[j].toNat : Int)) := by
 rw [h.cell, hdv, List.getElem?_append_right (by simp)]
 simpa using zez H j hj
theorem zus (a b c n : Int) (H : List UInt8) (w : World) (hok : hOk a b c n = true) (hH : H.length = 32) :
  Calls Tryz.prog 25 #[.agg (hdv a b c n H).toArray] w fun e w' => e = .returned (.tuple #[.string (str (headB a b c n H)), .int .i64 0]) ∧ Below w.heap.size w w' := by
 obtain ⟨TV, hTV⟩ : ∃ T, str (be 2 a.toNat ++ be 2 b.toNat ++ be 2 c.toNat) = T := ⟨_, rfl⟩
 obtain ⟨TN, hTN⟩ : ∃ T, str (be 4 n.toNat) = T := ⟨_, rfl⟩
 obtain ⟨TH, hTH⟩ : ∃ T, str H = T := ⟨_, rfl⟩
 obtain ⟨TR, hTR⟩ : ∃ T, str (headB a b c n H) = T := ⟨_, rfl⟩
 have zV : TV.size = 6 := by rw [<- hTV, zbc]; simp [be_length]
 have zN : TN.size = 4 := by rw [<- hTN, zbc, be_length]
 have zH : TH.size = 32 := by rw [<- hTH, zbc, hH]
 have HRES : Hid (({ data := #[84, 82, 73, 80] } : ByteArray) ++ TV ++ TN ++ TH ++ ({ data := #[0, 0] } : ByteArray) = TR) := zh (by
  rw [<- hTV, <- hTN, <- hTH, <- hTR, show ({ data := #[84, 82, 73, 80] } : ByteArray) = str [84, 82, 73, 80] from rfl, show ({ data := #[0, 0] } : ByteArray) = str [0, 0] from rfl, zcb, zcb, zcb, zcb]
  rfl)
 have s1 : (({ data := #[84, 82, 73, 80] } : ByteArray)).size = 4 := rfl
 have s2 : (({ data := #[84, 82, 73, 80] } : ByteArray) ++ TV).size = 10 := by rw [ByteArray.size_append, zV]; rfl
 have s3 : (({ data := #[84, 82, 73, 80] } : ByteArray) ++ TV ++ TN).size = 14 := by rw [ByteArray.size_append, s2, zN]
 have s4 : (({ data := #[84, 82, 73, 80] } : ByteArray) ++ TV ++ TN ++ TH).size = 46 := by rw [ByteArray.size_append, s3, zH]
 have s5 : (({ data := #[0, 0] } : ByteArray)).size = 2 := rfl
 have HRT : Hid (∀ u, Calls Tryz.prog 55 #[.agg (hdv a b c n H).toArray] u fun e u' => e = .returned (.bool true) ∧ Below u.heap.size u u') := zh fun u => by rw [<- hok]; exact zio a b c n H u
 have HP1 : Hid (∀ u g t, Row u g t (hdv a b c n H) -> Calls Tryz.prog 56 #[.int .i64 2, .slice (some ⟨g, 0, none⟩) 3 3] u fun e u' => e = .returned (.tuple #[.string TV, .int .i64 0]) ∧ Below u.heap.size u u') := zh fun u g t r => by
  rw [<- hTV]; exact zvq 2 _ 3 3 [a, b, c] _ 0 u rfl (zvp hok) (by omega) (zblz a b c n H u g t r)
 have HP2 : Hid (∀ u, Calls Tryz.prog 56 #[.int .i64 4, .slice (some ⟨u.heap.size, 0, none⟩) 1 1] (u.alloc (.cells #[.int .i64 n] 3)) fun e u' => e = .returned (.tuple #[.string TN, .int .i64 0]) ∧ Below u.heap.size u u') := zh fun u => by
  rw [<- hTN]
  exact (zvq 4 _ 1 1 [n] _ 0 (u.alloc (.cells #[.int .i64 n] 3)) rfl (zvo hok) (by omega) (Lies.new (ints [n]) u 3)).mono fun e u' h => ⟨h.1, (zab u _).next h.2⟩
 have HC : Hid (∀ u g t, Row u g t (hdv a b c n H) -> (convert 107 9 (.slice (some ⟨g, 4, none⟩) 32 32)).run Tryz.prog u = .ok (.string TH) u) := zh fun u g t r => by
  rw [<- hTH]; exact conv_bytes g 4 32 H 32 u hH (zur a b c n H u g t r)
 have HL : Hid ((hdv a b c n H).length = 36) := zh (zam a b c n H hH)
 rw [hTR]
 obtain ⟨V, hV⟩ : ∃ V, hdv a b c n H = V := ⟨_, rfl⟩
 have H3 : Hid (V[3]? = some (.int .i64 n)) := zh (by rw [<- hV]; rfl)
 rw [hV] at HRT HP1 HC HL ⊢
 clear hok hH hTV hTN hTH hTR hV
 go_enter Tryz.func25, Tryz.ntmps25
 go_wp2_with (first
  | ((with_reducible refine wpBoxK V 29 ?_ ?_); rfl; intro u1 r1 b1 s1; have R1 := zh r1; have B1 := zh b1; clear r1 b1 s1)
  | ((with_reducible refine R1.out.wpLoadK 29 fits_head HL.out ?_ ?_); rfl)
  | (go_at_call 55; (with_reducible refine (HRT.out u1).mono ?_); rintro e u2 ⟨rfl, b2⟩; have R2 := zh (R1.out.step b2); have B2 := zh (B1.out.next b2); clear b2)
  | (go_at_call 56; (with_reducible refine (HP1.out u2 _ _ R2.out).mono ?_); rintro e u3 ⟨rfl, b3⟩; have R3 := zh (R2.out.step b3); have B3 := zh (B2.out.next b3); have c3 : u3.cell? ⟨w.heap.size, 3, none⟩ = some (.int .i64 n) := R3.out.cell 3 |>.trans H3.out; clear b3)
  | (go_at_call 56; (with_reducible refine (HP2.out u3).mono ?_); rintro e u4 ⟨rfl, b4⟩; have B4 := zh (B3.out.next b4); have hconv := HC.out u4 _ _ (R3.out.step b4); clear b4))
 go_ret2
 exact ⟨by rw [HRES.out]; rfl, B4.out⟩
theorem zxs (a b c n : Int) (H : List UInt8) (w : World) (hok : hOk a b c n = false) (hH : H.length = 32) :
  Calls Tryz.prog 25 #[.agg (hdv a b c n H).toArray] w fun e w' => e = .returned (.tuple #[.string ByteArray.empty, .int .i64 1]) ∧ Below w.heap.size w w' := by
 have HRT : Hid (∀ u, Calls Tryz.prog 55 #[.agg (hdv a b c n H).toArray] u fun e u' => e = .returned (.bool false) ∧ Below u.heap.size u u') := zh fun u => by rw [<- hok]; exact zio a b c n H u
 have HL : Hid ((hdv a b c n H).length = 36) := zh (zam a b c n H hH)
 obtain ⟨V, hV⟩ : ∃ V, hdv a b c n H = V := ⟨_, rfl⟩
 rw [hV] at HRT HL ⊢
 clear hok hH hV
 go_enter Tryz.func25, Tryz.ntmps25
 go_wp2_with (first
  | ((with_reducible refine wpBoxK V 29 ?_ ?_); rfl; intro u1 r1 b1 s1; have R1 := zh r1; have B1 := zh b1; clear r1 b1 s1)
  | ((with_reducible refine R1.out.wpLoadK 29 fits_head HL.out ?_ ?_); rfl)
  | (go_at_call 55; (with_reducible refine (HRT.out u1).mono ?_); rintro e u2 ⟨rfl, b2⟩; have B2 := zh (B1.out.next b2); clear b2))
 go_ret2
 exact ⟨rfl, B2.out⟩
theorem zdf (a b c n : Int) (H : List UInt8) (w : World) (hH : H.length = 32) (T : ByteArray) (E : Int) (h : (hOk a b c n = true ∧ T = str (headB a b c n H) ∧ E = 0) ∨ (hOk a b c n = false ∧ T = ByteArray.empty ∧ E = 1)) :
  Calls Tryz.prog 25 #[.agg (hdv a b c n H).toArray] w fun e w' => e = .returned (.tuple #[.string T, .int .i64 E]) ∧ Below w.heap.size w w' := by
 rcases h with ⟨h, rfl, rfl⟩ | ⟨h, rfl, rfl⟩
 .exact zus a b c n H w h hH
 .exact zxs a b c n H w h hH
end
section
open Go.RowKit
section
variable {P : Program}
end
end
section
open Go.RowKit HeadMath NumMath
def sizesL : List Int := [2, 2, 2, 4]
theorem zpd (L : List UInt8) (h : 10 <= L.length) : takeR L sizesL = ([(val (L.take 2) : Int), (val ((L.drop 2).take 2) : Int), (val ((L.drop 4).take 2) : Int), (val ((L.drop 6).take 4) : Int)], 0) := by
 have e : nwidth sizesL = 10 := by decide
 rw [zwx (by decide) (by rw [e]; exact h)]
 simp [nnums, sizesL, List.drop_drop]
theorem zbgv (L M : List UInt8) (h : 48 <= L.length) (hM : M = L.drop 4 ∨ M = (L.drop 4).take 10) : takeR M sizesL = ([rA L, rB L, rC L, rN L], 0) := by
 rcases hM with rfl | rfl
 .rw [zpd _ (by rw [List.length_drop]; omega)]
  simp [rA, rB, rC, rN, List.drop_drop]
 .rw [zpd _ (by rw [List.length_take, List.length_drop]; omega)]
  simp [rA, rB, rC, rN, List.drop_drop, List.take_take, List.drop_take]
theorem zcn : ∀ u, (zeroValue 29).run Tryz.prog u = .ok (.agg (hdv 0 0 0 0 (List.replicate 32 0)).toArray) u := fun u => by kernel_rfl
theorem zfc : Tryz.prog.built 29 [] = some (hdv 0 0 0 0 (List.replicate 32 0)).toArray := by kernel_rfl
theorem zbbg : One Tryz.prog 3 := One.of (by kernel_rfl)
theorem zmm : One Tryz.prog 5 := One.of (by kernel_rfl)
theorem Lies.short {w : World} {B n : Nat} {a : Option Addr} {xs : List Value} (h : Lies w B a xs) : Lies w B a (xs.take n) := fun h0 => by
 obtain ⟨b, off, e1, e2, e3⟩ := h (by rw [List.length_take] at h0; omega)
 exact ⟨b, off, e1, e2, fun j u hu => e3 j u (by rw [List.getElem?_take] at hu; split at hu; exact hu; cases hu)⟩
section
variable {P : Program}
theorem Row.wpCopyCut {ops : Array Oper} {rest : List Oper} {o : Oper} {a : Act} {w : World} {Q : Exit -> Act -> World -> Prop} {g i m n : Nat} {t T e : TypeId} {x y z news : List Value} {p : Option Addr} (h : Row w g t (x ++ y ++ z)) (hx0 : x.length = i) (T' : TypeId) (dCap sCap : Nat)
  (hT : P.underlying T = some (.slice e)) (he : One P e) (hs : Lies w w.heap.size p news) (hl : news.length = n) (hm : 0 < n) (hd : n <= m) (hy : y.length = n) (h1 : news.all (·.oneCell') = true)
  (ho : copyOf o a = some (T, T', .slice (some ⟨g, i, none⟩) n dCap, .slice p m sCap))
  (k : ∀ w', Row w' g t (x ++ news ++ z) -> Only g w w' -> w'.heap.size = w.heap.size -> wpList P ops Q rest (a.put o.dst (.int .i64 (n : Int))) w') : wpList P ops Q (o :: rest) a w := by
 obtain ⟨ie, ze, hi, hz, h2, h3, h4⟩ := he.row
 obtain ⟨b, off, rfl, hb, hc⟩ := hs (by omega)
 obtain ⟨hg, p', q', hop, hp, hq⟩ := zhy ho
 refine wpList_plain hg fun K hK => ?_
 have hr := run_copy_row (P := P) w T T' o.type e g i n dCap ⟨b, off, none⟩ m sCap (x ++ y ++ z).toArray t news hT (by rw [hi]; simp [h2]) h (by rw [hl]; exact (Nat.min_eq_right hd).symm) (fun j u hj => by rw [Addr.add_mid]; exact hc j u hj)
  (by simp only [List.size_toArray, List.length_append]; omega) (fun v hv => (List.all_eq_true.1 h1) v hv)
 have hcur : ((x ++ y ++ z).toArray.toList.take i ++ news ++ (x ++ y ++ z).toArray.toList.drop (i + news.length)).toArray = (x ++ news ++ z).toArray := by
  congr 1
  have e1 : (x ++ y ++ z).toArray.toList = x ++ (y ++ z) := by simp
  rw [e1, List.take_left' hx0, show i + news.length = i + y.length by omega, <- hx0, <- List.drop_drop, List.drop_left, List.drop_left]
 rw [hcur, hl] at hr
 unfold Oper.wp execOp
 simp only [hop, resolve, invoke, builtin, Sem.run_bind, Sem.run_pure, Result.andThen_ok, List.map_toArray, List.map_cons, List.map_nil, hp, hq, hr]
 exact hK _ _ (k _ (h.put _) ((Only.refl g w).putRow g _ (Or.inl rfl)) (by simp))
end
theorem zsm (s : ByteArray) (L : List UInt8) (a b c n : Int) (H : List UInt8) (w : World) (hL : s.data.toList = L) (hs : s.size <= 140737488355328) (h48 : 48 <= s.size) (ea : rA L = a) (eb : rB L = b) (ec : rC L = c) (en : rN L = n) (eH : rH L = H) :
  Calls Tryz.prog 80 #[.string s] w fun e w' => e = .returned (.agg (hdv a b c n H).toArray) ∧ Below w.heap.size w w' := by
 have hlen : s.data.toList.length = s.size := zai s
 have hTK : takeR (L.drop 4) sizesL = ([a, b, c, n], 0) := by rw [zbgv L _ (by rw [<- hL, hlen]; exact h48) (Or.inl rfl), ea, eb, ec, en]
 obtain ⟨T, hT⟩ : ∃ T, s.extract 4 s.size = T := ⟨_, rfl⟩
 obtain ⟨T2, hT2⟩ : ∃ T, s.extract 14 s.size = T := ⟨_, rfl⟩
 have hTL : T.data.toList = L.drop 4 := by rw [<- hT, zeu, hL]
 have hTL2 : T2.data.toList = L.drop 14 := by rw [<- hT2, zeu, hL]
 have hTz : T.size <= 140737488355328 := by rw [<- zai, hTL, List.length_drop, <- hL, hlen]; omega
 have hT2z : 32 <= T2.size := by rw [<- zai, hTL2, List.length_drop, <- hL, hlen]; omega
 have HT2 : Hid (T2.data.toList.take 32 = H) := zh (by rw [hTL2, <- eH]; rfl)
 have HMN : Hid (Nat.min T2.size 32 = 32) := zh (Nat.min_eq_right hT2z)
 have lH : H.length = 32 := by rw [<- eH]; exact zru L (by rw [<- hL, hlen]; exact h48)
 have HTK : Hid (∀ u, Calls Tryz.prog 120 #[.string T, .slice (some ⟨u.heap.size, 0, none⟩) 4 4] (u.alloc (.cells #[.int .i64 2, .int .i64 2, .int .i64 2, .int .i64 4] 3)) fun e u' => ∃ p cap, e = .returned (.tuple #[.slice p 4 cap, .int .i64 0]) ∧ Lies u' u'.heap.size p (ints [a, b, c, n]) ∧ Below u.heap.size u u') := zh fun u =>
  (zxz T _ _ 4 4 sizesL [a, b, c, n] 0 (u.alloc (.cells #[.int .i64 2, .int .i64 2, .int .i64 2, .int .i64 4] 3)) hTL hTz rfl hTK (by omega) (Lies.new (ints sizesL) u 3)).mono fun e u' h => by
   obtain ⟨p, cap, h1, h2, h3⟩ := h; exact ⟨p, cap, h1, h2, (zab u _).next h3⟩
 obtain ⟨Z, hZ⟩ : ∃ Z, hdv 0 0 0 0 (List.replicate 32 0) = Z := ⟨_, rfl⟩
 have HZ : Hid (∀ u, (zeroValue 29).run Tryz.prog u = .ok (.agg Z.toArray) u) := zh (by rw [<- hZ]; exact zcn)
 have LZ : Hid (Z.length = 36) := zh (by rw [<- hZ]; exact zam _ _ _ _ _ (by simp))
 have LY : Hid ((hdv 0 0 0 n (List.replicate 32 0)).length = 36) := zh (zam _ _ _ _ _ (by simp))
 have Y1 : Hid ((hdv 0 0 0 n (List.replicate 32 0)).all (·.oneCell') = true) := zh (zcd _ _ _ _ _)
 have LO : Hid ((bytes (List.replicate 32 0)).length = 32) := zh (by rw [zaa]; simp)
 have LV : Hid ((hdv a b c n H).length = 36) := zh (zam _ _ _ _ _ lH)
 have V1 : Hid ((hdv a b c n H).all (·.oneCell') = true) := zh (zcd _ _ _ _ _)
 have I1 : Hid ((ints [a, b, c]).all (·.oneCell') = true) := zh rfl
 have h4 : 4 <= s.size := by omega
 have h14 : 14 <= s.size := by omega
 have h4i : (4 : Int) <= (s.size : Int) := by omega
 have h14i : (14 : Int) <= (s.size : Int) := by omega
 clear hlen hTK hTL hTL2 hTz hT2z lH hZ ea eb ec en eH hL h48
 go_enter Tryz.func80, Tryz.ntmps80
 go_wp2_with (first
  | ((with_reducible refine wpAllocK (w := w) Z 29 HZ.out ?_ ?_); rfl; intro u1 r1 b1 s1; have R1 := zh r1; have B1 := zh b1; clear r1 b1 s1)
  | (go_at_call 120; (with_reducible refine (HTK.out u1).mono ?_); rintro e u2 ⟨p, cap, rfl, l2, b2⟩; obtain ⟨gb, go, rfl, hgb, hgc⟩ := l2 (by show 0 < 4; omega); have L2 : Hid (Lies u2 u2.heap.size (some ⟨gb, go, none⟩) (ints [a, b, c, n])) := zh l2; have R2 := zh (R1.out.step b2); have B2 := zh (B1.out.next b2); have cn : u2.cell? ⟨gb, go + 3, none⟩ = some (.int .i64 n) := hgc 3 _ rfl; clear hgc b2 l2)
  | ((with_reducible refine wpAllocK (w := u2) Z 29 HZ.out ?_ ?_); rfl; intro u3 r3 b3 s3; have K3 := zh r3; have L3 := zh (L2.out.below b3); have S3 : Hid (u2.heap.size <= u3.heap.size) := zh b3.size; have R3 := zh (R2.out.step b3); have B3 := zh (B2.out.next b3); clear r3 b3 s3)
  | ((with_reducible refine K3.out.wpStoreK 29 (hdv 0 0 0 n (List.replicate 32 0)) fits_head LZ.out LY.out Y1.out ?_ ?_); rfl; intro u4 r4 o4 s4; have K4 : Hid (Row u4 u2.heap.size 29 ([] ++ [Value.int .i64 0, .int .i64 0, .int .i64 0] ++ (Value.int .i64 n :: bytes (List.replicate 32 0)))) := zh r4; have L4 : Hid (Lies u4 u4.heap.size (some ⟨gb, go, none⟩) (ints [a, b, c])) := zh (((L3.out.short (n := 3)).only o4 S3.out (Nat.le_refl _)).mono (Nat.le_trans S3.out o4.size)); have R4 := zh (R3.out.only o4 (by have := R2.out.lt; omega)); have B4 := zh (B3.out.trans (o4.below B2.out.size B3.out.size)); clear r4 o4 s4)
  | ((with_reducible refine K4.out.wpCopyCut (i := 0) (m := 4) (n := 3) rfl 47 3 cap Tryz.underlying47 zbbg L4.out rfl (by decide) (by decide) rfl I1.out ?_ ?_); rfl; intro u5 r5 o5 s5; have K5 := zh r5; have R5 := zh (R4.out.only o5 (by have := R2.out.lt; omega)); have B5 := zh (B4.out.trans (o5.below B2.out.size B4.out.size)); clear r5 o5 s5))
 go_still_tail 4, (by kernel_rfl)
 change wpList _ _ _ _ _ u5.drew
 have K6 : Hid (Row u5.drew u2.heap.size 29 ([Value.int .i64 a, .int .i64 b, .int .i64 c, .int .i64 n] ++ bytes (List.replicate 32 0) ++ [])) := zh (by rw [List.append_nil]; exact K5.out)
 have R6 := zh R5.out.drew
 have B6 : Hid (Below w.heap.size w u5.drew) := zh (B5.out.drewN 1)
 generalize u5.drew = u6 at *
 go_wp2_with (first
  | ((with_reducible refine K6.out.wpCopyK (i := 4) (s := T2) rfl 9 32 Tryz.underlying107 zmm HMN.out LO.out ?_ ?_); rfl; rw [HT2.out, List.append_nil]; intro u7 r7 o7 s7; have K7 : Hid (Row u7 u2.heap.size 29 (hdv a b c n H)) := zh r7; have R7 := zh (R6.out.only o7 (by have := R2.out.lt; omega)); have B7 := zh (B6.out.trans (o7.below B2.out.size B6.out.size)); clear r7 o7 s7)
  | ((with_reducible refine K7.out.wpLoadK 29 fits_head LV.out ?_ ?_); rfl)
  | ((with_reducible refine R7.out.wpStoreK 29 (hdv a b c n H) fits_head LZ.out LV.out V1.out ?_ ?_); rfl; intro u8 r8 o8 s8; have R8 := zh r8; have O8 := zh o8; clear r8 o8 s8))
 exact bodyPost_ret (R8.out.result rfl _ _ rfl Tryz.underlying29 rfl (by rw [LV.out]; exact fits_head.size)) rfl ⟨rfl, B7.out.trans (O8.out.below (Nat.le_refl _) B7.out.size)⟩
end
section
open Go.RowKit HeadMath NumMath
theorem zbiv {L : List UInt8} (h : isH L = true) : hOk (rA L) (rB L) (rC L) (rN L) = true ∧ headB (rA L) (rB L) (rC L) (rN L) (rH L) = L.take 48 := by
 simpa [isH] using h
theorem zboa {L : List UInt8} (h : isH L = false) (ho : hOk (rA L) (rB L) (rC L) (rN L) = true) : headB (rA L) (rB L) (rC L) (rN L) (rH L) ≠ L.take 48 := by
 simpa [isH, ho] using h
theorem zqc (s : ByteArray) (w : World) (hs : s.size < 48) :
  Calls Tryz.prog 45 #[.string s] w fun e w' => e = .returned (.tuple #[.agg (hdv 0 0 0 0 (List.replicate 32 0)).toArray, .int .i64 13]) ∧ Below w.heap.size w w' := by
 have LY : Hid ((hdv 0 0 0 0 (List.replicate 32 0)).length = 36) := zh (zam _ _ _ _ _ (by simp))
 have Y1 : Hid ((hdv 0 0 0 0 (List.replicate 32 0)).all (·.oneCell') = true) := zh (zcd _ _ _ _ _)
 have hsi : (s.size : Int) < 48 := by omega
 clear hs
 go_enter Tryz.func45, Tryz.ntmps45
 go_wp2_with (first
  | ((with_reducible refine wpAllocK (w := w) (hdv 0 0 0 0 (List.replicate 32 0)) 29 zcn ?_ ?_); rfl; intro u1 r1 b1 s1; have R1 := zh r1; have B1 := zh b1; clear r1 b1 s1)
  | ((with_reducible refine R1.out.wpStoreK 29 (hdv 0 0 0 0 (List.replicate 32 0)) fits_head LY.out LY.out Y1.out ?_ ?_); rfl; intro u2 r2 o2 s2; have R2 := zh r2; have O2 := zh o2; clear r2 o2 s2))
 exact bodyPost_ret (R2.out.resultT rfl _ _ rfl Tryz.underlying29 rfl (by rw [LY.out]; exact fits_head.size)) rfl ⟨rfl, B1.out.trans (O2.out.below (Nat.le_refl _) B1.out.size)⟩
theorem zjz (s : ByteArray) (L : List UInt8) (w : World) (hL : s.data.toList = L) (hs : s.size <= 140737488355328) (h48 : 48 <= s.size) :
  Calls Tryz.prog 45 #[.string s] w fun e w' => (isH L = true -> e = .returned (.tuple #[.agg (hdv (rA L) (rB L) (rC L) (rN L) (rH L)).toArray, .int .i64 0])) ∧ (isH L = false -> e = .returned (.tuple #[.agg (hdv 0 0 0 0 (List.replicate 32 0)).toArray, .int .i64 6])) ∧ Below w.heap.size w w' := by
 have lH : (rH L).length = 32 := zru L (by rw [<- hL, zai]; exact h48)
 have HRD : Hid (∀ u, Calls Tryz.prog 80 #[.string s] u fun e u' => e = .returned (.agg (hdv (rA L) (rB L) (rC L) (rN L) (rH L)).toArray) ∧ Below u.heap.size u u') := zh fun u => zsm s L _ _ _ _ _ u hL hs h48 rfl rfl rfl rfl rfl
 obtain ⟨T, E, hT⟩ : ∃ (T : ByteArray) (E : Int), (hOk (rA L) (rB L) (rC L) (rN L) = true ∧ T = str (headB (rA L) (rB L) (rC L) (rN L) (rH L)) ∧ E = 0) ∨ (hOk (rA L) (rB L) (rC L) (rN L) = false ∧ T = ByteArray.empty ∧ E = 1) := by
  cases h : hOk (rA L) (rB L) (rC L) (rN L) with
  | true => exact ⟨_, _, .inl ⟨rfl, rfl, rfl⟩⟩
  | false => exact ⟨_, _, .inr ⟨rfl, rfl, rfl⟩⟩
 have HPT : Hid (∀ u, Calls Tryz.prog 25 #[.agg (hdv (rA L) (rB L) (rC L) (rN L) (rH L)).toArray] u fun e u' => e = .returned (.tuple #[.string T, .int .i64 E]) ∧ Below u.heap.size u u') := zh fun u => zdf _ _ _ _ _ u lH T E hT
 obtain ⟨X, hX⟩ : ∃ X, s.extract 0 48 = X := ⟨_, rfl⟩
 have hXL : X.data.toList = L.take 48 := by rw [<- hX, zgy, hL]
 have LZ : Hid ((hdv 0 0 0 0 (List.replicate 32 0)).length = 36) := zh (zam _ _ _ _ _ (by simp))
 have Z1 : Hid ((hdv 0 0 0 0 (List.replicate 32 0)).all (·.oneCell') = true) := zh (zcd _ _ _ _ _)
 have HYES : isH L = true -> T = X := fun h => by
  obtain ⟨h1, h2⟩ := zbiv h
  rcases hT with ⟨_, rfl, _⟩ | ⟨h3, _⟩
  .rw [<- zfy X, hXL, h2]
  .rw [h1] at h3; cases h3
 have HNO : isH L = false -> T ≠ X := fun h hTX => by
  rcases hT with ⟨h1, rfl, _⟩ | ⟨_, rfl, _⟩
  .refine zboa h h1 ?_
   rw [<- hXL, <- hTX, zcc]
  .rw [<- hTX] at hXL
   have h0 : L.length = s.size := by rw [<- hL, zai]
   have := congrArg List.length hXL
   rw [List.length_take, h0] at this
   have e : ByteArray.empty.data.toList.length = 0 := rfl
   omega
 obtain ⟨V, hV⟩ : ∃ V, hdv (rA L) (rB L) (rC L) (rN L) (rH L) = V := ⟨_, rfl⟩
 have LV : Hid (V.length = 36) := zh (by rw [<- hV]; exact zam _ _ _ _ _ lH)
 have V1 : Hid (V.all (·.oneCell') = true) := zh (by rw [<- hV]; exact zcd _ _ _ _ _)
 rw [hV] at HRD HPT ⊢
 have h48i : (48 : Int) <= (s.size : Int) := by omega
 have hlt : decide ((s.size : Int) < 48) = false := by rw [decide_eq_false_iff_not]; omega
 obtain ⟨bb, hbb⟩ : ∃ bb, isH L = bb := ⟨_, rfl⟩
 rw [hbb]
 cases bb with
 | true =>
  have hEQ : (T.toList == X.toList) = true := zzb (HYES hbb)
  clear hL hs hT hXL HYES HNO hV lH hbb
  go_enter Tryz.func45, Tryz.ntmps45
  go_wp2_with (first
   | ((with_reducible refine wpAllocK (w := w) (hdv 0 0 0 0 (List.replicate 32 0)) 29 zcn ?_ ?_); rfl; intro u1 r1 b1 s1; have R1 := zh r1; have B1 := zh b1; clear r1 b1 s1)
   | (go_at_call 80; (with_reducible refine (HRD.out u1).mono ?_); rintro e u2 ⟨rfl, b2⟩; have R2 := zh (R1.out.step b2); have B2 := zh (B1.out.next b2); clear b2)
   | ((with_reducible refine wpAllocK (w := u2) (hdv 0 0 0 0 (List.replicate 32 0)) 29 zcn ?_ ?_); rfl; intro u3 r3 b3 s3; have K3 := zh r3; have R3 := zh (R2.out.step b3); have B3 := zh (B2.out.next b3); clear r3 b3 s3)
   | ((with_reducible refine K3.out.wpStoreK 29 V fits_head LZ.out LV.out V1.out ?_ ?_); rfl; intro u4 r4 o4 s4; have K4 := zh r4; have R4 := zh (R3.out.only o4 (by have := R2.out.lt; omega)); have B4 := zh (B3.out.trans (o4.below B2.out.size B3.out.size)); clear r4 o4 s4)
   | ((with_reducible refine K4.out.wpLoadK 29 fits_head LV.out ?_ ?_); rfl)
   | (go_at_call 25; (with_reducible refine (HPT.out u4).mono ?_); rintro e u5 ⟨rfl, b5⟩; have K5 := zh (K4.out.step b5); have R5 := zh (R4.out.step b5); have B5 := zh (B4.out.next b5); clear b5)
   | ((with_reducible refine K5.out.wpLoadK 29 fits_head LV.out ?_ ?_); rfl)
   | ((with_reducible refine R5.out.wpStoreK 29 V fits_head LZ.out LV.out V1.out ?_ ?_); rfl; intro u6 r6 o6 s6; have R6 := zh r6; have O6 := zh o6; clear r6 o6 s6))
  exact bodyPost_ret (R6.out.resultT rfl _ _ rfl Tryz.underlying29 rfl (by rw [LV.out]; exact fits_head.size)) rfl ⟨fun _ => rfl, fun h => (by simp at h), B5.out.trans (O6.out.below (Nat.le_refl _) B5.out.size)⟩
 | false =>
  have hEQ : (T.toList == X.toList) = false := zbda (HNO hbb)
  clear hL hs hT hXL HYES HNO hV lH hbb
  go_enter Tryz.func45, Tryz.ntmps45
  go_wp2_with (first
   | ((with_reducible refine wpAllocK (w := w) (hdv 0 0 0 0 (List.replicate 32 0)) 29 zcn ?_ ?_); rfl; intro u1 r1 b1 s1; have R1 := zh r1; have B1 := zh b1; clear r1 b1 s1)
   | (go_at_call 80; (with_reducible refine (HRD.out u1).mono ?_); rintro e u2 ⟨rfl, b2⟩; have R2 := zh (R1.out.step b2); have B2 := zh (B1.out.next b2); clear b2)
   | ((with_reducible refine wpAllocK (w := u2) (hdv 0 0 0 0 (List.replicate 32 0)) 29 zcn ?_ ?_); rfl; intro u3 r3 b3 s3; have K3 := zh r3; have R3 := zh (R2.out.step b3); have B3 := zh (B2.out.next b3); clear r3 b3 s3)
   | ((with_reducible refine K3.out.wpStoreK 29 V fits_head LZ.out LV.out V1.out ?_ ?_); rfl; intro u4 r4 o4 s4; have K4 := zh r4; have R4 := zh (R3.out.only o4 (by have := R2.out.lt; omega)); have B4 := zh (B3.out.trans (o4.below B2.out.size B3.out.size)); clear r4 o4 s4)
   | ((with_reducible refine K4.out.wpLoadK 29 fits_head LV.out ?_ ?_); rfl)
   | (go_at_call 25; (with_reducible refine (HPT.out u4).mono ?_); rintro e u5 ⟨rfl, b5⟩; have K5 := zh (K4.out.step b5); have R5 := zh (R4.out.step b5); have B5 := zh (B4.out.next b5); clear b5)
   | ((with_reducible refine R5.out.wpStoreK 29 (hdv 0 0 0 0 (List.replicate 32 0)) fits_head LZ.out LZ.out Z1.out ?_ ?_); rfl; intro u6 r6 o6 s6; have R6 := zh r6; have O6 := zh o6; clear r6 o6 s6))
  exact bodyPost_ret (R6.out.resultT rfl _ _ rfl Tryz.underlying29 rfl (by rw [LZ.out]; exact fits_head.size)) rfl ⟨fun h => (by simp at h), fun _ => rfl, B5.out.trans (O6.out.below (Nat.le_refl _) B5.out.size)⟩
def GetIs (L : List UInt8) (V : List Value) (E : Int) : Prop :=
 (L.length < 48 ∧ V = hdv 0 0 0 0 (List.replicate 32 0) ∧ E = 13) ∨ (48 <= L.length ∧ isH L = true ∧ V = hdv (rA L) (rB L) (rC L) (rN L) (rH L) ∧ E = 0) ∨ (48 <= L.length ∧ isH L = false ∧ V = hdv 0 0 0 0 (List.replicate 32 0) ∧ E = 6)
theorem zgx (s : ByteArray) (L : List UInt8) (V : List Value) (E : Int) (w : World) (hL : s.data.toList = L) (hs : s.size <= 140737488355328) (h : GetIs L V E) :
  Calls Tryz.prog 45 #[.string s] w fun e w' => e = .returned (.tuple #[.agg V.toArray, .int .i64 E]) ∧ Below w.heap.size w w' := by
 have hz : L.length = s.size := by rw [<- hL, zai]
 rcases h with ⟨h1, rfl, rfl⟩ | ⟨h1, h2, rfl, rfl⟩ | ⟨h1, h2, rfl, rfl⟩
 .exact zqc s w (by omega)
 .exact (zjz s L w hL hs (by omega)).mono fun e w' h => ⟨h.1 h2, h.2.2⟩
 .exact (zjz s L w hL hs (by omega)).mono fun e w' h => ⟨h.2.1 h2, h.2.2⟩
end
section
open Go.RowKit FlaMath CrcMath GfMath PolyMath RsMath SolMath GeoMath HeadMath NumMath
theorem zpr (a b c n : Int) (H : List UInt8) (d p s : Int) (im : ByteArray) (w : World) (hH : H.length = 32) (hrt : right ⟨d, p, s⟩ = false) :
  Calls Tryz.prog 7 #[geoV ⟨d, p, s⟩, .agg (hdv a b c n H).toArray, .string im] w fun e w' => e = .returned (.tuple #[.slice none 0 0, .int .i64 1]) ∧ Below w.heap.size w w' := by
 obtain ⟨T, E, hT, hE⟩ : ∃ (T : ByteArray) (E : Int), ((hOk a b c n = true ∧ T = str (headB a b c n H) ∧ E = 0) ∨ (hOk a b c n = false ∧ T = ByteArray.empty ∧ E = 1)) ∧ True := by
  cases h : hOk a b c n with
  | true => exact ⟨_, _, .inl ⟨rfl, rfl, rfl⟩, trivial⟩
  | false => exact ⟨_, _, .inr ⟨rfl, rfl, rfl⟩, trivial⟩
 obtain ⟨rt, hrr⟩ : ∃ rt, rt = false := ⟨_, rfl⟩
 rw [<- hrr] at hrt
 have HPU : Hid (∀ u, Calls Tryz.prog 25 #[.agg (hdv a b c n H).toArray] u fun e w' => e = .returned (.tuple #[.string T, .int .i64 E]) ∧ Below u.heap.size u w') := zh fun u => zdf a b c n H u hH T E hT
 have HRT : Hid (∀ u, Calls Tryz.prog 26 #[.agg [Value.int .i64 d, .int .i64 p, .int .i64 s].toArray] u fun e w' => e = .returned (.bool rt) ∧ Below u.heap.size u w') := zh fun u => by rw [<- hrt]; exact zcm ⟨d, p, s⟩ u
 have HV3 : Hid ((hdv a b c n H)[3]? = some (.int .i64 n)) := zh rfl
 have LV : Hid ((hdv a b c n H).length = 36) := zh (zam a b c n H hH)
 have HV1 := zh (zcd a b c n H)
 obtain ⟨V, hV⟩ : ∃ V, hdv a b c n H = V := ⟨_, rfl⟩
 rw [hV] at HPU HV3 LV HV1 ⊢
 clear hV hH
 subst hrr
 clear hrt hT hE
 show Calls Tryz.prog 7 #[.agg [Value.int .i64 d, .int .i64 p, .int .i64 s].toArray, .agg V.toArray, .string im] w _
 go_enter Tryz.func7, Tryz.ntmps7
 go_wp2_with (first
  | ((with_reducible refine wpBoxK (w := w) [Value.int .i64 d, .int .i64 p, .int .i64 s] 23 ?_ ?_); rfl; intro u1 r1 b1 s1; have RG1 := zh r1; have B1 := zh b1; clear r1 b1 s1)
  | ((with_reducible refine wpBoxK (w := u1) V 29 ?_ ?_); rfl; intro u2 r2 b2 s2; have RH2 := zh r2; have RG2 := zh (RG1.out.step b2); have B2 := zh (B1.out.next b2); clear r2 b2 s2)
  | ((with_reducible refine RH2.out.wpLoadK 29 fits_head LV.out ?_ ?_); rfl)
  | (go_at_call 25; (with_reducible refine (HPU.out u2).mono ?_); rintro e u3 ⟨rfl, b3⟩; have RH3 := zh (RH2.out.step b3); have RG3 := zh (RG2.out.step b3); have B3 := zh (B2.out.next b3); clear b3)
  | ((with_reducible refine RG3.out.wpLoadK 23 fits_geo rfl ?_ ?_); rfl)
  | (go_at_call 26; (with_reducible refine (HRT.out u3).mono ?_); rintro e u4 ⟨rfl, b4⟩; have cn := ((RH3.out.step b4).cell 3).trans HV3.out; have RH4 := zh (RH3.out.step b4); have RG4 := zh (RG3.out.step b4); have B4 := zh (B3.out.next b4); clear b4))
 go_ret2
 exact ⟨rfl, B4.out⟩
theorem zps (a b c n : Int) (H : List UInt8) (d p s : Int) (im : ByteArray) (w : World) (hH : H.length = 32) (hrt : right ⟨d, p, s⟩ = true) (hok : hOk a b c n = false) :
  Calls Tryz.prog 7 #[geoV ⟨d, p, s⟩, .agg (hdv a b c n H).toArray, .string im] w fun e w' => e = .returned (.tuple #[.slice none 0 0, .int .i64 1]) ∧ Below w.heap.size w w' := by
 obtain ⟨T, E, hT, hE⟩ : ∃ (T : ByteArray) (E : Int), ((hOk a b c n = true ∧ T = str (headB a b c n H) ∧ E = 0) ∨ (hOk a b c n = false ∧ T = ByteArray.empty ∧ E = 1)) ∧ E = 1 := ⟨_, _, .inr ⟨hok, rfl, rfl⟩, rfl⟩
 obtain ⟨rt, hrr⟩ : ∃ rt, rt = true := ⟨_, rfl⟩
 rw [<- hrr] at hrt
 have HPU : Hid (∀ u, Calls Tryz.prog 25 #[.agg (hdv a b c n H).toArray] u fun e w' => e = .returned (.tuple #[.string T, .int .i64 E]) ∧ Below u.heap.size u w') := zh fun u => zdf a b c n H u hH T E hT
 have HRT : Hid (∀ u, Calls Tryz.prog 26 #[.agg [Value.int .i64 d, .int .i64 p, .int .i64 s].toArray] u fun e w' => e = .returned (.bool rt) ∧ Below u.heap.size u w') := zh fun u => by rw [<- hrt]; exact zcm ⟨d, p, s⟩ u
 have HV3 : Hid ((hdv a b c n H)[3]? = some (.int .i64 n)) := zh rfl
 have LV : Hid ((hdv a b c n H).length = 36) := zh (zam a b c n H hH)
 have HV1 := zh (zcd a b c n H)
 obtain ⟨V, hV⟩ : ∃ V, hdv a b c n H = V := ⟨_, rfl⟩
 rw [hV] at HPU HV3 LV HV1 ⊢
 clear hV hH
 subst hrr
 subst hE
 clear hrt hT hok
 show Calls Tryz.prog 7 #[.agg [Value.int .i64 d, .int .i64 p, .int .i64 s].toArray, .agg V.toArray, .string im] w _
 go_enter Tryz.func7, Tryz.ntmps7
 go_wp2_with (first
  | ((with_reducible refine wpBoxK (w := w) [Value.int .i64 d, .int .i64 p, .int .i64 s] 23 ?_ ?_); rfl; intro u1 r1 b1 s1; have RG1 := zh r1; have B1 := zh b1; clear r1 b1 s1)
  | ((with_reducible refine wpBoxK (w := u1) V 29 ?_ ?_); rfl; intro u2 r2 b2 s2; have RH2 := zh r2; have RG2 := zh (RG1.out.step b2); have B2 := zh (B1.out.next b2); clear r2 b2 s2)
  | ((with_reducible refine RH2.out.wpLoadK 29 fits_head LV.out ?_ ?_); rfl)
  | (go_at_call 25; (with_reducible refine (HPU.out u2).mono ?_); rintro e u3 ⟨rfl, b3⟩; have RH3 := zh (RH2.out.step b3); have RG3 := zh (RG2.out.step b3); have B3 := zh (B2.out.next b3); clear b3)
  | ((with_reducible refine RG3.out.wpLoadK 23 fits_geo rfl ?_ ?_); rfl)
  | (go_at_call 26; (with_reducible refine (HRT.out u3).mono ?_); rintro e u4 ⟨rfl, b4⟩; have cn := ((RH3.out.step b4).cell 3).trans HV3.out; have RH4 := zh (RH3.out.step b4); have RG4 := zh (RG3.out.step b4); have B4 := zh (B3.out.next b4); clear b4))
 go_ret2
 exact ⟨rfl, B4.out⟩
theorem zpt (a b c n : Int) (H : List UInt8) (d p s : Int) (im : ByteArray) (w : World) (hH : H.length = 32) (hrt : right ⟨d, p, s⟩ = true) (hok : hOk a b c n = true) (hn : n ≠ (im.size : Int)) :
  Calls Tryz.prog 7 #[geoV ⟨d, p, s⟩, .agg (hdv a b c n H).toArray, .string im] w fun e w' => e = .returned (.tuple #[.slice none 0 0, .int .i64 1]) ∧ Below w.heap.size w w' := by
 obtain ⟨T, E, hT, hE⟩ : ∃ (T : ByteArray) (E : Int), ((hOk a b c n = true ∧ T = str (headB a b c n H) ∧ E = 0) ∨ (hOk a b c n = false ∧ T = ByteArray.empty ∧ E = 1)) ∧ E = 0 := ⟨_, _, .inl ⟨hok, rfl, rfl⟩, rfl⟩
 obtain ⟨rt, hrr⟩ : ∃ rt, rt = true := ⟨_, rfl⟩
 rw [<- hrr] at hrt
 have HPU : Hid (∀ u, Calls Tryz.prog 25 #[.agg (hdv a b c n H).toArray] u fun e w' => e = .returned (.tuple #[.string T, .int .i64 E]) ∧ Below u.heap.size u w') := zh fun u => zdf a b c n H u hH T E hT
 have HRT : Hid (∀ u, Calls Tryz.prog 26 #[.agg [Value.int .i64 d, .int .i64 p, .int .i64 s].toArray] u fun e w' => e = .returned (.bool rt) ∧ Below u.heap.size u w') := zh fun u => by rw [<- hrt]; exact zcm ⟨d, p, s⟩ u
 have HV3 : Hid ((hdv a b c n H)[3]? = some (.int .i64 n)) := zh rfl
 have LV : Hid ((hdv a b c n H).length = 36) := zh (zam a b c n H hH)
 have HV1 := zh (zcd a b c n H)
 obtain ⟨V, hV⟩ : ∃ V, hdv a b c n H = V := ⟨_, rfl⟩
 rw [hV] at HPU HV3 LV HV1 ⊢
 clear hV hH
 subst hrr
 subst hE
 have n1 : (n != (im.size : Int)) = true := bne_iff_ne.2 hn
 have n2 : (n == (im.size : Int)) = false := beq_eq_false_iff_ne.2 hn
 clear hrt hT hok
 show Calls Tryz.prog 7 #[.agg [Value.int .i64 d, .int .i64 p, .int .i64 s].toArray, .agg V.toArray, .string im] w _
 go_enter Tryz.func7, Tryz.ntmps7
 go_wp2_with (first
  | ((with_reducible refine wpBoxK (w := w) [Value.int .i64 d, .int .i64 p, .int .i64 s] 23 ?_ ?_); rfl; intro u1 r1 b1 s1; have RG1 := zh r1; have B1 := zh b1; clear r1 b1 s1)
  | ((with_reducible refine wpBoxK (w := u1) V 29 ?_ ?_); rfl; intro u2 r2 b2 s2; have RH2 := zh r2; have RG2 := zh (RG1.out.step b2); have B2 := zh (B1.out.next b2); clear r2 b2 s2)
  | ((with_reducible refine RH2.out.wpLoadK 29 fits_head LV.out ?_ ?_); rfl)
  | (go_at_call 25; (with_reducible refine (HPU.out u2).mono ?_); rintro e u3 ⟨rfl, b3⟩; have RH3 := zh (RH2.out.step b3); have RG3 := zh (RG2.out.step b3); have B3 := zh (B2.out.next b3); clear b3)
  | ((with_reducible refine RG3.out.wpLoadK 23 fits_geo rfl ?_ ?_); rfl)
  | (go_at_call 26; (with_reducible refine (HRT.out u3).mono ?_); rintro e u4 ⟨rfl, b4⟩; have cn := ((RH3.out.step b4).cell 3).trans HV3.out; have RH4 := zh (RH3.out.step b4); have RG4 := zh (RG3.out.step b4); have B4 := zh (B3.out.next b4); clear b4))
 go_ret2
 exact ⟨rfl, B4.out⟩
theorem zpu (a b c n : Int) (H : List UInt8) (d p s : Int) (im : ByteArray) (w : World) (hH : H.length = 32) (hrt : right ⟨d, p, s⟩ = true) (hok : hOk a b c n = true) (hn : n = (im.size : Int)) (hlong : room ⟨d, p, s⟩ < n) :
  Calls Tryz.prog 7 #[geoV ⟨d, p, s⟩, .agg (hdv a b c n H).toArray, .string im] w fun e w' => e = .returned (.tuple #[.slice none 0 0, .int .i64 12]) ∧ Below w.heap.size w w' := by
 obtain ⟨T, E, hT, hE⟩ : ∃ (T : ByteArray) (E : Int), ((hOk a b c n = true ∧ T = str (headB a b c n H) ∧ E = 0) ∨ (hOk a b c n = false ∧ T = ByteArray.empty ∧ E = 1)) ∧ E = 0 := ⟨_, _, .inl ⟨hok, rfl, rfl⟩, rfl⟩
 have HRM : Hid (∀ u, Calls Tryz.prog 18 #[.agg #[Value.int .i64 d, .int .i64 p, .int .i64 s]] u fun e w' => e = .returned (.int .i64 (room ⟨d, p, s⟩)) ∧ Below u.heap.size u w') := zh fun u => zhb ⟨d, p, s⟩ u
 obtain ⟨rm, hrm⟩ : ∃ rm, room ⟨d, p, s⟩ = rm := ⟨_, rfl⟩
 rw [hrm] at HRM hlong
 obtain ⟨rt, hrr⟩ : ∃ rt, rt = true := ⟨_, rfl⟩
 rw [<- hrr] at hrt
 have HPU : Hid (∀ u, Calls Tryz.prog 25 #[.agg (hdv a b c n H).toArray] u fun e w' => e = .returned (.tuple #[.string T, .int .i64 E]) ∧ Below u.heap.size u w') := zh fun u => zdf a b c n H u hH T E hT
 have HRT : Hid (∀ u, Calls Tryz.prog 26 #[.agg [Value.int .i64 d, .int .i64 p, .int .i64 s].toArray] u fun e w' => e = .returned (.bool rt) ∧ Below u.heap.size u w') := zh fun u => by rw [<- hrt]; exact zcm ⟨d, p, s⟩ u
 have HV3 : Hid ((hdv a b c n H)[3]? = some (.int .i64 n)) := zh rfl
 have LV : Hid ((hdv a b c n H).length = 36) := zh (zam a b c n H hH)
 have HV1 := zh (zcd a b c n H)
 obtain ⟨V, hV⟩ : ∃ V, hdv a b c n H = V := ⟨_, rfl⟩
 rw [hV] at HPU HV3 LV HV1 ⊢
 clear hV hH
 subst hrr
 subst hE
 have n1 : (n != (im.size : Int)) = false := by rw [bne_eq_false_iff_eq]; exact hn
 have n2 : (n == (im.size : Int)) = true := by rw [beq_iff_eq]; exact hn
 clear hrt hT hok hrm hn
 show Calls Tryz.prog 7 #[.agg [Value.int .i64 d, .int .i64 p, .int .i64 s].toArray, .agg V.toArray, .string im] w _
 go_enter Tryz.func7, Tryz.ntmps7
 go_wp2_with (first
  | ((with_reducible refine wpBoxK (w := w) [Value.int .i64 d, .int .i64 p, .int .i64 s] 23 ?_ ?_); rfl; intro u1 r1 b1 s1; have RG1 := zh r1; have B1 := zh b1; clear r1 b1 s1)
  | ((with_reducible refine wpBoxK (w := u1) V 29 ?_ ?_); rfl; intro u2 r2 b2 s2; have RH2 := zh r2; have RG2 := zh (RG1.out.step b2); have B2 := zh (B1.out.next b2); clear r2 b2 s2)
  | ((with_reducible refine RH2.out.wpLoadK 29 fits_head LV.out ?_ ?_); rfl)
  | (go_at_call 25; (with_reducible refine (HPU.out u2).mono ?_); rintro e u3 ⟨rfl, b3⟩; have RH3 := zh (RH2.out.step b3); have RG3 := zh (RG2.out.step b3); have B3 := zh (B2.out.next b3); clear b3)
  | ((with_reducible refine RG3.out.wpLoadK 23 fits_geo rfl ?_ ?_); rfl)
  | (go_at_call 26; (with_reducible refine (HRT.out u3).mono ?_); rintro e u4 ⟨rfl, b4⟩; have cn := ((RH3.out.step b4).cell 3).trans HV3.out; have RH4 := zh (RH3.out.step b4); have RG4 := zh (RG3.out.step b4); have B4 := zh (B3.out.next b4); clear b4))
 obtain ⟨gG, hgG⟩ : ∃ g, w.heap.size = g := ⟨_, rfl⟩
 obtain ⟨gH, hgH⟩ : ∃ g, u1.heap.size = g := ⟨_, rfl⟩
 rw [hgG] at RG4 ⊢
 rw [hgH] at RH4 cn ⊢
 have LTH : Hid (gH < u4.heap.size) := zh RH4.out.lt
 have LTG : Hid (gG < u4.heap.size) := zh RG4.out.lt
 have CN := zh cn
 have G0 : Hid (u4.cell? ⟨gG, 0, none⟩ = some (.int .i64 d)) := zh (RG4.out.cell 0)
 have G1 : Hid (u4.cell? ⟨gG, 1, none⟩ = some (.int .i64 p)) := zh (RG4.out.cell 1)
 have G2 : Hid (u4.cell? ⟨gG, 2, none⟩ = some (.int .i64 s)) := zh (RG4.out.cell 2)
 have HBB := zh (hgG ▸ B4.out)
 have HGG := zh hgG
 clear hgG hgH cn RH2 RG1 RG2 RH3 RG3 B1 B2 B3
 refine zak [(0, 29), (1, 30), (2, 31), (3, 32), (4, 33)]
  (fun ii => [Is (.pointer (some ⟨gH, 3, none⟩)), Is (.int .i64 n), Is (.agg #[(.int .i64 d), (.int .i64 p), (.int .i64 s)]), Is (.int .i64 rm), Is (.bool true)].getD ii (Is undef))
  (fun w' => Below u4.heap.size u4 w') (by kernel_rfl) (by kernel_rfl) (by decide) (by decide) (by kernel_rfl) rfl ?monoq ((zb).drew) ?stepq ?finq
 case monoq =>
  intro i
  match i with
  | 0 | 1 | 2 | 3 | 4 => exact Is.monot _
  | _ + 5 => exact Is.monot _
 case stepq =>
  refine zf ⟨?qs0, zf ⟨?qs1, zf ⟨?qs2, zf ⟨?qs3, zf ⟨?qs4, List.forall_mem_nil _⟩⟩⟩⟩⟩
  case qs0 =>
   intro u wx hg hC; clear hC; refine wpOp_step rfl fun K hK => ?_
   simp only [puts, List.foldl]; go_simp; exact zK hK hg
  case qs1 =>
   intro u wx hg hC; have hJ0 := zj hC 0; clear hC
   have hcl : wx.cell? ⟨gH, 3, none⟩ = some (.int .i64 n) := (hg.cell (p := ⟨gH, 3, none⟩) LTH.out).trans CN.out
   refine wpOp_step rfl fun K hK => ?_
   simp only [puts, List.foldl]; go_simp; exact zK hK hg
  case qs2 =>
   intro u wx hg hC; clear hC
   have hcl0 : wx.cell? ⟨gG, 0, none⟩ = some (.int .i64 d) := (hg.cell (p := ⟨gG, 0, none⟩) LTG.out).trans G0.out
   have hcl1 : wx.cell? ⟨gG, 1, none⟩ = some (.int .i64 p) := (hg.cell (p := ⟨gG, 1, none⟩) LTG.out).trans G1.out
   have hcl2 : wx.cell? ⟨gG, 2, none⟩ = some (.int .i64 s) := (hg.cell (p := ⟨gG, 2, none⟩) LTG.out).trans G2.out
   refine wpOp_step rfl fun K hK => ?_
   simp only [puts, List.foldl]; go_simp; exact zK hK hg
  case qs3 =>
   intro u wx hg hC; have hJ2 := zj hC 2; clear hC; refine wpOp_step rfl fun K hK => ?_
   simp only [puts, List.foldl]; go_simp
   refine (HRM.out wx).mono ?_
   rintro e w' ⟨rfl, hb'⟩
   exact hK _ _ ⟨rfl, rfl, hg.next hb', hb'⟩
  case qs4 =>
   intro u wx hg hC; have hJ1 := zj hC 1; have hJ3 := zj hC 3; clear hC; refine wpOp_step rfl fun K hK => ?_
   simp only [puts, List.foldl]; go_simp; exact zK hK hg
 case finq =>
  intro u w5 hb5 hφ
  have e33 : u 4 = .bool true := hφ (4, 33) (by decide)
  clear hφ
  simp only [puts, List.foldl]
  rw [e33]
  go_simp
  have HB5 := zh (B4.out.next hb5)
  clear hb5 e33
  go_wp2
  go_ret2
  exact ⟨rfl, HB5.out⟩
theorem zkj (a b c n : Int) (H : List UInt8) (d p s : Int) (im : ByteArray) (w : World) (hH : H.length = 32) (hrt : right ⟨d, p, s⟩ = true) (hok : hOk a b c n = true) (hn : n = (im.size : Int)) (hlong : n <= room ⟨d, p, s⟩) (ds : Int) (hds : d * s = ds) (hd0 : 0 <= ds) (hd1 : ds <= 64) (him : im.size <= 20000000) :
  Calls Tryz.prog 7 #[geoV ⟨d, p, s⟩, .agg (hdv a b c n H).toArray, .string im] w fun e w' => (∃ g, e = .returned (.tuple #[.slice (some ⟨g, 0, none⟩) (manyF ds) (manyF ds), .int .i64 0]) ∧ w.heap.size <= g ∧ Row w' g 40 (bytes (splitF (manyF ds) (headB a b c n H ++ im.data.toList)).flatten)) ∧ Below w.heap.size w w' := by
 obtain ⟨T, E, hT, hE⟩ : ∃ (T : ByteArray) (E : Int), ((hOk a b c n = true ∧ T = str (headB a b c n H) ∧ E = 0) ∨ (hOk a b c n = false ∧ T = ByteArray.empty ∧ E = 1)) ∧ E = 0 := ⟨_, _, .inl ⟨hok, rfl, rfl⟩, rfl⟩
 have HRM : Hid (∀ u, Calls Tryz.prog 18 #[.agg #[Value.int .i64 d, .int .i64 p, .int .i64 s]] u fun e w' => e = .returned (.int .i64 (room ⟨d, p, s⟩)) ∧ Below u.heap.size u w') := zh fun u => zhb ⟨d, p, s⟩ u
 obtain ⟨rm, hrm⟩ : ∃ rm, room ⟨d, p, s⟩ = rm := ⟨_, rfl⟩
 rw [hrm] at HRM hlong
 obtain ⟨rt, hrr⟩ : ∃ rt, rt = true := ⟨_, rfl⟩
 rw [<- hrr] at hrt
 have hTz : T.size = 48 := by
  rcases hT with h | h
  .rw [h.2.1, zbc, zcu a b c n H hH]
  .rw [hok] at h; cases h.1
 have hTl : T.data.toList = headB a b c n H := by
  rcases hT with h | h
  .rw [h.2.1, zcc]
  .rw [hok] at h; cases h.1
 have HSP : Hid (∀ u, Calls Tryz.prog 27 #[.string (T ++ im), .int .i64 ds] u fun e w' => ∃ g, e = .returned (.slice (some ⟨g, 0, none⟩) (manyF ds) (manyF ds)) ∧ u.heap.size <= g ∧ Row w' g 40 (bytes (splitF (manyF ds) (headB a b c n H ++ im.data.toList)).flatten) ∧ Below u.heap.size u w') := zh fun u => by
  have h1 := zsu (T ++ im) ds u (by rw [ByteArray.size_append]; omega)
  rwa [ByteArray.data_append, Array.toList_append, hTl] at h1
 obtain ⟨M, hM⟩ : ∃ M, bytes (splitF (manyF ds) (headB a b c n H ++ im.data.toList)).flatten = M := ⟨_, rfl⟩
 obtain ⟨mm, hmm⟩ : ∃ m, manyF ds = m := ⟨_, rfl⟩
 rw [hM, hmm] at HSP
 rw [hM, hmm]
 have hw : wrap64 (d * s) = ds := by unfold wrap64; omega
 have hsz : T.size + im.size <= 20000048 := by omega
 have hnl : ¬ rm < n := by omega
 have hnl2 : decide (rm < n) = false := decide_eq_false hnl
 have HPU : Hid (∀ u, Calls Tryz.prog 25 #[.agg (hdv a b c n H).toArray] u fun e w' => e = .returned (.tuple #[.string T, .int .i64 E]) ∧ Below u.heap.size u w') := zh fun u => zdf a b c n H u hH T E hT
 have HRT : Hid (∀ u, Calls Tryz.prog 26 #[.agg [Value.int .i64 d, .int .i64 p, .int .i64 s].toArray] u fun e w' => e = .returned (.bool rt) ∧ Below u.heap.size u w') := zh fun u => by rw [<- hrt]; exact zcm ⟨d, p, s⟩ u
 have HV3 : Hid ((hdv a b c n H)[3]? = some (.int .i64 n)) := zh rfl
 have LV : Hid ((hdv a b c n H).length = 36) := zh (zam a b c n H hH)
 have HV1 := zh (zcd a b c n H)
 obtain ⟨V, hV⟩ : ∃ V, hdv a b c n H = V := ⟨_, rfl⟩
 rw [hV] at HPU HV3 LV HV1 ⊢
 clear hV hH
 subst hrr
 subst hE
 have n1 : (n != (im.size : Int)) = false := by rw [bne_eq_false_iff_eq]; exact hn
 have n2 : (n == (im.size : Int)) = true := by rw [beq_iff_eq]; exact hn
 clear hrt hT hok hrm hn hM hmm hTl hTz him hds hlong hd0 hd1
 show Calls Tryz.prog 7 #[.agg [Value.int .i64 d, .int .i64 p, .int .i64 s].toArray, .agg V.toArray, .string im] w _
 go_enter Tryz.func7, Tryz.ntmps7
 go_wp2_with (first
  | ((with_reducible refine wpBoxK (w := w) [Value.int .i64 d, .int .i64 p, .int .i64 s] 23 ?_ ?_); rfl; intro u1 r1 b1 s1; have RG1 := zh r1; have B1 := zh b1; clear r1 b1 s1)
  | ((with_reducible refine wpBoxK (w := u1) V 29 ?_ ?_); rfl; intro u2 r2 b2 s2; have RH2 := zh r2; have RG2 := zh (RG1.out.step b2); have B2 := zh (B1.out.next b2); clear r2 b2 s2)
  | ((with_reducible refine RH2.out.wpLoadK 29 fits_head LV.out ?_ ?_); rfl)
  | (go_at_call 25; (with_reducible refine (HPU.out u2).mono ?_); rintro e u3 ⟨rfl, b3⟩; have RH3 := zh (RH2.out.step b3); have RG3 := zh (RG2.out.step b3); have B3 := zh (B2.out.next b3); clear b3)
  | ((with_reducible refine RG3.out.wpLoadK 23 fits_geo rfl ?_ ?_); rfl)
  | (go_at_call 26; (with_reducible refine (HRT.out u3).mono ?_); rintro e u4 ⟨rfl, b4⟩; have cn := ((RH3.out.step b4).cell 3).trans HV3.out; have RH4 := zh (RH3.out.step b4); have RG4 := zh (RG3.out.step b4); have B4 := zh (B3.out.next b4); clear b4))
 obtain ⟨gG, hgG⟩ : ∃ g, w.heap.size = g := ⟨_, rfl⟩
 obtain ⟨gH, hgH⟩ : ∃ g, u1.heap.size = g := ⟨_, rfl⟩
 rw [hgG] at RG4 ⊢
 rw [hgH] at RH4 cn ⊢
 have LTH : Hid (gH < u4.heap.size) := zh RH4.out.lt
 have LTG : Hid (gG < u4.heap.size) := zh RG4.out.lt
 have CN := zh cn
 have G0 : Hid (u4.cell? ⟨gG, 0, none⟩ = some (.int .i64 d)) := zh (RG4.out.cell 0)
 have G1 : Hid (u4.cell? ⟨gG, 1, none⟩ = some (.int .i64 p)) := zh (RG4.out.cell 1)
 have G2 : Hid (u4.cell? ⟨gG, 2, none⟩ = some (.int .i64 s)) := zh (RG4.out.cell 2)
 have HBB := zh (hgG ▸ B4.out)
 have HGG := zh hgG
 clear hgG hgH cn RH2 RG1 RG2 RH3 RG3 B1 B2 B3
 refine zak [(0, 29), (1, 30), (2, 31), (3, 32), (4, 33)]
  (fun ii => [Is (.pointer (some ⟨gH, 3, none⟩)), Is (.int .i64 n), Is (.agg #[(.int .i64 d), (.int .i64 p), (.int .i64 s)]), Is (.int .i64 rm), Is (.bool false)].getD ii (Is undef))
  (fun w' => Below u4.heap.size u4 w') (by kernel_rfl) (by kernel_rfl) (by decide) (by decide) (by kernel_rfl) rfl ?monoq ((zb).drew) ?stepq ?finq
 case monoq =>
  intro i
  match i with
  | 0 | 1 | 2 | 3 | 4 => exact Is.monot _
  | _ + 5 => exact Is.monot _
 case stepq =>
  refine zf ⟨?qs0, zf ⟨?qs1, zf ⟨?qs2, zf ⟨?qs3, zf ⟨?qs4, List.forall_mem_nil _⟩⟩⟩⟩⟩
  case qs0 =>
   intro u wx hg hC; clear hC; refine wpOp_step rfl fun K hK => ?_
   simp only [puts, List.foldl]; go_simp; exact zK hK hg
  case qs1 =>
   intro u wx hg hC; have hJ0 := zj hC 0; clear hC
   have hcl : wx.cell? ⟨gH, 3, none⟩ = some (.int .i64 n) := (hg.cell (p := ⟨gH, 3, none⟩) LTH.out).trans CN.out
   refine wpOp_step rfl fun K hK => ?_
   simp only [puts, List.foldl]; go_simp; exact zK hK hg
  case qs2 =>
   intro u wx hg hC; clear hC
   have hcl0 : wx.cell? ⟨gG, 0, none⟩ = some (.int .i64 d) := (hg.cell (p := ⟨gG, 0, none⟩) LTG.out).trans G0.out
   have hcl1 : wx.cell? ⟨gG, 1, none⟩ = some (.int .i64 p) := (hg.cell (p := ⟨gG, 1, none⟩) LTG.out).trans G1.out
   have hcl2 : wx.cell? ⟨gG, 2, none⟩ = some (.int .i64 s) := (hg.cell (p := ⟨gG, 2, none⟩) LTG.out).trans G2.out
   refine wpOp_step rfl fun K hK => ?_
   simp only [puts, List.foldl]; go_simp; exact zK hK hg
  case qs3 =>
   intro u wx hg hC; have hJ2 := zj hC 2; clear hC; refine wpOp_step rfl fun K hK => ?_
   simp only [puts, List.foldl]; go_simp
   refine (HRM.out wx).mono ?_
   rintro e w' ⟨rfl, hb'⟩
   exact hK _ _ ⟨rfl, rfl, hg.next hb', hb'⟩
  case qs4 =>
   intro u wx hg hC; have hJ1 := zj hC 1; have hJ3 := zj hC 3; clear hC; refine wpOp_step rfl fun K hK => ?_
   simp only [puts, List.foldl]; go_simp; exact zK hK hg
 case finq =>
  intro u w5 hb5 hφ
  have e33 : u 4 = .bool false := hφ (4, 33) (by decide)
  clear hφ
  simp only [puts, List.foldl]
  rw [e33]
  go_simp
  have HB5 := zh (B4.out.next hb5)
  have c0 : w5.cell? ⟨gG, 0, none⟩ = some (.int .i64 d) := (hb5.cell (p := ⟨gG, 0, none⟩) LTG.out).trans G0.out
  have c2 : w5.cell? ⟨gG, 2, none⟩ = some (.int .i64 s) := (hb5.cell (p := ⟨gG, 2, none⟩) LTG.out).trans G2.out
  clear hb5 e33
  go_wp2_with (go_at_call 27; (with_reducible refine (HSP.out w5).mono ?_); rintro e u6 ⟨g6, rfl, q6, r6, b6⟩; have R6 := zh r6; have Q6 : Hid (w.heap.size <= g6) := zh (Nat.le_trans HB5.out.size q6); have B6 := zh (HB5.out.next b6); clear q6 r6 b6)
  go_ret2
  exact ⟨⟨g6, rfl, Q6.out, R6.out⟩, B6.out⟩
def TxP (B mm : Nat) (M : List Value) : Value -> World -> Prop := fun v w => ∃ g, v = .tuple #[.slice (some ⟨g, 0, none⟩) mm mm, .int .i64 0] ∧ B <= g ∧ Row w g 40 M
theorem TxP.monot (B mm : Nat) (M : List Value) : Monot (TxP B mm M) := fun _ _ _ ⟨g, h1, h2, h3⟩ hb => ⟨g, h1, h2, h3.step hb⟩
def SlP (B mm : Nat) (M : List Value) : Value -> World -> Prop := fun v w => ∃ g, v = .slice (some ⟨g, 0, none⟩) mm mm ∧ B <= g ∧ Row w g 40 M
theorem SlP.monot (B mm : Nat) (M : List Value) : Monot (SlP B mm M) := fun _ _ _ ⟨g, h1, h2, h3⟩ hb => ⟨g, h1, h2, h3.step hb⟩
def blF (n : Nat) (T : List UInt8) : Fb := ofL (splitF n T)
theorem zit (n : Nat) (T : List UInt8) : (splitF n T).flatten = grid n (blF n T) := by
 have := zbly (splitF n T) (zjo n T)
 rwa [zgd] at this
theorem zxe {u : World} {g k s t : Nat} {f : Fb} (h : Row u g 40 (bytes (grid (k * s) f))) (ht : t < s) : Lies u u.heap.size (some ⟨g, t * k * 60, none⟩) (bytes (grid k (stF f k t))) := by
 intro _
 obtain ⟨z, hz⟩ := zxp f k ht
 refine ⟨g, t * k * 60, rfl, h.lt, fun j v hj => ?_⟩
 have hl : (bytes (grid (k * t) f)).length = t * k * 60 := by rw [zaa, zan, Nat.mul_comm k t]
 rw [h.cell, hz, zaj, zaj, List.append_assoc, List.getElem?_append_right (by rw [hl]; omega), hl, show t * k * 60 + j - t * k * 60 = j by omega, List.getElem?_append_left (List.getElem?_eq_some_iff.1 hj).1]
 exact hj
theorem Are.geoX {wB w : World} {A : ArD} {D : Dv} (h : Are wB A w D) : Calls Tryz.prog 46 #[.pointer (some ⟨A.c, 0, none⟩)] w fun e w' => e = .returned (.agg #[.int .i64 (A.k : Int), .int .i64 (A.p : Int), .int .i64 (A.s : Int)]) ∧ Below w.heap.size w w' := h.geo
theorem zbcu {q : Nat} (h : q <= 1000) : wrap64 (q : Int) = (q : Int) := by unfold wrap64; omega
theorem zblf {q k mm : Nat} (h : q + k <= mm) (h1 : 1 <= k) : (q : Int) <= (mm : Int) ∧ 0 <= (q : Int) ∧ (k : Int) <= ((mm - q : Nat) : Int) ∧ 0 <= (k : Int) ∧ (mm : Int) - (q : Int) = ((mm - q : Nat) : Int) ∧ (q : Int).toNat = q ∧ k <= mm - q ∧ q <= mm ∧ ¬ mm - q = 0 ∧ ¬ (mm : Int) - (q : Int) = 0 ∧ ¬ mm = q ∧ ¬ mm <= q ∧ ¬ ((mm - q : Nat) : Int) = 0 ∧ ¬ q = mm ∧ ¬ k = 0 :=
 ⟨by omega, by omega, by omega, by omega, by omega, by omega, by omega, by omega, by omega, by omega, by omega, by omega, by omega, by omega, by omega⟩
theorem zol (x y z : Int) : ∀ w : World, (Instr.field 23 (.agg #[.int .i64 x, .int .i64 y, .int .i64 z]) 0).run Tryz.prog w = .ok (.int .i64 x) w := fun _ => by kernel_rfl
theorem zom (x y z : Int) : ∀ w : World, (Instr.field 23 (.agg #[.int .i64 x, .int .i64 y, .int .i64 z]) 2).run Tryz.prog w = .ok (.int .i64 z) w := fun _ => by kernel_rfl
theorem zse (wB : World) (A : ArD) (w : World) (D : Dv) (h : Are wB A w D) (slot : Nat) (hs : slot < 3) (va vb vc vn : Int) (H : List UInt8) (im : ByteArray) (hH : H.length = 32) (hok : hOk va vb vc vn = true) (hn : vn = (im.size : Int)) (hlong : vn <= room (gmN A.k A.p A.s)) :
  Calls Tryz.prog 20 #[.pointer (some ⟨A.a, 0, none⟩), .int .i64 (slot : Int), .agg (hdv va vb vc vn H).toArray, .string im] w fun e w' =>
   e = .returned (.int .i64 (runE (fillF A.n A.s slot fun t => wrS A.k A.p (stF (blF (A.k * A.s) (headB va vb vc vn H ++ im.data.toList)) A.k t)) D)) ∧
   Are wB A w' (runD (fillF A.n A.s slot fun t => wrS A.k A.p (stF (blF (A.k * A.s) (headB va vb vc vn H ++ im.data.toList)) A.k t)) D) ∧ Onl A.sh.S w w' := by
 have hk1 := h.k1
 have hk8 := h.k8
 have hs1 := h.s1
 have hs8 := h.s8
 have hks : A.k * A.s <= 64 := by
  have h1 : A.k * A.s <= 8 * A.s := Nat.mul_le_mul_right _ hk8
  omega
 have hrm : room (gmN A.k A.p A.s) <= 3840 := by
  unfold room
  rw [if_pos h.right]
  show max 0 (60 * (A.k : Int) * A.s - 48) <= 3840
  have h1 : ((A.k * A.s : Nat) : Int) <= 64 := by omega
  rw [Int.mul_assoc, show (A.k : Int) * A.s = ((A.k * A.s : Nat) : Int) from by push_cast; rfl]
  omega
 obtain ⟨f, hf⟩ : ∃ f, blF (A.k * A.s) (headB va vb vc vn H ++ im.data.toList) = f := ⟨_, rfl⟩
 have HTX : Hid (∀ u, Below w.heap.size w u -> Calls Tryz.prog 7 #[.agg #[Value.int .i64 (A.k : Int), .int .i64 (A.p : Int), .int .i64 (A.s : Int)], .agg (hdv va vb vc vn H).toArray, .string im] u fun e w' => (∃ g, e = .returned (.tuple #[.slice (some ⟨g, 0, none⟩) (A.k * A.s) (A.k * A.s), .int .i64 0]) ∧ w.heap.size <= g ∧ Row w' g 40 (bytes (grid (A.k * A.s) f))) ∧ Below u.heap.size u w') := zh fun u hu => by
  have h1 := zkj va vb vc vn H A.k A.p A.s im u hH h.right hok hn hlong ((A.k * A.s : Nat) : Int) (by push_cast; rfl) (by omega) (by omega) (by omega)
  have hm : manyF ((A.k * A.s : Nat) : Int) = A.k * A.s := by unfold manyF; omega
  rw [hm, zit, hf] at h1
  exact h1.mono fun e w' ⟨⟨g, q1, q2, q3⟩, q4⟩ => ⟨⟨g, q1, Nat.le_trans hu.size q2, q3⟩, q4⟩
 have HSL : Hid (∀ k ∈ A.sh.S, k < w.heap.size) := zh h.dev.lt
 have HNN := zh (fun u (hu : Below w.heap.size w u) => (h.step hu).nn)
 have HAR : Hid (∀ u, Below w.heap.size w u -> Are wB A u D) := zh fun u hu => h.step hu
 have HG : Hid (∀ (u : World) (D' : Dv), Are wB A u D' -> Calls Tryz.prog 46 #[.pointer (some ⟨A.c, 0, none⟩)] u fun e w' => e = .returned (.agg #[.int .i64 (A.k : Int), .int .i64 (A.p : Int), .int .i64 (A.s : Int)]) ∧ Below u.heap.size u w') := zh fun u D' h1 => h1.geoX
 have HA0 : Hid (∀ u, Below w.heap.size w u -> u.cell? ⟨A.a, 0, none⟩ = some (.pointer (some ⟨A.c, 0, none⟩))) := zh fun u hu => (h.step hu).a0
 have HA1 : Hid (∀ (u : World) (D' : Dv), Are wB A u D' -> u.cell? ⟨A.a, 0, none⟩ = some (.pointer (some ⟨A.c, 0, none⟩))) := zh fun u D' h1 => h1.a0
 have HAL : Hid (A.a < w.heap.size) := zh h.lt
 have HWR : Hid (∀ (u : World) (D' : Dv) (t cap g : Nat), Are wB A u D' -> t < A.s -> Row u g 40 (bytes (grid (A.k * A.s) f)) -> Calls Tryz.prog 12 #[.pointer (some ⟨A.a, 0, none⟩), .int .i64 (slot : Int), .int .i64 (t : Int), .slice (some ⟨g, t * A.k * 60, none⟩) A.k cap] u fun e w' => e = .returned (.int .i64 (runE (writeF A.n A.s slot t (wrS A.k A.p (stF f A.k t))) D')) ∧ Are wB A w' (runD (writeF A.n A.s slot t (wrS A.k A.p (stF f A.k t))) D') ∧ Onl A.sh.S u w') := zh fun u D' t cap g h1 h2 h3 =>
  zpv wB A u D' h1 slot t hs h2 (some ⟨g, t * A.k * 60, none⟩) cap (stF f A.k t) (zxe h3 h2)
 have LV : Hid ((hdv va vb vc vn H).length = 36) := zh (zam va vb vc vn H hH)
 obtain ⟨V, hV⟩ : ∃ V, hdv va vb vc vn H = V := ⟨_, rfl⟩
 rw [hV] at HTX LV ⊢
 rw [hf]
 obtain ⟨W, hW⟩ : ∃ W : Nat -> List Fop, (fun t => writeF A.n A.s slot t (wrS A.k A.p (stF f A.k t))) = W := ⟨_, rfl⟩
 have HWW : Hid (∀ t, writeF A.n A.s slot t (wrS A.k A.p (stF f A.k t)) = W t) := zh fun t => congrFun hW t
 have HFF : Hid ((fillF A.n A.s slot fun t => wrS A.k A.p (stF f A.k t)) = seqF A.s W) := zh (by rw [<- hW]; rfl)
 rw [HFF.out]
 simp only [HWW.out] at HWR
 have HMM : Hid (∀ t, t < A.s -> t * A.k + A.k <= A.k * A.s) := zh fun t ht => by
  have h1 : A.k * (t + 1) <= A.k * A.s := Nat.mul_le_mul_left _ (by omega)
  rw [Nat.mul_succ, Nat.mul_comm A.k t] at h1
  exact h1
 obtain ⟨mm, hmm⟩ : ∃ m, A.k * A.s = m := ⟨_, rfl⟩
 rw [hmm] at HTX HWR HMM hks
 have HM64 := zh hks
 obtain ⟨M, hM⟩ : ∃ M, bytes (grid mm f) = M := ⟨_, rfl⟩
 rw [hM] at HTX HWR
 obtain ⟨a, ha⟩ : ∃ a, A.a = a := ⟨_, rfl⟩
 obtain ⟨c, hc⟩ : ∃ c, A.c = c := ⟨_, rfl⟩
 obtain ⟨k, hk⟩ : ∃ k, A.k = k := ⟨_, rfl⟩
 obtain ⟨p, hp⟩ : ∃ p, A.p = p := ⟨_, rfl⟩
 obtain ⟨s, hss⟩ : ∃ s, A.s = s := ⟨_, rfl⟩
 rw [ha] at HNN HA0 HA1 HAL HWR ⊢
 rw [hc] at HG HA0 HA1
 rw [hk, hp, hss] at HG HTX
 rw [hk, hss] at HWR HMM
 rw [hss] at hs8 ⊢
 rw [hk] at hk8
 have hsi : (s : Int) <= 8 := by omega
 have hki : (k : Int) <= 8 := by omega
 rw [hk] at hk1
 have HK1 := zh hk1
 have hf0 := zol k p s
 have hf2 := zom k p s
 clear h hs hH hok hn hlong hk1 hs1 hrm hf hV hW HWW HFF hmm hM ha hc hk hp hss hks
 go_enter Tryz.func20, Tryz.ntmps20
 go_wp2_with (first
  | ((with_reducible refine wpBoxK (w := w) V 29 ?_ ?_); rfl; intro w1 r1 b1 s1; have RH1 := zh r1; have B1 := zh b1; clear r1 b1 s1)
  | (go_at_call 51; (with_reducible refine (HNN.out w1 B1.out).mono ?_); rintro e w2 ⟨rfl, b2⟩; have RH2 := zh (RH1.out.step b2); have B2 := zh (B1.out.next b2); clear b2))
 obtain ⟨gH, hgH⟩ : ∃ g, w.heap.size = g := ⟨_, rfl⟩
 have C0 := zh (HA0.out w2 B2.out)
 have HLT : Hid (a < w2.heap.size) := zh (Nat.lt_of_lt_of_le HAL.out B2.out.size)
 have RH2' : Hid (Row w2 gH 29 V) := zh (hgH ▸ RH2.out)
 rw [show ({ block := w.heap.size, off := 0 } : Addr) = ⟨gH, 0, none⟩ from by rw [hgH]]
 clear RH1 RH2 B1
 rename Hid (Row w2 gH 29 V) => RH2
 refine zak [(0, 17), (1, 18), (2, 19), (3, 20), (4, 21), (5, 22), (6, 23), (7, 24), (8, 16), (9, 25), (10, 26), (11, 9), (12, 10)]
  (fun ii => [Is (.pointer (some ⟨a, 0, none⟩)), Is (.pointer (some ⟨a, 0, none⟩)), Is (.pointer (some ⟨a, 0, none⟩)), Is (.pointer (some ⟨c, 0, none⟩)), Is (.agg #[Value.int .i64 (k : Int), .int .i64 (p : Int), .int .i64 (s : Int)]), Is (.agg V.toArray), Is (.string im), TxP w.heap.size mm M, TxP w.heap.size mm M, SlP w.heap.size mm M, Is (.int .i64 0), SlP w.heap.size mm M, Is (.int .i64 0)].getD ii (Is undef))
  (fun w' => Below w2.heap.size w2 w') (by kernel_rfl) (by kernel_rfl) (by decide) (by decide) (by kernel_rfl) rfl ?monoq ((zb).drew) ?stepq ?finq
 case monoq =>
  intro i
  match i with
  | 0 | 1 | 2 | 3 | 4 | 5 | 6 | 10 | 12 => exact Is.monot _
  | 7 | 8 => exact TxP.monot _ _ _
  | 9 | 11 => exact SlP.monot _ _ _
  | _ + 13 => exact Is.monot _
 case stepq =>
  refine zf ⟨?qs0, zf ⟨?qs1, zf ⟨?qs2, zf ⟨?qs3, zf ⟨?qs4, zf ⟨?qs5, zf ⟨?qs6, zf ⟨?qs7, zf ⟨?qs8, zf ⟨?qs9, zf ⟨?qs10, zf ⟨?qs11, zf ⟨?qs12, List.forall_mem_nil _⟩⟩⟩⟩⟩⟩⟩⟩⟩⟩⟩⟩⟩
  case qs0 | qs6 =>
   intro u wx hg hC; clear hC; refine wpOp_step rfl fun K hK => ?_
   simp only [puts, List.foldl]; go_simp; exact zK hK hg
  case qs1 =>
   intro u wx hg hC; have hJ0 := zj hC 0; clear hC; refine wpOp_step rfl fun K hK => ?_
   simp only [puts, List.foldl]; go_simp; exact zK hK hg
  case qs2 =>
   intro u wx hg hC; have hJ1 := zj hC 1; clear hC; refine wpOp_step rfl fun K hK => ?_
   simp only [puts, List.foldl]; go_simp; exact zK hK hg
  case qs3 =>
   intro u wx hg hC; have hJ2 := zj hC 2; clear hC
   have hcl : wx.cell? ⟨a, 0, none⟩ = some (.pointer (some ⟨c, 0, none⟩)) := (hg.cell (p := ⟨a, 0, none⟩) HLT.out).trans C0.out
   refine wpOp_step rfl fun K hK => ?_
   simp only [puts, List.foldl]; go_simp; exact zK hK hg
  case qs4 =>
   intro u wx hg hC; have hJ3 := zj hC 3; clear hC; refine wpOp_step rfl fun K hK => ?_
   simp only [puts, List.foldl]; go_simp
   refine (HG.out wx D (HAR.out wx (B2.out.next hg))).mono ?_
   rintro e w' ⟨rfl, hb'⟩
   exact hK _ _ ⟨rfl, rfl, hg.next hb', hb'⟩
  case qs5 =>
   intro u wx hg hC; clear hC; generalize hA : puts [(0, 17), (1, 18), (2, 19), (3, 20), (4, 21), (5, 22), (6, 23), (7, 24), (8, 16), (9, 25), (10, 26), (11, 9), (12, 10)] _ u = AA
   have hp : AA.tmps.getD 6 undef = .pointer (some ⟨gH, 0, none⟩) := by rw [<- hA]; exact (zck u _ _ 6 (by decide)).trans (by rfl)
   have hsz : 22 < AA.tmps.size := by rw [<- hA]; exact zaq u (by kernel_rfl)
   refine wpOp_step rfl fun K hK => ?_
   clear hA; exact opLoadK (φ := Is (.agg V.toArray)) (RH2.out.step hg) _ fits_head LV.out 22 rfl hsz hK (.tmp 6) rfl hp rfl hg
  case qs7 =>
   intro u wx hg hC; have hJ4 := zj hC 4; have hJ5 := zj hC 5; have hJ6 := zj hC 6; clear hC; refine wpOp_step rfl fun K hK => ?_
   simp only [puts, List.foldl]; go_simp
   refine (HTX.out wx (B2.out.next hg)).mono ?_
   rintro e w' ⟨⟨g7, rfl, q7, r7⟩, hb'⟩
   exact hK _ _ ⟨rfl, ⟨g7, rfl, q7, r7⟩, hg.next hb', hb'⟩
  case qs8 =>
   intro u wx hg hC
   have hJ7 : (TxP w.heap.size mm M) (u 7) wx := hC.at 7 (by kernel_rfl)
   clear hC; refine wpOp_step rfl fun K hK => ?_
   simp only [puts, List.foldl]; go_simp; exact hK _ _ ⟨rfl, hJ7, hg, zb⟩
  case qs9 =>
   intro u wx hg hC
   have hJ8 : (TxP w.heap.size mm M) (u 8) wx := hC.at 8 (by kernel_rfl)
   clear hC; obtain ⟨g8, e8, q8, r8⟩ := hJ8; refine wpOp_step rfl fun K hK => ?_
   simp only [puts, List.foldl]; go_simp; exact hK _ _ ⟨rfl, ⟨g8, rfl, q8, r8⟩, hg, zb⟩
  case qs10 =>
   intro u wx hg hC
   have hJ8 : (TxP w.heap.size mm M) (u 8) wx := hC.at 8 (by kernel_rfl)
   clear hC; obtain ⟨g8, e8, q8, r8⟩ := hJ8; refine wpOp_step rfl fun K hK => ?_
   simp only [puts, List.foldl]; go_simp; exact zK hK hg
  case qs11 =>
   intro u wx hg hC
   have hJ9 : (SlP w.heap.size mm M) (u 9) wx := hC.at 9 (by kernel_rfl)
   clear hC; refine wpOp_step rfl fun K hK => ?_
   simp only [puts, List.foldl]; go_simp; exact hK _ _ ⟨rfl, hJ9, hg, zb⟩
  case qs12 =>
   intro u wx hg hC; have hJ10 := zj hC 10; clear hC; refine wpOp_step rfl fun K hK => ?_
   simp only [puts, List.foldl]; go_simp; exact zK hK hg
 case finq =>
  intro u w4 hb4 hφ
  obtain ⟨g4, e9, q4, r4⟩ : (SlP w.heap.size mm M) (u 11) w4 := hφ (11, 9) (by decide)
  have e10 : u 12 = .int .i64 0 := hφ (12, 10) (by decide)
  clear hφ
  simp only [puts, List.foldl]
  rw [e9, e10]
  go_simp
  have B4 := zh (B2.out.next hb4)
  have R4 := zh r4
  have N4 : Hid (g4 ∉ A.sh.S) := zh fun hm => by have := HSL.out _ hm; omega
  have c4 := HA0.out w4 B4.out
  have A4 := zh (HAR.out w4 B4.out)
  clear hb4 e9 e10 q4 r4
  go_wp2_with (go_at_call 46; (with_reducible refine (HG.out w4 D A4.out).mono ?_); rintro e w5 ⟨rfl, b5⟩; have B5 := zh (B4.out.next b5); have R5 := zh (R4.out.step b5); have A5 := zh (A4.out.step b5); clear b5)
  go_loopw [36] (fun x wr => ∃ t : Nat, t <= s ∧ x = .int .i64 t ∧ runE (seqF t W) D = 0 ∧ Are wB A wr (runD (seqF t W) D) ∧ Onl A.sh.S w5 wr) (fun x _ => s - (intOf x).toNat)
  case atStart => exact ⟨0, Nat.zero_le _, rfl, rfl, A5.out, Onl.refl _ _⟩
  case round =>
   obtain ⟨t, ht, rfl, hrz, hav, hon⟩ := hrel
   by_cases hlt : t < s
   .have hii : (t : Int) < (s : Int) := by omega
    have cr := HA1.out wr _ hav
    have HST : Hid (¬ runE (W t) (runD (seqF t W) D) = 0 -> runE (seqF s W) D = runE (W t) (runD (seqF t W) D) ∧ runD (seqF s W) D = runD (W t) (runD (seqF t W) D)) := zh fun hne => zwf (f := W) hlt hrz hne
    have HGO : Hid (runE (W t) (runD (seqF t W) D) = 0 -> runE (seqF (t + 1) W) D = 0 ∧ runD (seqF (t + 1) W) D = runD (W t) (runD (seqF t W) D)) := zh fun he => zpa (n := s) hrz he
    have AR := zh hav; have RR := zh (R5.out.onl hon N4.out); have ON := zh hon
    have HWT : Hid (∀ u cap, Are wB A u (runD (seqF t W) D) -> Row u g4 40 M -> Calls Tryz.prog 12 #[.pointer (some ⟨a, 0, none⟩), .int .i64 (slot : Int), .int .i64 (t : Int), .slice (some ⟨g4, t * k * 60, none⟩) k cap] u fun e w' => e = .returned (.int .i64 (runE (W t) (runD (seqF t W) D))) ∧ Are wB A w' (runD (W t) (runD (seqF t W) D)) ∧ Onl A.sh.S u w') := zh fun u cap h1 h2 => HWR.out u _ t cap g4 h1 hlt h2
    obtain ⟨Dt, hDt⟩ : ∃ D', runD (seqF t W) D = D' := ⟨_, rfl⟩; rw [hDt] at HST HGO AR HWT; obtain ⟨E, hE⟩ : ∃ E, runE (W t) Dt = E := ⟨_, rfl⟩; rw [hE] at HST HGO HWT; obtain ⟨DW, hDW⟩ : ∃ D', runD (W t) Dt = D' := ⟨_, rfl⟩; rw [hDW] at HST HGO HWT; obtain ⟨q, hq⟩ : ∃ q, t * k = q := ⟨_, rfl⟩; rw [hq] at HWT
    have hqk : q + k <= mm := by have h1 := HMM.out t hlt; omega
    have hq0 : (t : Int) * (k : Int) = (q : Int) := by rw [<- hq]; push_cast; rfl
    have hqb : q <= 1000 := by have := HM64.out; omega
    have hw : wrap64 ((t : Int) * (k : Int)) = (q : Int) := by rw [hq0]; exact zbcu hqb
    obtain ⟨e1, e2, e3, e4, e5, e6, e7, e8, e9, e10, e11, e12, e13, e14, e15⟩ := zblf hqk HK1.out; clear hrz hav hon hlt hDt hE hDW hq hq0 hqk hqb
    cases hez : decide (E = 0)
    .have hne : ¬ E = 0 := of_decide_eq_false hez
     have hn1 : (E != 0) = true := bne_iff_ne.2 hne
     have hn2 : (E == 0) = false := beq_eq_false_iff_ne.2 hne
     have HSTOP := zh (HST.out hne); clear hez hne HGO HST
     go_wp2_with (first
      | (go_at_call 46; (with_reducible refine (HG.out wr Dt AR.out).mono ?_); rintro e u1 ⟨rfl, b1⟩; have A1 := zh (AR.out.step b1); have R1 := zh (RR.out.step b1); have O1 := zh (ON.out.step b1); clear b1)
      | (go_at_call 12; (with_reducible refine (HWT.out u1 _ A1.out R1.out).mono ?_); rintro e u2 ⟨rfl, a2, o2⟩; have A2 := zh a2; have O2 := zh (O1.out.trans o2); clear a2 o2))
     go_ret; rw [HSTOP.out.1, HSTOP.out.2]; exact ⟨rfl, A2.out, (Onl.of_below B5.out).trans O2.out⟩
    .have hne : E = 0 := of_decide_eq_true hez
     have HGO1 := zh (HGO.out hne); rw [hne] at HWT; clear hez hne HGO HST
     go_wp2_with (first
      | (go_at_call 46; (with_reducible refine (HG.out wr Dt AR.out).mono ?_); rintro e u1 ⟨rfl, b1⟩; have A1 := zh (AR.out.step b1); have R1 := zh (RR.out.step b1); have O1 := zh (ON.out.step b1); clear b1)
      | (go_at_call 12; (with_reducible refine (HWT.out u1 _ A1.out R1.out).mono ?_); rintro e u2 ⟨rfl, a2, o2⟩; have A2 := zh a2; have O2 := zh (O1.out.trans o2); clear a2 o2))
     go_roundw
     case rel => exact ⟨t + 1, by omega, by go_num, HGO1.out.1, HGO1.out.2 ▸ A2.out, O2.out⟩
     case measure => simp [intOf]; omega
   .obtain rfl : t = s := by omega
    have HRZ := zh hrz; have A1 := zh hav; have O1 := zh hon; clear hrz hav hon hlt ht; go_wp2; go_ret; rw [HRZ.out]; exact ⟨rfl, A1.out, (Onl.of_below B5.out).trans O1.out⟩
theorem ReadN.good {B n p : Nat} {S : List (List UInt8)} {e : Ending} {w' : World} (h : ReadN B n p S e w') (ho : okS n p S = true) :
  ∃ g a6 c6, e = .returned (.tuple #[.agg #[.slice (some ⟨g, 0, none⟩) n n, .slice a6 (unS n p S).length c6], .int .i64 0]) ∧ Row w' g 40 (bytes (grid n (mdS n p S))) ∧ B <= g ∧ (unS n p S).length <= c6 ∧ Lies w' w'.heap.size a6 (nats (unS n p S)) ∧ (∀ q, (Value.slice a6 (unS n p S).length c6).ownBlock = some q -> B <= q) := by
 unfold ReadN at h
 have ho' : okTo n p (seenF S) ((erasedF S n).map fun x : Nat => (x : Int)) 60 = true := ho
 rw [if_pos ho'] at h
 obtain ⟨g, vs, h1, ⟨h2, h3⟩, ⟨a6, c6, rfl, h4, h5⟩, h6⟩ := h
 exact ⟨g, a6, c6, h1, h2, h3, h4, h5, h6⟩
theorem ReadN.lost {B n p : Nat} {S : List (List UInt8)} {e : Ending} {w' : World} (h : ReadN B n p S e w') (ho : okS n p S = false) : e = .returned (.tuple #[.agg nilFound.toArray, .int .i64 8]) := by
 unfold ReadN at h
 rwa [if_neg (by rw [show okTo n p (seenF S) ((erasedF S n).map fun x : Nat => (x : Int)) 60 = false from ho]; simp)] at h
theorem Are.below {wB w w' : World} {A : ArD} {D : Dv} {B : Nat} (h : Are wB A w D) (hb : Below B w w') (hB : wB.heap.size <= B) (hs : ∀ k ∈ A.sh.S, k < B) : Are wB A w' D :=
 ⟨h.base, ⟨hb.os.trans h.onl.1, hb.tape.trans h.onl.2.1, hb.output.trans h.onl.2.2.1, Nat.le_trans h.onl.size hb.size, fun j hj hn => (hb.block j (by omega)).trans (h.onl.2.2.2.2 j hj hn)⟩, h.dev.below hb hs, h.s1, h.s8, h.fit⟩
theorem ztj {w w' : World} {base s g : Nat} {e : TypeId} {v : Value} {n : Nat} {xs : List Value} (h : w.ownsRow base e s v n xs) (ho : Only g w w') (hg : ∀ q, v.ownBlock = some q -> q ≠ g) : w'.ownsRow base e s v n xs := by
 refine ⟨h.1, ?_⟩
 rcases h.2 with h | ⟨g', cap, cur, h1, h2, h3, h4⟩
 .exact .inl h
 .exact .inr ⟨g', cap, cur, h1, h2, (ho.2.2.2.2 g' (Array.getElem?_eq_some_iff.1 h3).1 (hg g' (by rw [h1]; rfl))).trans h3, h4⟩
theorem zbak {w w' : World} {o : Option Nat} (h : w.grownBy w' o) {p : Addr} (hp : p.block < w.heap.size) (hn : o = some p.block -> False) : w'.cell? p = w.cell? p :=
 World.cell?_of_block (h.block p.block hp fun e => hn e.symm)
def stS (D : Dv) (A : ArD) (slot t : Nat) : List (List UInt8) := secS (sec D.C) A.n A.s slot t
def cntN (U : Nat -> Nat) : Nat -> Nat
 | 0 => 0
 | t + 1 => cntN U t + U t
theorem zzf {U : Nat -> Nat} {n : Nat} (h : ∀ t, U t <= n) : ∀ t, cntN U t <= t * n
 | 0 => by simp [cntN]
 | t + 1 => by have := zzf h t; have := h t; rw [cntN, Nat.succ_mul]; omega
def TxtIs (D : Dv) (A : ArD) (slot : Nat) (T : ByteArray) (W E : Int) : Prop :=
 ((∀ t, t < A.s -> okS A.n A.p (stS D A slot t) = true) ∧ T = str (grid (A.k * A.s) (glF (fun t => mdS A.n A.p (stS D A slot t)) A.k)) ∧ W = (cntN (fun t => (unS A.n A.p (stS D A slot t)).length) A.s : Nat) ∧ E = 0) ∨
 ((∃ t, t < A.s ∧ okS A.n A.p (stS D A slot t) = false) ∧ T = ByteArray.empty ∧ W = 0 ∧ E = 8)
theorem zrb (n : Nat) (f : Fb) : ((List.range n).map (bkF f)).flatten = grid n f := by
 induction n with
 | zero => rfl
 | succ n ih => rw [List.range_succ, List.map_append, List.flatten_append, ih, zkv]; simp
theorem zgu (wB : World) (A : ArD) (w : World) (D : Dv) (h : Are wB A w D) (hu : Up D) (slot : Nat) (hs : slot < 3) (T : ByteArray) (W E : Int) (hT : TxtIs D A slot T W E) :
  Calls Tryz.prog 44 #[.pointer (some ⟨A.a, 0, none⟩), .int .i64 (slot : Int)] w fun e w' => e = .returned (.tuple #[.string T, .int .i64 W, .int .i64 E]) ∧ (∃ m, Are wB A w' (opsD D m)) ∧ Onl A.sh.S w w' := by
 have hk8 := h.k8
 have hs8 := h.s8
 have hn14 : A.n <= 14 := by have := h.k8; have := h.p6; unfold ArD.n; omega
 have HK1 : Hid (0 < A.k) := zh h.k1
 have hkn : A.k <= A.n := by unfold ArD.n; omega
 have HSL : Hid (∀ k ∈ A.sh.S, k < w.heap.size) := zh h.dev.lt
 have HWB : Hid (wB.heap.size <= w.heap.size) := zh h.onl.size
 have HAR : Hid (∀ u, Below w.heap.size w u -> Are wB A u D) := zh fun u hu => h.step hu
 have HG : Hid (∀ (u : World) (D' : Dv), Are wB A u D' -> Calls Tryz.prog 46 #[.pointer (some ⟨A.c, 0, none⟩)] u fun e w' => e = .returned (.agg #[.int .i64 (A.k : Int), .int .i64 (A.p : Int), .int .i64 (A.s : Int)]) ∧ Below u.heap.size u w') := zh fun u D' h1 => h1.geoX
 have HA0 : Hid (∀ (u : World) (D' : Dv), Are wB A u D' -> u.cell? ⟨A.a, 0, none⟩ = some (.pointer (some ⟨A.c, 0, none⟩))) := zh fun u D' h1 => h1.a0
 have HAL : Hid (∀ (u : World) (D' : Dv), Are wB A u D' -> A.a < u.heap.size) := zh fun u D' h1 => h1.lt
 have HASK : Hid (∀ u D', Are wB A u D' -> Calls Tryz.prog 78 #[.pointer (some ⟨A.a, 0, none⟩), .slice (some ⟨u.heap.size, 0, none⟩) 1 1] (u.alloc (.cells #[.int .i64 (slot : Int)] 3)) fun e w' => e = .returned (.int .i64 0) ∧ Below (u.alloc (.cells #[.int .i64 (slot : Int)] 3)).heap.size (u.alloc (.cells #[.int .i64 (slot : Int)] 3)) w') := zh fun u D' h1 => by
  have h2 : Are wB A (u.alloc (.cells #[.int .i64 (slot : Int)] 3)) D' := h1.step ((zb).alloc (Nat.le_refl _) _)
  have h3 := ztg wB A _ D' h2 (some ⟨u.heap.size, 0, none⟩) 1 1 [(slot : Int)] rfl (by omega) (Lies.new [Value.int .i64 (slot : Int)] u 3)
  rwa [if_pos (by unfold askL; simp; omega)] at h3
 have HRD : Hid (∀ (u : World) (m t : Nat), Are wB A u (opsD D m) -> t < A.s -> Calls Tryz.prog 11 #[.pointer (some ⟨A.a, 0, none⟩), .int .i64 (slot : Int), .int .i64 (t : Int)] u fun e w' => ReadN u.heap.size A.n A.p (stS D A slot t) e w' ∧ Are wB A w' (opsD D (m + A.n)) ∧ Onl A.sh.S u w') := zh fun u m t h1 h2 => by
  have h3 := zsg wB A u (opsD D m) h1 (hu.ops m) slot t hs h2
  rwa [zbjn] at h3
 have HJN : Hid (∀ (u : World) (v : Value), u.ownsRow w.heap.size 40 60 v (A.k * A.s) (bytes (grid (A.k * A.s) (glF (fun t => mdS A.n A.p (stS D A slot t)) A.k))) -> Calls Tryz.prog 79 #[v] u fun e w' => e = .returned (.string (str (grid (A.k * A.s) (glF (fun t => mdS A.n A.p (stS D A slot t)) A.k)))) ∧ Below u.heap.size u w') := zh fun u v h1 => by
  obtain ⟨a', c', rfl, h2⟩ := zfw h1
  have hks : A.k * A.s <= 64 := by
   have h1 : A.k * A.s <= 8 * A.s := Nat.mul_le_mul_right _ hk8
   omega
  have h3 := zwt a' c' ((List.range (A.k * A.s)).map (bkF (glF (fun t => mdS A.n A.p (stS D A slot t)) A.k))) u (fun b hb => by
   obtain ⟨i, _, rfl⟩ := List.mem_map.1 hb; exact zay _ _) (by simp; omega) (by rw [zrb]; exact h2)
  rw [zrb] at h3
  simpa using h3
 have HUL : Hid (∀ t, (unS A.n A.p (stS D A slot t)).length <= 14) := zh fun t => Nat.le_trans (zbaf _ _ _ _) hn14
 have HGX : Hid (∀ t, bytes (grid (A.k * t) (glF (fun t => mdS A.n A.p (stS D A slot t)) A.k)) ++ bytes (grid A.k (mdS A.n A.p (stS D A slot t))) = bytes (grid (A.k * (t + 1)) (glF (fun t => mdS A.n A.p (stS D A slot t)) A.k))) := zh fun t => by
  rw [zbil _ _ _ h.k1, zaj]
 have HGPX : Hid (∀ F : Fb, grid A.n F = grid A.k F ++ grid (A.n - A.k) (fun i => F (A.k + i))) := zh fun F => by
  conv => lhs; rw [show A.n = A.k + (A.n - A.k) by omega]
  exact zes _ _ _
 obtain ⟨X, hX⟩ : ∃ X : Nat -> List (List UInt8), (fun t => stS D A slot t) = X := ⟨_, rfl⟩
 have HXX0 : Hid (∀ t, stS D A slot t = X t) := zh fun t => congrFun hX t
 unfold TxtIs at hT
 simp only [HXX0.out] at hT HRD HJN HUL HGX
 obtain ⟨G, hG⟩ : ∃ G : Fb, glF (fun t => mdS A.n A.p (X t)) A.k = G := ⟨_, rfl⟩
 rw [hG] at hT HJN HGX
 obtain ⟨U, hU⟩ : ∃ U : Nat -> Nat, (fun t => (unS A.n A.p (X t)).length) = U := ⟨_, rfl⟩
 have HUU : Hid (∀ t, (unS A.n A.p (X t)).length = U t) := zh fun t => congrFun hU t
 rw [hU] at hT
 have HUL2 : Hid (∀ t, cntN U t <= t * 14) := zh (zzf fun t => by rw [<- HUU.out]; exact HUL.out t)
 obtain ⟨a, ha⟩ : ∃ a, A.a = a := ⟨_, rfl⟩
 obtain ⟨c, hc⟩ : ∃ c, A.c = c := ⟨_, rfl⟩
 obtain ⟨k, hk⟩ : ∃ k, A.k = k := ⟨_, rfl⟩
 obtain ⟨p, hp⟩ : ∃ p, A.p = p := ⟨_, rfl⟩
 obtain ⟨s, hss⟩ : ∃ s, A.s = s := ⟨_, rfl⟩
 obtain ⟨n, hn⟩ : ∃ n, A.n = n := ⟨_, rfl⟩
 rw [ha] at HA0 HAL HASK HRD ⊢
 rw [hc] at HG HA0
 rw [hk] at HG HK1 hk8 hkn hT HJN HGX HGPX
 rw [hp] at HG
 rw [hss] at HG hs8 HRD HJN hT
 rw [hn] at hn14 hkn HGPX HGX
 simp only [hp, hn] at hT HRD HUU HGX HUL
 have hsi : (s : Int) <= 8 := by omega
 have hki : (k : Int) <= 8 := by omega
 have hni : (n : Int) <= 14 := by omega
 have hf2 := zom k p s
 have HKN := zh hkn
 have hkz := HK1.out
 have HKK : Hid ((k : Int) <= (n : Int) ∧ 0 <= (k : Int) ∧ k <= n) := zh ⟨by omega, by omega, hkn⟩
 have hT2 := zh hT
 have HZ := zh ziy
 have HP60 : Hid (0 < 60) := zh (by omega)
 have HL2 : Hid (nilFound.length = 2) := zh rfl
 have HN1 : Hid (nilFound.all (·.oneCell') = true) := zh rfl
 have HNF : Hid (nilFound = [.slice none 0 0, .slice none 0 0]) := zh rfl
 have HLOST : Hid (∀ (B n p : Nat) (S : List (List UInt8)) (e : Ending) (w' : World), ReadN B n p S e w' -> okS n p S = false -> e = .returned (.tuple #[.agg nilFound.toArray, .int .i64 8])) := zh fun _ _ _ _ _ _ h1 h2 => h1.lost h2
 generalize nilFound = NF at *
 have HNIL : Hid (∀ u : World, u.ownsRow w.heap.size 40 60 (.slice none 0 0) (k * 0) (bytes (grid (k * 0) G))) := zh fun u => ⟨rfl, .inl ⟨rfl, rfl⟩⟩
 clear h hu hs hT hX hG hU ha hc hk hp hss hn hkn hn14
 go_enter Tryz.func44, Tryz.ntmps44
 have HA00 := zh (HAR.out w (zb))
 go_wp2_with (first
  | (go_at_call 78; (with_reducible refine (HASK.out w D HA00.out).mono ?_); rintro e w2 ⟨rfl, b2⟩; have B2 : Hid (Below w.heap.size w w2) := zh (((zb).alloc (Nat.le_refl _) _).next b2); have A2 := zh (HAR.out w2 B2.out); have c2 := HA0.out w2 _ A2.out; clear b2)
  | (go_at_call 46; (with_reducible refine (HG.out w2 D A2.out).mono ?_); rintro e w3 ⟨rfl, b3⟩; have B3 := zh (B2.out.next b3); have A3 := zh (A2.out.step b3); clear b3))
 clear HA00 B2 A2
 go_loopw [8, 9, 26] (fun v y x wr => ∃ t : Nat, t <= s ∧ x = .int .i64 t ∧ y = .int .i64 ((cntN U t : Nat) : Int) ∧ wr.ownsRow w.heap.size 40 60 v (k * t) (bytes (grid (k * t) G)) ∧ (∀ t', t' < t -> okS n p (X t') = true) ∧ (∃ m, Are wB A wr (opsD D m)) ∧ Onl A.sh.S w wr) (fun _ _ x _ => s - (intOf x).toNat)
 case atStart => exact ⟨0, Nat.zero_le _, rfl, rfl, HNIL.out _, fun _ h => by omega, ⟨0, A3.out⟩, Onl.of_below B3.out⟩
 case round =>
  clear A3 B3
  obtain ⟨t, ht, rfl, rfl, hown, hall, ⟨m, hav⟩, hon⟩ := hrel
  obtain ⟨av, cv, rfl, hlv⟩ := zfw hown
  by_cases hlt : t < s
  .have hii : (t : Int) < (s : Int) := by omega
   have HRT := zh (HRD.out wr m t hav hlt); have HULT := HUL2.out t
   have HUB : U t <= 14 := by rw [<- HUU.out]; exact HUL.out t
   have HUV := HUU.out t; have HGT := zh (HGX.out t); obtain ⟨CN, hCN⟩ : ∃ C, cntN U t = C := ⟨_, rfl⟩
   have HCN0 : Hid (cntN U (t + 1) = CN + U t) := zh (by rw [<- hCN]; rfl)
   rw [hCN] at HULT; rw [hCN]; obtain ⟨ul, hul⟩ : ∃ l, U t = l := ⟨_, rfl⟩; rw [hul] at HUB HUV HCN0; obtain ⟨l, hl⟩ : ∃ l, k * t = l := ⟨_, rfl⟩
   have hl64 : l <= 64 := by
    have h1 : k * t <= 8 * t := Nat.mul_le_mul_right _ (by omega)
    omega
   have hl1 : k * (t + 1) = l + k := by rw [Nat.mul_succ, hl]
   have hlb : l + k <= 1099511627776 := by omega
   have HBG : Big (l + k <= 1099511627776) := ⟨hlb⟩
   rw [hl] at hown HGT; rw [hl1] at HGT; rw [hl]; obtain ⟨XT, hXT⟩ : ∃ S, X t = S := ⟨_, rfl⟩; rw [hXT] at HRT HGT HUV; have HXT := zh hXT; have HOWN := zh hown; have HALL := zh hall; have HON := zh hon
   have HGSZ : Hid (w.heap.size <= wr.heap.size) := zh hon.size
   have HL1 := zh hl1; have HLTT := zh hlt; clear hown hall hav hon hlv hlt hCN hul hl hl1 hXT hlb
   cases hok : okS n p XT with
   | false =>
    have HTF : Hid (T = ByteArray.empty ∧ W = 0 ∧ E = 8) := zh (by
     rcases hT2.out with h | h
     .have := h.1 t HLTT.out
      rw [HXT.out, hok] at this; cases this
     .exact h.2)
    have HTP : Hid (∀ (x : ByteArray) (y z : Int), x = ByteArray.empty -> y = 0 -> z = 8 -> Ending.returned (.tuple #[.string x, .int .i64 y, .int .i64 z]) = .returned (.tuple #[.string T, .int .i64 W, .int .i64 E])) := zh fun x y z h1 h2 h3 => by rw [HTF.out.1, HTF.out.2.1, HTF.out.2.2, h1, h2, h3]
    have HRL : Hid (Calls Tryz.prog 11 #[.pointer (some ⟨a, 0, none⟩), .int .i64 (slot : Int), .int .i64 (t : Int)] wr fun e w' => e = .returned (.tuple #[.agg NF.toArray, .int .i64 8]) ∧ Are wB A w' (opsD D (m + n)) ∧ Onl A.sh.S wr w') := zh (HRT.out.mono fun e w' ⟨h1, h2, h3⟩ => ⟨HLOST.out _ _ _ _ _ _ h1 hok, h2, h3⟩)
    clear hok
    go_wp2_with (first
     | (go_at_call 11; (with_reducible refine HRL.out.mono ?_); rintro e u1 ⟨rfl, a1, o1⟩; have A1 := zh a1; have O1 := zh (HON.out.trans o1); clear a1 o1)
     | ((with_reducible refine wpAllocK (w := u1) NF 49 HZ.out ?_ ?_); rfl; intro u2 r2 b2 s2; have R2 := zh r2; have A2 := zh (A1.out.step b2); have O2 := zh (O1.out.step b2); have G2 : Hid (w.heap.size <= u1.heap.size) := zh O1.out.size; have N2 : Hid (u1.heap.size ∉ A.sh.S) := zh (fun hm => by have := HSL.out _ hm; have := O1.out.size; omega); clear r2 b2 s2)
     | ((with_reducible refine R2.out.wpStoreK 49 NF found_fits HL2.out HL2.out HN1.out ?_ ?_); rfl; intro u3 r3 o3 s3; have A3 := zh (A2.out.only o3 (Nat.le_trans HWB.out G2.out) N2.out); have O3 := zh (O2.out.only o3 (Or.inr G2.out)); clear r3 o3 s3))
    go_ret3; exact ⟨HTP.out _ _ _ rfl rfl rfl, ⟨_, A3.out⟩, O3.out⟩
   | true =>
    have HRL : Hid (Calls Tryz.prog 11 #[.pointer (some ⟨a, 0, none⟩), .int .i64 (slot : Int), .int .i64 (t : Int)] wr fun e w' => (∃ g a6 c6, e = .returned (.tuple #[.agg #[.slice (some ⟨g, 0, none⟩) n n, .slice a6 ul c6], .int .i64 0]) ∧ Row w' g 40 (bytes (grid n (mdS n p XT))) ∧ wr.heap.size <= g) ∧ Are wB A w' (opsD D (m + n)) ∧ Onl A.sh.S wr w') := zh (HRT.out.mono fun e w' ⟨h1, h2, h3⟩ => by
     obtain ⟨g, a6, c6, q1, q2, q3, q4, q5, q6⟩ := h1.good hok; rw [HUV] at q1; exact ⟨⟨g, a6, c6, q1, q2, q3⟩, h2, h3⟩)
    have HALL2 : Hid (∀ t', t' < t + 1 -> okS n p (X t') = true) := zh fun t' ht' => by
     by_cases e : t' = t
     .subst e; rw [HXT.out]; exact hok
     .exact HALL.out t' (by omega)
    have HCN : Hid (Value.int .i64 (wrap64 ((CN : Int) + (ul : Int))) = .int .i64 ((cntN U (t + 1) : Nat) : Int)) := zh (by rw [HCN0.out]; exact congrArg (Value.int .i64) (by unfold wrap64; omega))
    have HXX : Hid (bytes (grid (k * (t + 1)) G) = bytes (grid l G) ++ bytes (grid k (mdS n p XT))) := zh (by rw [HL1.out]; exact HGT.out.symm)
    have HGP : Hid (grid n (mdS n p XT) = grid k (mdS n p XT) ++ grid (n - k) (fun i => mdS n p XT (k + i))) := zh (HGPX.out _)
    obtain ⟨FT, hFT⟩ : ∃ F, mdS n p XT = F := ⟨_, rfl⟩; rw [hFT] at HRL HXX HGP
    have HNL : Hid ((bytes (grid k FT)).length = k * 60) := zh (by rw [zaa, zan])
    have HB1 : Hid ((bytes (grid k FT)).all (·.oneCell') = true) := zh (zbr _)
    clear hok HUV hFT HULT HUB
    go_wp2_with (first
     | (go_at_call 11; (with_reducible refine HRL.out.mono ?_); rintro e u1 ⟨⟨g, a6, c6, rfl, r1, q1⟩, a1, o1⟩; have A1 := zh a1; have O1 := zh (HON.out.trans o1); have M1 := zh r1; have OW1 := zh o1; have HGG : Hid (wr.heap.size <= g) := zh q1; clear a1 o1 r1 q1)
     | ((with_reducible refine wpAllocK (w := u1) NF 49 HZ.out ?_ ?_); rfl; intro u2 r2 b2 s2; have R2 := zh r2; have A2 := zh (A1.out.step b2); have O2 := zh (O1.out.step b2); have M2 := zh (M1.out.step b2); have B2 := zh b2; have NE2 : Hid (g ≠ u1.heap.size) := zh (by have := M1.out.lt; omega); have G2 : Hid (w.heap.size <= u1.heap.size) := zh O1.out.size; have N2 : Hid (u1.heap.size ∉ A.sh.S) := zh (fun hm => by have := HSL.out _ hm; have := O1.out.size; omega); clear r2 b2 s2)
     | ((with_reducible refine R2.out.wpStoreK 49 [.slice (some ⟨g, 0, none⟩) n n, .slice a6 ul c6] found_fits HL2.out rfl rfl ?_ ?_); rfl; intro u5 r3 o3 s3; have F5 := zh r3; have A5 := zh (A2.out.only o3 (Nat.le_trans HWB.out G2.out) N2.out); have O5 := zh (O2.out.only o3 (Or.inr G2.out)); have M5 := zh (M2.out.only o3 NE2.out); have P5 := zh o3; clear r3 o3 s3))
    have HG3 : wr.heap.size <= u1.heap.size := OW1.out.size
    obtain ⟨g3, hg3⟩ : ∃ g, u1.heap.size = g := ⟨_, rfl⟩
    have W5 : Hid (u5.ownsRow w.heap.size 40 60 (.slice av l cv) l (bytes (grid l G))) := zh (by
     have h1 := zhx HOWN.out OW1.out HSL.out; have h2 := zhx h1 (Onl.of_below (S := A.sh.S) B2.out) HSL.out; exact ztj h2 P5.out (fun q hq => by have := (HOWN.out.lt q hq).2; omega))
    have HNE : Hid ((Value.slice av l cv).ownBlock = some g3 -> False) := zh fun hq => by have := (HOWN.out.lt _ hq).2; omega
    have C5 := zh (HA0.out u5 _ A5.out); have LA5 := zh (HAL.out u5 _ A5.out); rw [hg3] at F5 HG3 ⊢
    have LF5 : Hid (g3 < u5.heap.size) := zh F5.out.lt
    have F50 : Hid (u5.cell? ⟨g3, 0, none⟩ = some (.slice (some ⟨g, 0, none⟩) n n)) := zh (F5.out.cell 0)
    clear hg3 A1 O1 M1 A2 O2 M2 B2 R2 HRL
    refine zdr 10 [(0, 39), (1, 40), (2, 41), (3, 42), (4, 43), (5, 44), (6, 45), (7, 46), (8, 47), (9, 48)]
     (fun ii => [Is (.slice av l cv), Is (.pointer (some ⟨g3, 0, none⟩)), Is (.slice (some ⟨g, 0, none⟩) n n), Is (.pointer (some ⟨a, 0, none⟩)), Is (.pointer (some ⟨a, 0, none⟩)), Is (.pointer (some ⟨a, 0, none⟩)), Is (.pointer (some ⟨c, 0, none⟩)), Is (.agg #[Value.int .i64 (k : Int), .int .i64 (p : Int), .int .i64 (s : Int)]), Is (.int .i64 (k : Int)), Is (.slice (some ⟨g, 0, none⟩) k n)].getD ii (Is undef))
     (fun w' => Below u5.heap.size u5 w') (by kernel_rfl) (by decide) (by kernel_rfl) (by kernel_rfl) (by kernel_rfl) (by decide) (by decide) (by kernel_rfl) rfl ?monoq ((zb).drew) ?stepq ?finq
    case monoq =>
     intro i
     match i with
     | 0 | 1 | 2 | 3 | 4 | 5 | 6 | 7 | 8 | 9 => exact Is.monot _
     | _ + 10 => exact Is.monot _
    case stepq =>
     refine zf ⟨?qs0, zf ⟨?qs1, zf ⟨?qs2, zf ⟨?qs3, zf ⟨?qs4, zf ⟨?qs5, zf ⟨?qs6, zf ⟨?qs7, zf ⟨?qs8, zf ⟨?qs9, List.forall_mem_nil _⟩⟩⟩⟩⟩⟩⟩⟩⟩⟩
     case qs0 | qs1 | qs3 =>
      intro u wx hg hC; clear hC; refine wpOp_step rfl fun K hK => ?_
      simp only [puts, List.foldl]; go_simp; exact zK hK hg
     case qs2 =>
      intro u wx hg hC; have hJ1 := zj hC 1; clear hC
      have hcl : wx.cell? ⟨g3, 0, none⟩ = some (.slice (some ⟨g, 0, none⟩) n n) := (hg.cell (p := ⟨g3, 0, none⟩) LF5.out).trans F50.out
      refine wpOp_step rfl fun K hK => ?_
      simp only [puts, List.foldl]; go_simp; exact zK hK hg
     case qs4 =>
      intro u wx hg hC; have hJ3 := zj hC 3; clear hC; refine wpOp_step rfl fun K hK => ?_
      simp only [puts, List.foldl]; go_simp; exact zK hK hg
     case qs5 =>
      intro u wx hg hC; have hJ4 := zj hC 4; clear hC; refine wpOp_step rfl fun K hK => ?_
      simp only [puts, List.foldl]; go_simp; exact zK hK hg
     case qs6 =>
      intro u wx hg hC; have hJ5 := zj hC 5; clear hC
      have hcl : wx.cell? ⟨a, 0, none⟩ = some (.pointer (some ⟨c, 0, none⟩)) := (hg.cell (p := ⟨a, 0, none⟩) LA5.out).trans C5.out
      refine wpOp_step rfl fun K hK => ?_
      simp only [puts, List.foldl]; go_simp; exact zK hK hg
     case qs7 =>
      intro u wx hg hC; have hJ6 := zj hC 6; clear hC; refine wpOp_step rfl fun K hK => ?_
      simp only [puts, List.foldl]; go_simp
      refine (HG.out wx _ (A5.out.step hg)).mono ?_
      rintro e w' ⟨rfl, hb'⟩
      exact hK _ _ ⟨rfl, rfl, hg.next hb', hb'⟩
     case qs8 =>
      intro u wx hg hC; have hJ7 := zj hC 7; clear hC; have hf0 := zol k p s; refine wpOp_step rfl fun K hK => ?_
      simp only [puts, List.foldl]; go_simp; exact zK hK hg
     case qs9 =>
      intro u wx hg hC; have hJ2 := zj hC 2; have hJ8 := zj hC 8; clear hC; obtain ⟨x1, x2, x3⟩ := HKK.out; refine wpOp_step rfl fun K hK => ?_
      simp only [puts, List.foldl]; go_simp; exact zK hK hg
    case finq =>
     intro u w6 hb6 hφ
     have e39 : u 0 = .slice av l cv := hφ (0, 39) (by decide)
     have e48 : u 9 = .slice (some ⟨g, 0, none⟩) k n := hφ (9, 48) (by decide)
     clear hφ; simp only [puts, List.foldl]; rw [e39, e48]; go_simp; have A6 := zh (A5.out.step hb6); have O6 := zh (O5.out.step hb6); have W6 := zh (zhx W5.out (Onl.of_below (S := A.sh.S) hb6) HSL.out); have M6 := zh ((M5.out.step hb6).cell)
     have HLI : Hid (Lies w6 w6.heap.size (some ⟨g, 0, none⟩) (bytes (grid k FT))) := zh (by
      have h1 := zbj (M5.out.step hb6); intro h0; obtain ⟨b', o', e', h2, h3⟩ := h1 (by rw [zaa, zan]; have := HKN.out; have := HK1.out; omega)
      exact ⟨b', o', e', h2, fun j v hj => h3 j v (by
       rw [HGP.out, zaj]; rw [List.getElem?_append_left (List.getElem?_eq_some_iff.1 hj).1]
       exact hj)⟩)
     have F6 := zh ((F5.out.step hb6).cell 1)
     have HSZ : Hid (w.heap.size <= w6.heap.size) := zh O6.out.size
     have HFL : Hid (g3 < w6.heap.size) := zh (F5.out.step hb6).lt
     have HWS : Hid (wr.heap.size <= g3) := HG3
     have F6R := zh (F5.out.step hb6); clear hb6 e39 e48
     go_wp2_with ((with_reducible refine wpAppendM n W6.out Tryz.underlying31 zff HLI.out HNL.out HK1.out HP60.out HB1.out HBG HSZ.out ?_ ?_); rfl; intro v7 w7 g1 g2 g8; have W7 := zh g1; have HOB : Hid (Below w.heap.size w6 w7) := zh ((Below.refl w.heap.size w6).grown g2 HSZ.out (fun q hq => (W6.out.lt q hq).1)); have c7 : w7.cell? ⟨g3, 1, none⟩ = some (.slice a6 ul c6) := (zbak g2 (p := ⟨g3, 1, none⟩) HFL.out (fun hq => HNE.out hq)).trans F6.out; clear g1 g2 g8)
     go_roundw
     case rel => exact ⟨t + 1, by omega, by go_num, HCN.out, by rw [HXX.out, HL1.out]; exact W7.out, HALL2.out, ⟨_, A6.out.below HOB.out HWB.out HSL.out⟩, O6.out.belowB HOB.out⟩
     case measure => simp [intOf]; omega
  .obtain rfl : t = s := by omega
   have HTF : Hid (T = str (grid (k * t) G) ∧ W = (cntN U t : Nat) ∧ E = 0) := zh (by
    rcases hT2.out with h | h
    .exact h.2
    .obtain ⟨⟨t', h1, h2⟩, _⟩ := h
     rw [hall t' h1] at h2; cases h2)
   have HJ := zh (HJN.out wr _ hown)
   have HTP : Hid (∀ (x : ByteArray) (y z : Int), x = str (grid (k * t) G) -> y = (cntN U t : Nat) -> z = 0 -> Ending.returned (.tuple #[.string x, .int .i64 y, .int .i64 z]) = .returned (.tuple #[.string T, .int .i64 W, .int .i64 E])) := zh fun x y z h1 h2 h3 => by rw [HTF.out.1, HTF.out.2.1, HTF.out.2.2, h1, h2, h3]
   obtain ⟨J, hJ⟩ : ∃ J, str (grid (k * t) G) = J := ⟨_, rfl⟩; rw [hJ] at HJ HTP; have HAV := zh hav; have HON := zh hon; clear hown hall hav hon hlv hlt ht hJ HTF
   go_wp2_with (go_at_call 79; (with_reducible refine HJ.out.mono ?_); rintro e u1 ⟨rfl, b1⟩; have A1 := zh (HAV.out.step b1); have O1 := zh (HON.out.step b1); clear b1)
   go_ret3; exact ⟨HTP.out _ _ _ rfl rfl rfl, ⟨_, A1.out⟩, O1.out⟩
end
section
open Go.RowKit HeadMath NumMath
theorem zsp (a b c n : Int) (H : List UInt8) (w : World) (hok : hOk a b c n = true) (hH : H.length = 32) :
  Calls Tryz.prog 30 #[.agg (hdv a b c n H).toArray] w fun e w' => e = .returned (.string (str (headB a b c n H))) ∧ Below w.heap.size w w' := by
 obtain ⟨h1, h2, h3, h4⟩ := zkw hok
 obtain ⟨TV, hTV⟩ : ∃ T, str (be 2 a.toNat ++ be 2 b.toNat ++ be 2 c.toNat) = T := ⟨_, rfl⟩
 obtain ⟨TN, hTN⟩ : ∃ T, str (be 4 n.toNat) = T := ⟨_, rfl⟩
 obtain ⟨TH, hTH⟩ : ∃ T, str H = T := ⟨_, rfl⟩
 obtain ⟨TR, hTR⟩ : ∃ T, str (headB a b c n H) = T := ⟨_, rfl⟩
 have zV : TV.size = 6 := by rw [<- hTV, zbc]; simp [be_length]
 have zN : TN.size = 4 := by rw [<- hTN, zbc, be_length]
 have zH : TH.size = 32 := by rw [<- hTH, zbc, hH]
 have HRES : Hid (({ data := #[84, 82, 73, 80] } : ByteArray) ++ TV ++ TN ++ TH ++ str [0, 0] = TR) := zh (by
  rw [<- hTV, <- hTN, <- hTH, <- hTR, show ({ data := #[84, 82, 73, 80] } : ByteArray) = str [84, 82, 73, 80] from rfl, zcb, zcb, zcb, zcb]
  rfl)
 have s1 : (({ data := #[84, 82, 73, 80] } : ByteArray)).size = 4 := rfl
 have s2 : (({ data := #[84, 82, 73, 80] } : ByteArray) ++ TV).size = 10 := by rw [ByteArray.size_append, zV]; rfl
 have s3 : (({ data := #[84, 82, 73, 80] } : ByteArray) ++ TV ++ TN).size = 14 := by rw [ByteArray.size_append, s2, zN]
 have s4 : (({ data := #[84, 82, 73, 80] } : ByteArray) ++ TV ++ TN ++ TH).size = 46 := by rw [ByteArray.size_append, s3, zH]
 have s5 : (str [0, 0]).size = 2 := rfl
 have HP1 : Hid (∀ u, Calls Tryz.prog 59 #[.int .i64 2, .slice (some ⟨u.heap.size, 0, none⟩) 3 3] (u.alloc (.cells #[.int .i64 a, .int .i64 b, .int .i64 c] 3)) fun e u' => e = .returned (.tuple #[.string TV, .int .i64 0]) ∧ Below u.heap.size u u') := zh fun u => by
  rw [<- hTV]
  exact (zkb 2 _ 3 3 [a, b, c] _ 0 (u.alloc (.cells #[.int .i64 a, .int .i64 b, .int .i64 c] 3)) rfl (zvp hok) (by omega) (by intro x hx; simp at hx; omega) (Lies.new (ints [a, b, c]) u 3)).mono fun e u' h => ⟨h.1, (zab u _).next h.2⟩
 have HP2 : Hid (∀ u, Calls Tryz.prog 59 #[.int .i64 4, .slice (some ⟨u.heap.size, 0, none⟩) 1 1] (u.alloc (.cells #[.int .i64 n] 3)) fun e u' => e = .returned (.tuple #[.string TN, .int .i64 0]) ∧ Below u.heap.size u u') := zh fun u => by
  rw [<- hTN]
  exact (zkb 4 _ 1 1 [n] _ 0 (u.alloc (.cells #[.int .i64 n] 3)) rfl (zvo hok) (by omega) (by intro x hx; simp at hx; omega) (Lies.new (ints [n]) u 3)).mono fun e u' h => ⟨h.1, (zab u _).next h.2⟩
 have HTH := zh hTH
 have LH := zh hH
 rw [hTR]
 obtain ⟨V, hV⟩ : ∃ V, hdv a b c n H = V := ⟨_, rfl⟩
 have H0 : Hid (V[0]? = some (.int .i64 a)) := zh (by rw [<- hV]; rfl)
 have H1 : Hid (V[1]? = some (.int .i64 b)) := zh (by rw [<- hV]; rfl)
 have H2 : Hid (V[2]? = some (.int .i64 c)) := zh (by rw [<- hV]; rfl)
 have H3 : Hid (V[3]? = some (.int .i64 n)) := zh (by rw [<- hV]; rfl)
 have HCC : Hid (∀ u g t, Row u g t V -> ∀ (j : Nat) (hj : j < H.length), u.cell? ⟨g, 4 + j, none⟩ = some (.int .u8 (H[j].toNat : Int))) := zh (by rw [<- hV]; exact fun u g t r j hj => zur a b c n H u g t r j hj)
 rw [hV]
 clear hok hH hTV hTN hTH hTR hV h1 h2 h3 h4
 go_enter Tryz.func30, Tryz.ntmps30
 go_wp2_with (first
  | ((with_reducible refine wpBoxK V 38 ?_ ?_); rfl; intro u1 r1 b1 s1; have R1 := zh r1; have B1 := zh b1; have c0 : u1.cell? ⟨w.heap.size, 0, none⟩ = some (.int .i64 a) := (r1.cell 0).trans H0.out; have c1 : u1.cell? ⟨w.heap.size, 1, none⟩ = some (.int .i64 b) := (r1.cell 1).trans H1.out; have c2 : u1.cell? ⟨w.heap.size, 2, none⟩ = some (.int .i64 c) := (r1.cell 2).trans H2.out; have hbs : w.heap.size < u1.heap.size := r1.lt; clear r1 b1 s1)
  | (go_at_call 59; (with_reducible refine (HP1.out u1).mono ?_); rintro e u3 ⟨rfl, b3⟩; have R3 := zh (R1.out.step b3); have B3 := zh (B1.out.next b3); have c3 : u3.cell? ⟨w.heap.size, 3, none⟩ = some (.int .i64 n) := (R3.out.cell 3).trans H3.out; clear b3)
  | (go_at_call 59; (with_reducible refine (HP2.out u3).mono ?_); rintro e u4 ⟨rfl, b4⟩; have B4 := zh (B3.out.next b4); have R4 := zh (R3.out.step b4); clear b4))
 have hown0 : (u4.alloc (.cells #[] 5)).ownsRow u4.heap.size 5 1 (.slice (some ⟨u4.heap.size, 0, none⟩) 0 0) 0 (bytes (H.take 0)) := by
  have h1 : Row (u4.alloc (.cells #[] 5)) u4.heap.size 5 ([] ++ []) := Row.new u4 _ []
  have := h1.owns (base := u4.heap.size) (n := 0) (cap := 0) (Nat.le_refl _) rfl rfl (by omega) (by unfold maxLen; omega)
  simpa [bytes] using this
 have hr1 := R4.out.step (zab u4 (.cells #[] 5))
 have hb1 := B4.out.next (zab u4 (.cells #[] 5))
 have hz1 : u4.heap.size <= (u4.alloc (.cells #[] 5)).heap.size := (zab u4 (.cells #[] 5)).size
 have HOWN := zh hown0
 have HR := zh hr1
 have HB := zh hb1
 have HZ := zh hz1
 obtain ⟨M, hM⟩ : ∃ M, M = u4.heap.size := ⟨_, rfl⟩
 have hMw : w.heap.size < M := by have := R4.out.lt; omega
 clear hown0 hr1 hb1 hz1 c0 c1 c2 c3
 go_loopw [7, 8] (fun v i wr => ∃ k : Nat, k <= 32 ∧ i = .int .i64 k ∧ wr.ownsRow M 5 1 v k (bytes (H.take k)) ∧ Row wr w.heap.size 38 V ∧ M <= wr.heap.size ∧ Below w.heap.size w wr) (fun _ i _ => 32 - (intOf i).toNat)
 case atStart => exact ⟨0, by omega, rfl, by rw [hM]; exact HOWN.out, HR.out, by rw [hM]; exact HZ.out, HB.out⟩
 case round =>
  clear HOWN HR HB HZ hM
  obtain ⟨k, hk, rfl, hown, hr, hmw, hbw⟩ := hrel
  by_cases hlt : k < 32
  .have hkA : k < H.length := by rw [LH.out]; exact hlt
   obtain ⟨x, hb⟩ : ∃ b, H[k] = b := ⟨_, rfl⟩
   have hcell : wr.cell? ⟨w.heap.size, 4 + k, none⟩ = some (.int .u8 (x.toNat : Int)) := by rw [HCC.out wr _ _ hr k hkA, hb]
   have HT : Hid (bytes (H.take (k + 1)) = bytes (H.take k) ++ [.int .u8 (x.toNat : Int)]) := zh (by rw [List.take_succ_eq_append_getElem hkA, hb, zaj]; rfl)
   have HOWN := zh (hown.alloc (.cells #[.int .u8 (x.toNat : Int)] 5))
   have HL : Hid (Lies (wr.alloc (.cells #[.int .u8 (x.toNat : Int)] 5)) (wr.alloc (.cells #[.int .u8 (x.toNat : Int)] 5)).heap.size (some ⟨wr.heap.size, 0, none⟩) [.int .u8 (x.toNat : Int)]) := zh (Lies.new [_] _ _)
   have HBW := zh (hbw.alloc hbw.size (.cells #[.int .u8 (x.toNat : Int)] 5)); have HR := zh (hr.alloc (.cells #[.int .u8 (x.toNat : Int)] 5))
   have HZZ : Hid (M <= (wr.alloc (.cells #[.int .u8 (x.toNat : Int)] 5)).heap.size) := zh (by simp; omega)
   have HO1 : Hid ((Value.int .u8 (x.toNat : Int)).oneCell' = true) := zh rfl
   have HPK : Big (k + 1 <= 1099511627776) := ⟨by omega⟩
   have HOWB : Hid (∀ j, u7.ownBlock = some j -> M <= j) := zh fun j hj => (hown.lt j hj).1
   have hk1 : (k : Int) < 32 := by omega
   clear hown hr hmw hbw hb hkA
   go_wp2_with (first
    | ((with_reducible refine wpAppend1K HOWN.out Tryz.underlying107 zmm HL.out HO1.out HPK HZZ.out ?_ ?_); rfl; intro v1 w1 g1 g2 g3; have HV1 := zh g1; have HG1 := zh g2; clear g1 g2 g3))
   go_roundw
   case rel =>
    have hb1 := HBW.out.grown HG1.out HBW.out.size (fun j hj => by have := HOWB.out j hj; omega)
    refine ⟨k + 1, by omega, by go_num, by rw [HT.out]; exact HV1.out, (HG1.out.block w.heap.size HR.out.lt (fun e => by have := HOWB.out _ e.symm; omega)).trans HR.out, Nat.le_trans HZZ.out HG1.out.size, hb1⟩
   case measure => simp [intOf]; omega
  .have ek : k = 32 := by omega
   rw [ek, List.take_of_length_le (by rw [LH.out]; omega)] at hown
   have hconv := own_string hown; rw [HTH.out] at hconv; have hconv2 := conv_bytes wr.heap.size 0 2 [0, 0] 2 (wr.alloc (.cells #[.int .u8 0, .int .u8 0] 5)) rfl (fun j hj => by have h := (Row.new wr 5 (bytes [0, 0])).cell j; rw [Nat.zero_add]; exact h.trans (zez _ _ hj))
   have HB : Hid (Below w.heap.size w (wr.alloc (.cells #[.int .u8 0, .int .u8 0] 5))) := zh (hbw.next (zab _ _))
   clear hown hr hmw hbw ek; go_wp2; go_ret; exact ⟨by rw [HRES.out]; rfl, HB.out⟩
def hk (H : List UInt8) (k : Nat) : List UInt8 := H.take k ++ List.replicate (32 - k) 0
end
section
open Go.RowKit
def Lst (xs : List Value) : Value -> World -> Prop := fun v w => ∃ g n, v = .slice (some ⟨g, 0, none⟩) n n ∧ xs.length = n ∧ Lies w w.heap.size (some ⟨g, 0, none⟩) xs
theorem Lst.monot (xs : List Value) : Monot (Lst xs) := fun _ _ _ ⟨g, n, h1, h2, h3⟩ hb => ⟨g, n, h1, h2, h3.step hb⟩
theorem zqd (xs : List Value) (w : World) (t : TypeId) (n : Nat) (h : xs.length = n) : Lst xs (.slice (some ⟨w.heap.size, 0, none⟩) n n) (w.alloc (.cells xs.toArray t)) := ⟨_, n, rfl, h, Lies.new xs w t⟩
section
variable {P : Program} {o : Oper} {A : Act} {wx : World} {K : Act -> World -> Prop} {Q : Exit -> Act -> World -> Prop} {φ : Value -> World -> Prop} {G : World -> Prop}
theorem opBuildK (l : List Value) (ty : TypeId) (ps : List (Nat × Value)) (hb : P.built ty ps = some l.toArray) (d : Nat) (hd : o.dst = some d) (hs : d < A.tmps.size)
  (hK : ∀ a' w', (a'.defers = A.defers ∧ φ (a'.tmps.getD d undef) w' ∧ G w' ∧ Below wx.heap.size wx w') -> K a' w')
  (parts : Array (Nat × Operand)) (hop : o.op = .build ty parts) (he : (parts.map fun (i, x) => (i, A.eval x)).toList = ps) (hφ : φ (.agg l.toArray) wx) (hG : G wx) : o.wp P A wx K Q := by
 refine wp_build ty parts hop (by rw [he, hb]; rfl) (hK _ _ ⟨zfg _ _ _, ?_, hG, zb⟩)
 rw [hd, zgs A d _ hs, he, hb]
 exact hφ
end
end
section
open Go.RowKit HeadMath NumMath
theorem ztq (a b c n : Int) (h0 h1 h2 h3 h4 h5 h6 h7 h8 h9 h10 h11 h12 h13 h14 h15 h16 h17 h18 h19 h20 h21 h22 h23 h24 h25 h26 h27 h28 h29 h30 h31 : UInt8) : Tryz.prog.built 29 [(0, .agg #[.int .i64 a, .int .i64 b, .int .i64 c]), (1, .int .i64 n), (2, .agg (bytes [h0, h1, h2, h3, h4, h5, h6, h7, h8, h9, h10, h11, h12, h13, h14, h15, h16, h17, h18, h19, h20, h21, h22, h23, h24, h25, h26, h27, h28, h29, h30, h31]).toArray)] = some (hdv a b c n [h0, h1, h2, h3, h4, h5, h6, h7, h8, h9, h10, h11, h12, h13, h14, h15, h16, h17, h18, h19, h20, h21, h22, h23, h24, h25, h26, h27, h28, h29, h30, h31]).toArray := by kernel_rfl
theorem zbam (a b c n : Int) (H : List UInt8) (hH : H.length = 32) : Tryz.prog.built 29 [(0, .agg #[.int .i64 a, .int .i64 b, .int .i64 c]), (1, .int .i64 n), (2, .agg (bytes H).toArray)] = some (hdv a b c n H).toArray :=
 match H, hH with
 | [h0, h1, h2, h3, h4, h5, h6, h7, h8, h9, h10, h11, h12, h13, h14, h15, h16, h17, h18, h19, h20, h21, h22, h23, h24, h25, h26, h27, h28, h29, h30, h31], _ => ztq a b c n h0 h1 h2 h3 h4 h5 h6 h7 h8 h9 h10 h11 h12 h13 h14 h15 h16 h17 h18 h19 h20 h21 h22 h23 h24 h25 h26 h27 h28 h29 h30 h31
theorem zbaa (s : ByteArray) (D : List UInt8) (v : Value) (w : World) (hD : ShaMath.sha s.data.toList = D) (hg : Glob w) (ht : s.size <= 1000000) (hv : Lst [.string s] v w) :
  Calls Tryz.prog 52 #[v] w fun e w' => e = .returned (.agg (bytes D).toArray) ∧ Below w.heap.size w w' := by
 obtain ⟨g, n, rfl, hn, hl⟩ := hv
 obtain rfl : 1 = n := hn
 have e : cat [s] = s.data.toList := zpw s
 exact zbkg (some ⟨g, 0, none⟩) 1 1 [s] D w rfl (by rw [e, hD]) hg ⟨by omega⟩ ⟨by rw [e, zai]; omega⟩ hl
theorem zxr (a b c : Int) (s : ByteArray) (D : List UInt8) (w : World) (hD : ShaMath.sha s.data.toList = D) (hg : Glob w) (hs : s.size <= 1000000) :
  Calls Tryz.prog 21 #[.agg #[.int .i64 a, .int .i64 b, .int .i64 c], .string s] w fun e w' => e = .returned (.agg (hdv a b c (s.size : Int) D).toArray) ∧ Below w.heap.size w w' := by
 have lD : D.length = 32 := by rw [<- hD, ShaMath.sha_length]
 have HSUM : Hid (∀ wx v, Glob wx -> Lst [.string s] v wx -> Calls Tryz.prog 52 #[v] wx fun e w' => e = .returned (.agg (bytes D).toArray) ∧ Below wx.heap.size wx w') := zh fun wx v g h => zbaa s D v wx hD g hs h
 have HBU := zh (zbam a b c (s.size : Int) D lD)
 have LZ : Hid ((hdv 0 0 0 0 (List.replicate 32 0)).length = 36) := zh (zam _ _ _ _ _ (by simp))
 obtain ⟨V, hV⟩ : ∃ V, hdv a b c (s.size : Int) D = V := ⟨_, rfl⟩
 have LV : Hid (V.length = 36) := zh (by rw [<- hV]; exact zam _ _ _ _ _ lD)
 have V1 : Hid (V.all (·.oneCell') = true) := zh (by rw [<- hV]; exact zcd _ _ _ _ _)
 rw [hV] at HBU ⊢
 have HG := zh hg
 have hsz : (s.size : Int) <= 1000000 := by omega
 clear hD lD hV hg hs
 go_enter Tryz.func21, Tryz.ntmps21
 go_wp2_with (first
  | ((with_reducible refine wpBoxK (w := w) [Value.int .i64 a, .int .i64 b, .int .i64 c] 25 ?_ ?_); rfl; intro u1 r1 b1 s1; have R1 := zh r1; have B1 := zh b1; clear r1 b1 s1)
  | ((with_reducible refine wpAllocK (w := u1) (hdv 0 0 0 0 (List.replicate 32 0)) 29 zcn ?_ ?_); rfl; intro u2 r2 b2 s2; have K2 := zh r2; have R2 := zh (R1.out.step b2); have B2 := zh (B1.out.next b2); clear r2 b2 s2))
 refine zke 7 0 [] (by decide) [(0, 5), (1, 6), (2, 7), (3, 8), (4, 9), (5, 10), (6, 11)]
  (fun ii => [Is (.agg ([Value.int .i64 a, .int .i64 b, .int .i64 c]).toArray), Is (.string s), Is (.int .i64 (s.size : Int)), Is (.string s), Lst [.string s], Is (.agg (bytes D).toArray), Is (.agg V.toArray), Is undef].getD ii (Is undef))
  (fun w' => Below u2.heap.size u2 w') (fun v w' => Row w' u1.heap.size 29 V ∧ Below w.heap.size w w') (by kernel_rfl) (by decide) (by kernel_rfl) (by kernel_rfl) (by decide) (by decide) (by kernel_rfl) rfl (by kernel_rfl) ?monoA ((zb).drew) ?stepA ?stepXA ?stepSA ?finA
 case monoA =>
  intro i
  match i with
  | 0 | 1 | 2 | 3 | 5 | 6 | 7 => exact Is.monot _
  | 4 => exact Lst.monot _
  | _ + 8 => exact Is.monot _
 case stepA =>
  refine zf ⟨?As0, zf ⟨?As1, zf ⟨?As2, zf ⟨?As3, zf ⟨?As4, zf ⟨?As5, zf ⟨?As6, List.forall_mem_nil _⟩⟩⟩⟩⟩⟩⟩
  case As0 =>
   intro _; intro u wx hg hC; clear hC; generalize hA : puts [(0, 5), (1, 6), (2, 7), (3, 8), (4, 9), (5, 10), (6, 11)] _ u = A
   have hp : A.tmps.getD 2 undef = (.pointer (some ⟨w.heap.size, 0, none⟩)) := by rw [<- hA]; exact (zck u _ _ 2 (by decide)).trans (by rfl)
   have hsz : 5 < A.tmps.size := by rw [<- hA]; exact zaq u (by kernel_rfl)
   refine wpOp_step rfl fun K hK => ?_
   clear hA; exact opLoadK (φ := Is (.agg ([Value.int .i64 a, .int .i64 b, .int .i64 c]).toArray)) (R2.out.step hg) _ (zbn) (rfl) 5 rfl hsz hK (.tmp 2) rfl hp rfl hg
  case As1 | As3 =>
   intro _; intro u wx hg hC; clear hC; refine wpOp_step rfl fun K hK => ?_
   simp only [puts, List.foldl]; go_simp; exact zK hK hg
  case As2 =>
   intro _; intro u wx hg hC; have hJ1 := zj hC 1; clear hC; refine wpOp_step rfl fun K hK => ?_
   simp only [puts, List.foldl]; go_simp; exact zK hK hg
  case As4 =>
   intro _; intro u wx hg hC; have hJ3 := zj hC 3; clear hC; refine wpOp_step rfl fun K hK => ?_
   simp only [puts, List.foldl]; go_simp; exact hK _ _ ⟨rfl, zqd [.string s] wx 9 _ rfl, hg.next (zab _ _), zab _ _⟩
  case As5 =>
   intro _; intro u wx hg hC
   have hJ4 : (Lst [.string s]) (u 4) wx := hC.at 4 (by kernel_rfl)
   clear hC; refine wpOp_step rfl fun K hK => ?_
   simp only [puts, List.foldl]; go_simp
   refine (HSUM.out wx _ ((HG.out.step B2.out).step hg) hJ4).mono ?_
   rintro e w' ⟨rfl, hb'⟩
   exact hK _ _ ⟨rfl, rfl, hg.next hb', hb'⟩
  case As6 =>
   intro _; intro u wx hg hC; have hJ0 := zj hC 0; have hJ2 := zj hC 2; have hJ5 := zj hC 5; clear hC; generalize hA : puts [(0, 5), (1, 6), (2, 7), (3, 8), (4, 9), (5, 10), (6, 11)] _ u = A
   have q0 : A.tmps.getD 5 undef = (.agg [Value.int .i64 a, .int .i64 b, .int .i64 c].toArray) := by rw [<- hA]; exact (zat u 0 5 _ _ (by decide) (by decide) (by kernel_rfl)).trans hJ0
   have q1 : A.tmps.getD 7 undef = (.int .i64 (s.size : Int)) := by rw [<- hA]; exact (zat u 2 7 _ _ (by decide) (by decide) (by kernel_rfl)).trans hJ2
   have q2 : A.tmps.getD 10 undef = (.agg (bytes D).toArray) := by rw [<- hA]; exact (zat u 5 10 _ _ (by decide) (by decide) (by kernel_rfl)).trans hJ5
   have hsz : 11 < A.tmps.size := by rw [<- hA]; exact zaq u (by kernel_rfl)
   refine wpOp_step rfl fun K hK => ?_
   clear hA; exact opBuildK (φ := Is (.agg V.toArray)) _ _ _ HBU.out 11 rfl hsz hK _ rfl (by rw [Array.toList_map]; show [(0, A.tmps.getD 5 undef), (1, A.tmps.getD 7 undef), (2, A.tmps.getD 10 undef)] = _; rw [q0, q1, q2]) rfl hg
 case stepXA =>
  refine zf ⟨?Ax0, zf ⟨?Ax1, zf ⟨?Ax2, zf ⟨?Ax3, zf ⟨?Ax4, zf ⟨?Ax5, zf ⟨?Ax6, List.forall_mem_nil _⟩⟩⟩⟩⟩⟩⟩
  case Ax0 | Ax1 | Ax2 | Ax3 | Ax4 | Ax5 | Ax6 =>
   intro hx; exact absurd hx (by decide)
 case stepSA =>
  intro u wx hg hC
  have hJ6 : u 6 = .agg V.toArray := hC (6, 11) (by decide) (by decide)
  clear hC
  generalize hA : puts [(0, 5), (1, 6), (2, 7), (3, 8), (4, 9), (5, 10), (6, 11)] _ u = A
  have hp : A.tmps.getD 4 undef = .pointer (some ⟨u1.heap.size, 0, none⟩) := by rw [<- hA]; exact (zck u _ _ 4 (by decide)).trans (by rfl)
  have hq : A.tmps.getD 11 undef = .agg V.toArray := by rw [<- hA]; exact (zat u 6 11 _ _ (by decide) (by decide) (by kernel_rfl)).trans hJ6
  refine wpOp_step rfl fun K hK => ?_
  clear hA
  exact opStoreK (H := fun w' => Row w' u1.heap.size 29 V ∧ Below w.heap.size w w') (K2.out.step hg) _ V fits_head LZ.out LV.out V1.out hK (.tmp 4) (.tmp 11) rfl hp hq fun w' h1 h2 h3 => ⟨h1, (B2.out.next hg).trans (h2.below B1.out.size (B2.out.next hg).size)⟩
 case finA =>
  intro u u3 hh hφ
  obtain ⟨r3, b3⟩ := hh
  clear hφ
  simp only [puts, List.foldl]
  go_simp
  go_wp2
  exact bodyPost_ret (r3.result rfl _ _ rfl Tryz.underlying29 rfl (by rw [LV.out]; exact fits_head.size)) rfl ⟨rfl, b3⟩
end
section
open Go.RowKit ShaMath
theorem glob_of_laid {W : World} (h : laidMetH Tryz.prog [("triptych/sha.first", Rows.laid_triptych_sha_first), ("triptych/sha.roots", Rows.laid_triptych_sha_roots)] W) : Glob W := by
 rw [MakeChecks.laidMetH_plain _ _ _ (by kernel_rfl)] at h
 have e1 : (Rows.laid_triptych_sha_first : DataW Unit) = Lib.tabData .u32 (first.map tI) := by kernel_rfl
 have e2 : (Rows.laid_triptych_sha_roots : DataW Unit) = Lib.tabData .u32 (roots.map tI) := by kernel_rfl
 rw [e1, e2] at h
 have g1 : Tryz.prog.globalNamed "triptych/sha.first" = some 1 := by kernel_rfl
 have g2 : Tryz.prog.globalNamed "triptych/sha.roots" = some 2 := by kernel_rfl
 have h1 := Lib.tabIs_of_head (t := 196) (e := 166) (n := 8) g1 (by kernel_rfl) Tryz.underlying196 Tryz.underlying166 (by kernel_rfl) (by kernel_rfl) h
 have h2 := Lib.tabIs_of_head (t := 249) (e := 166) (n := 64) g2 (by kernel_rfl) Tryz.underlying249 Tryz.underlying166 (by kernel_rfl) (by kernel_rfl) (laidMet.tail h)
 have c2 : ∀ i (hi : i < roots.length), W.cell? ⟨2, i, none⟩ = some (.int .u32 (tI roots[i])) := fun i hi => by
  rw [h2.cell g2 i (by simpa using hi)]
  simp [List.getD_eq_getElem?_getD, hi]
 refine ⟨?_, fun i hi => ?_, c2⟩
 .have := block_lt_of_cell (c2 0 (by decide))
  exact this
 .rw [h1.cell g1 i (by simpa using hi)]
  simp [List.getD_eq_getElem?_getD, hi]
end
section
open Go.RowKit
def toByte (v : Value) : UInt8 := match v with | .int _ z => UInt8.ofNat z.toNat | _ => 0
theorem zyh {w : World} {n : Nat} {cs : List Value} {x : List Int} (h : Open.Reads w (.arr n (.int .u8)) cs x) : ∃ H : List UInt8, H.length = n ∧ cs = bytes H := by
 obtain ⟨h1, h2, h3⟩ := h
 have hl : cs.length = n := by simpa [Open.Ty.size] using h2
 refine ⟨cs.map toByte, by simpa using hl, ?_⟩
 apply List.ext_getElem?
 intro i
 rw [bytes, List.getElem?_map, List.getElem?_map]
 by_cases hi : i < cs.length
 .have hx : i < x.length := by omega
  have h4 := h3 i hx
  simp only [Open.Ty.size, Nat.mul_one] at h4
  obtain ⟨h5, h6⟩ := h4
  have h7 : cs[i]? = some (.int .u8 x[i]) := by
   have := congrArg (·[0]?) h5
   simpa [List.getElem?_take, List.getElem?_drop] using this
  have hb : 0 <= x[i] ∧ x[i] <= 255 := by
   simp [Lit.wf, IntKind.min, IntKind.max, IntKind.bits, IntKind.signed] at h6
   omega
  rw [h7, Option.map_some, Option.map_some, toByte, UInt8.toNat_ofNat']
  congr 2
  omega
 .rw [List.getElem?_eq_none (by omega)]
  rfl
end
section
open Go.RowKit ShaMath
def sv (j : Nat) : Nat := (sieve 312).getD j 0
end
section
open Go.RowKit HeadMath NumMath
theorem zbhx (D E : List UInt8) (hD : D.length = 32) (hE : E.length = 32) (r : Bool) (h : decide (D = E) = r) (u : World) : (Op.equalIn 10000 27 (.agg (bytes D).toArray) (.agg (bytes E).toArray)).run Tryz.prog u = .ok r u := by rw [zblr D E hD hE u, h]
theorem zng (a b c n : Int) (H : List UInt8) (s : ByteArray) (D : List UInt8) (r : Bool) (w : World) (hH : H.length = 32) (hD : ShaMath.sha s.data.toList = D) (hg : Glob w) (hs : s.size <= 1000000) (hr : (decide (n = (s.size : Int)) && decide (H = D)) = r) :
  Calls Tryz.prog 47 #[.agg (hdv a b c n H).toArray, .string s] w fun e w' => e = .returned (.bool r) ∧ Below w.heap.size w w' := by
 have lD : D.length = 32 := by rw [<- hD, ShaMath.sha_length]
 have HSUM : Hid (∀ wx v, Glob wx -> Lst [.string s] v wx -> Calls Tryz.prog 52 #[v] wx fun e w' => e = .returned (.agg (bytes D).toArray) ∧ Below wx.heap.size wx w') := zh fun wx v g h => zbaa s D v wx hD g hs h
 have LH : Hid ((bytes H).length = 32) := zh (by rw [zaa, hH])
 have HG := zh hg
 have hsz : (s.size : Int) <= 1000000 := by omega
 obtain ⟨r2, hr2⟩ : ∃ r2, decide (H = D) = r2 := ⟨_, rfl⟩
 rw [hr2] at hr
 have HEQ : Hid (∀ u : World, (Op.equalIn 10000 27 (.agg (bytes H).toArray) (.agg (bytes D).toArray)).run Tryz.prog u = .ok r2 u) := zh (zbhx H D hH lD r2 hr2)
 have HV : Hid (hdv a b c n H = [Value.int .i64 a, .int .i64 b, .int .i64 c, .int .i64 n] ++ bytes H ++ []) := zh (by rw [List.append_nil]; rfl)
 have H3 : Hid ((hdv a b c n H)[3]? = some (.int .i64 n)) := zh rfl
 obtain ⟨V, hV⟩ : ∃ V, hdv a b c n H = V := ⟨_, rfl⟩
 rw [hV] at HV H3 ⊢
 clear hD lD hg hs hH hV hr2
 go_enter Tryz.func47, Tryz.ntmps47
 go_wp2_with (first
  | ((with_reducible refine wpBoxK (w := w) V 29 ?_ ?_); rfl; intro u1 r1 b1 s1; have R1 := zh r1; have RM : Hid (Row u1 w.heap.size 29 ([Value.int .i64 a, .int .i64 b, .int .i64 c, .int .i64 n] ++ bytes H ++ [])) := zh (by rw [<- HV.out]; exact r1); have B1 := zh b1; clear r1 b1 s1))
 have HC3 : Hid (u1.cell? ⟨w.heap.size, 3, none⟩ = some (.int .i64 n)) := zh ((R1.out.cell 3).trans H3.out)
 have HLT : Hid (w.heap.size < u1.heap.size) := zh R1.out.lt
 by_cases hn : n = (s.size : Int)
 .have hnd : (n == (s.size : Int)) = true := by simpa using hn
  have hrr : r2 = r := by rw [<- hr]; simp [hn]
  clear hr hn
  subst hrr
  cases r2 with
  | true =>
   refine zak [(0, 5), (1, 6), (2, 7), (3, 8), (4, 9), (5, 10), (6, 11), (7, 12), (8, 13), (9, 14), (10, 15), (11, 16), (12, 17), (13, 4)]
    (fun ii => [Is (.pointer (some ⟨w.heap.size, 3, none⟩)), Is (.int .i64 n), Is (.string s), Is (.int .i64 (s.size : Int)), Is (.bool true), Is (.bool true), Is (.pointer (some ⟨w.heap.size, 4, none⟩)), Is (.agg (bytes H).toArray), Is (.string s), Lst [.string s], Is (.agg (bytes D).toArray), Is (.bool true), Is (.bool true), Is (.bool true)].getD ii (Is undef))
    (fun w' => Below u1.heap.size u1 w') (by kernel_rfl) (by kernel_rfl) (by decide) (by decide) (by kernel_rfl) rfl ?monoM ((zb).drew) ?stepM ?finM
   case monoM =>
    intro i
    match i with
    | 0 | 1 | 2 | 3 | 4 | 5 | 6 | 7 | 8 | 10 | 11 | 12 | 13 => exact Is.monot _
    | 9 => exact Lst.monot _
    | _ + 14 => exact Is.monot _
   case stepM =>
    refine zf ⟨?Ms0, zf ⟨?Ms1, zf ⟨?Ms2, zf ⟨?Ms3, zf ⟨?Ms4, zf ⟨?Ms5, zf ⟨?Ms6, zf ⟨?Ms7, zf ⟨?Ms8, zf ⟨?Ms9, zf ⟨?Ms10, zf ⟨?Ms11, zf ⟨?Ms12, zf ⟨?Ms13, List.forall_mem_nil _⟩⟩⟩⟩⟩⟩⟩⟩⟩⟩⟩⟩⟩⟩
    case Ms0 | Ms2 =>
     intro u wx hg hC; clear hC; refine wpOp_step rfl fun K hK => ?_
     simp only [puts, List.foldl]; go_simp; exact zK hK hg
    case Ms1 =>
     intro u wx hg hC; have hJ0 := zj hC 0; clear hC
     have hcl : wx.cell? ⟨w.heap.size, 3, none⟩ = some (.int .i64 n) := (hg.cell (p := ⟨w.heap.size, 3, none⟩) HLT.out).trans HC3.out
     refine wpOp_step rfl fun K hK => ?_
     simp only [puts, List.foldl]; go_simp; exact zK hK hg
    case Ms3 =>
     intro u wx hg hC; have hJ2 := zj hC 2; clear hC; refine wpOp_step rfl fun K hK => ?_
     simp only [puts, List.foldl]; go_simp; exact zK hK hg
    case Ms4 =>
     intro u wx hg hC; have hJ1 := zj hC 1; have hJ3 := zj hC 3; clear hC; refine wpOp_step rfl fun K hK => ?_
     simp only [puts, List.foldl]; go_simp; exact zK hK hg
    case Ms5 =>
     intro u wx hg hC; have hJ4 := zj hC 4; clear hC; refine wpOp_step rfl fun K hK => ?_
     simp only [puts, List.foldl]; go_simp; exact zK hK hg
    case Ms6 | Ms8 =>
     intro u wx hg hC; have hJ5 := zj hC 5; clear hC; generalize hA : puts [(0, 5), (1, 6), (2, 7), (3, 8), (4, 9), (5, 10), (6, 11), (7, 12), (8, 13), (9, 14), (10, 15), (11, 16), (12, 17), (13, 4)] _ u = A
     refine zgA hA rfl 5 10 true rfl rfl hJ5 (fun K hK => ?_)
     subst hA; simp only [puts, List.foldl]; go_simp; exact zK hK hg
    case Ms7 =>
     intro u wx hg hC; have hJ5 := zj hC 5; have hJ6 := zj hC 6; clear hC; generalize hA : puts [(0, 5), (1, 6), (2, 7), (3, 8), (4, 9), (5, 10), (6, 11), (7, 12), (8, 13), (9, 14), (10, 15), (11, 16), (12, 17), (13, 4)] _ u = A
     have hgv : A.tmps.getD 10 undef = .bool true := by rw [<- hA]; exact (zat u 5 10 _ _ (by decide) (by decide) (by kernel_rfl)).trans hJ5
     have hgs : 10 < A.tmps.size := by rw [<- hA]; exact zaq u (by kernel_rfl)
     have hp : A.tmps.getD 11 undef = (.pointer (some ⟨w.heap.size, 4, none⟩)) := by rw [<- hA]; exact (zat u 6 11 _ _ (by decide) (by decide) (by kernel_rfl)).trans hJ6
     have hsz : 12 < A.tmps.size := by rw [<- hA]; exact zaq u (by kernel_rfl)
     refine zci rfl 5 10 true rfl rfl hgs hgv (fun K hK => ?_)
     clear hA; exact opLoadRK (φ := Is (.agg (bytes H).toArray)) ((RM.out.step hg).mid 4 rfl) _ (fits_hash) (LH.out) 12 rfl hsz hK (.tmp 11) rfl hp rfl hg
    case Ms9 =>
     intro u wx hg hC; have hJ5 := zj hC 5; have hJ8 := zj hC 8; clear hC; generalize hA : puts [(0, 5), (1, 6), (2, 7), (3, 8), (4, 9), (5, 10), (6, 11), (7, 12), (8, 13), (9, 14), (10, 15), (11, 16), (12, 17), (13, 4)] _ u = A
     refine zgA hA rfl 5 10 true rfl rfl hJ5 (fun K hK => ?_)
     subst hA; simp only [puts, List.foldl]; go_simp; exact hK _ _ ⟨rfl, zqd [.string s] wx 9 _ rfl, hg.next (zab _ _), zab _ _⟩
    case Ms10 =>
     intro u wx hg hC; have hJ5 := zj hC 5
     have hJ9 : (Lst [.string s]) (u 9) wx := hC.at 9 (by kernel_rfl)
     clear hC; generalize hA : puts [(0, 5), (1, 6), (2, 7), (3, 8), (4, 9), (5, 10), (6, 11), (7, 12), (8, 13), (9, 14), (10, 15), (11, 16), (12, 17), (13, 4)] _ u = A
     refine zgA hA rfl 5 10 true rfl rfl hJ5 (fun K hK => ?_)
     subst hA; simp only [puts, List.foldl]; go_simp
     refine (HSUM.out wx _ ((HG.out.step B1.out).step hg) hJ9).mono ?_
     rintro e w' ⟨rfl, hb'⟩
     exact hK _ _ ⟨rfl, rfl, hg.next hb', hb'⟩
    case Ms11 =>
     intro u wx hg hC; have hJ5 := zj hC 5; have hJ7 := zj hC 7; have hJ10 := zj hC 10; clear hC; have heq := HEQ.out; generalize hA : puts [(0, 5), (1, 6), (2, 7), (3, 8), (4, 9), (5, 10), (6, 11), (7, 12), (8, 13), (9, 14), (10, 15), (11, 16), (12, 17), (13, 4)] _ u = A
     refine zgA hA rfl 5 10 true rfl rfl hJ5 (fun K hK => ?_)
     subst hA; simp only [puts, List.foldl]; go_simp; exact zK hK hg
    case Ms12 =>
     intro u wx hg hC; have hJ5 := zj hC 5; have hJ11 := zj hC 11; clear hC; refine wpOp_step rfl fun K hK => ?_
     simp only [puts, List.foldl]; go_simp; exact zK hK hg
    case Ms13 =>
     intro u wx hg hC; have hJ12 := zj hC 12; clear hC; refine wpOp_step rfl fun K hK => ?_
     simp only [puts, List.foldl]; go_simp; exact zK hK hg
   case finM =>
    intro u wx hg hC
    have hC13 : u 13 = .bool true := hC (13, 4) (by decide)
    have B10 := zh (B1.out.next hg)
    clear hg hC; simp only [puts, List.foldl]; rw [hC13]; go_simp; go_wp2; go_ret; exact ⟨rfl, B10.out⟩
  | false =>
   refine zak [(0, 5), (1, 6), (2, 7), (3, 8), (4, 9), (5, 10), (6, 11), (7, 12), (8, 13), (9, 14), (10, 15), (11, 16), (12, 17), (13, 4)]
    (fun ii => [Is (.pointer (some ⟨w.heap.size, 3, none⟩)), Is (.int .i64 n), Is (.string s), Is (.int .i64 (s.size : Int)), Is (.bool true), Is (.bool true), Is (.pointer (some ⟨w.heap.size, 4, none⟩)), Is (.agg (bytes H).toArray), Is (.string s), Lst [.string s], Is (.agg (bytes D).toArray), Is (.bool false), Is (.bool false), Is (.bool false)].getD ii (Is undef))
    (fun w' => Below u1.heap.size u1 w') (by kernel_rfl) (by kernel_rfl) (by decide) (by decide) (by kernel_rfl) rfl ?monoN ((zb).drew) ?stepN ?finN
   case monoN =>
    intro i
    match i with
    | 0 | 1 | 2 | 3 | 4 | 5 | 6 | 7 | 8 | 10 | 11 | 12 | 13 => exact Is.monot _
    | 9 => exact Lst.monot _
    | _ + 14 => exact Is.monot _
   case stepN =>
    refine zf ⟨?Ns0, zf ⟨?Ns1, zf ⟨?Ns2, zf ⟨?Ns3, zf ⟨?Ns4, zf ⟨?Ns5, zf ⟨?Ns6, zf ⟨?Ns7, zf ⟨?Ns8, zf ⟨?Ns9, zf ⟨?Ns10, zf ⟨?Ns11, zf ⟨?Ns12, zf ⟨?Ns13, List.forall_mem_nil _⟩⟩⟩⟩⟩⟩⟩⟩⟩⟩⟩⟩⟩⟩
    case Ns0 | Ns2 =>
     intro u wx hg hC; clear hC; refine wpOp_step rfl fun K hK => ?_
     simp only [puts, List.foldl]; go_simp; exact zK hK hg
    case Ns1 =>
     intro u wx hg hC; have hJ0 := zj hC 0; clear hC
     have hcl : wx.cell? ⟨w.heap.size, 3, none⟩ = some (.int .i64 n) := (hg.cell (p := ⟨w.heap.size, 3, none⟩) HLT.out).trans HC3.out
     refine wpOp_step rfl fun K hK => ?_
     simp only [puts, List.foldl]; go_simp; exact zK hK hg
    case Ns3 =>
     intro u wx hg hC; have hJ2 := zj hC 2; clear hC; refine wpOp_step rfl fun K hK => ?_
     simp only [puts, List.foldl]; go_simp; exact zK hK hg
    case Ns4 =>
     intro u wx hg hC; have hJ1 := zj hC 1; have hJ3 := zj hC 3; clear hC; refine wpOp_step rfl fun K hK => ?_
     simp only [puts, List.foldl]; go_simp; exact zK hK hg
    case Ns5 =>
     intro u wx hg hC; have hJ4 := zj hC 4; clear hC; refine wpOp_step rfl fun K hK => ?_
     simp only [puts, List.foldl]; go_simp; exact zK hK hg
    case Ns6 | Ns8 =>
     intro u wx hg hC; have hJ5 := zj hC 5; clear hC; generalize hA : puts [(0, 5), (1, 6), (2, 7), (3, 8), (4, 9), (5, 10), (6, 11), (7, 12), (8, 13), (9, 14), (10, 15), (11, 16), (12, 17), (13, 4)] _ u = A
     refine zgA hA rfl 5 10 true rfl rfl hJ5 (fun K hK => ?_)
     subst hA; simp only [puts, List.foldl]; go_simp; exact zK hK hg
    case Ns7 =>
     intro u wx hg hC; have hJ5 := zj hC 5; have hJ6 := zj hC 6; clear hC; generalize hA : puts [(0, 5), (1, 6), (2, 7), (3, 8), (4, 9), (5, 10), (6, 11), (7, 12), (8, 13), (9, 14), (10, 15), (11, 16), (12, 17), (13, 4)] _ u = A
     have hgv : A.tmps.getD 10 undef = .bool true := by rw [<- hA]; exact (zat u 5 10 _ _ (by decide) (by decide) (by kernel_rfl)).trans hJ5
     have hgs : 10 < A.tmps.size := by rw [<- hA]; exact zaq u (by kernel_rfl)
     have hp : A.tmps.getD 11 undef = (.pointer (some ⟨w.heap.size, 4, none⟩)) := by rw [<- hA]; exact (zat u 6 11 _ _ (by decide) (by decide) (by kernel_rfl)).trans hJ6
     have hsz : 12 < A.tmps.size := by rw [<- hA]; exact zaq u (by kernel_rfl)
     refine zci rfl 5 10 true rfl rfl hgs hgv (fun K hK => ?_)
     clear hA; exact opLoadRK (φ := Is (.agg (bytes H).toArray)) ((RM.out.step hg).mid 4 rfl) _ (fits_hash) (LH.out) 12 rfl hsz hK (.tmp 11) rfl hp rfl hg
    case Ns9 =>
     intro u wx hg hC; have hJ5 := zj hC 5; have hJ8 := zj hC 8; clear hC; generalize hA : puts [(0, 5), (1, 6), (2, 7), (3, 8), (4, 9), (5, 10), (6, 11), (7, 12), (8, 13), (9, 14), (10, 15), (11, 16), (12, 17), (13, 4)] _ u = A
     refine zgA hA rfl 5 10 true rfl rfl hJ5 (fun K hK => ?_)
     subst hA; simp only [puts, List.foldl]; go_simp; exact hK _ _ ⟨rfl, zqd [.string s] wx 9 _ rfl, hg.next (zab _ _), zab _ _⟩
    case Ns10 =>
     intro u wx hg hC; have hJ5 := zj hC 5
     have hJ9 : (Lst [.string s]) (u 9) wx := hC.at 9 (by kernel_rfl)
     clear hC; generalize hA : puts [(0, 5), (1, 6), (2, 7), (3, 8), (4, 9), (5, 10), (6, 11), (7, 12), (8, 13), (9, 14), (10, 15), (11, 16), (12, 17), (13, 4)] _ u = A
     refine zgA hA rfl 5 10 true rfl rfl hJ5 (fun K hK => ?_)
     subst hA; simp only [puts, List.foldl]; go_simp
     refine (HSUM.out wx _ ((HG.out.step B1.out).step hg) hJ9).mono ?_
     rintro e w' ⟨rfl, hb'⟩
     exact hK _ _ ⟨rfl, rfl, hg.next hb', hb'⟩
    case Ns11 =>
     intro u wx hg hC; have hJ5 := zj hC 5; have hJ7 := zj hC 7; have hJ10 := zj hC 10; clear hC; have heq := HEQ.out; generalize hA : puts [(0, 5), (1, 6), (2, 7), (3, 8), (4, 9), (5, 10), (6, 11), (7, 12), (8, 13), (9, 14), (10, 15), (11, 16), (12, 17), (13, 4)] _ u = A
     refine zgA hA rfl 5 10 true rfl rfl hJ5 (fun K hK => ?_)
     subst hA; simp only [puts, List.foldl]; go_simp; exact zK hK hg
    case Ns12 =>
     intro u wx hg hC; have hJ5 := zj hC 5; have hJ11 := zj hC 11; clear hC; refine wpOp_step rfl fun K hK => ?_
     simp only [puts, List.foldl]; go_simp; exact zK hK hg
    case Ns13 =>
     intro u wx hg hC; have hJ12 := zj hC 12; clear hC; refine wpOp_step rfl fun K hK => ?_
     simp only [puts, List.foldl]; go_simp; exact zK hK hg
   case finN =>
    intro u wx hg hC
    have hC13 : u 13 = .bool false := hC (13, 4) (by decide)
    have B10 := zh (B1.out.next hg)
    clear hg hC; simp only [puts, List.foldl]; rw [hC13]; go_simp; go_wp2; go_ret; exact ⟨rfl, B10.out⟩
 .have hnd : (n == (s.size : Int)) = false := by simpa using hn
  have hrr : r = false := by rw [<- hr]; simp [hn]
  clear hr hn
  subst hrr
  refine zak [(0, 5), (1, 6), (2, 7), (3, 8), (4, 9), (5, 10), (6, 11), (7, 12), (8, 13), (9, 14), (10, 15), (11, 16), (12, 17), (13, 4)]
   (fun ii => [Is (.pointer (some ⟨w.heap.size, 3, none⟩)), Is (.int .i64 n), Is (.string s), Is (.int .i64 (s.size : Int)), Is (.bool false), Is (.bool false), Is undef, Is undef, Is undef, Is undef, Is undef, Is undef, Is (.bool false), Is (.bool false)].getD ii (Is undef))
   (fun w' => Below u1.heap.size u1 w') (by kernel_rfl) (by kernel_rfl) (by decide) (by decide) (by kernel_rfl) rfl ?monoO ((zb).drew) ?stepO ?finO
  case monoO =>
   intro i
   match i with
   | 0 | 1 | 2 | 3 | 4 | 5 | 6 | 7 | 8 | 9 | 10 | 11 | 12 | 13 => exact Is.monot _
   | _ + 14 => exact Is.monot _
  case stepO =>
   refine zf ⟨?Os0, zf ⟨?Os1, zf ⟨?Os2, zf ⟨?Os3, zf ⟨?Os4, zf ⟨?Os5, zf ⟨?Os6, zf ⟨?Os7, zf ⟨?Os8, zf ⟨?Os9, zf ⟨?Os10, zf ⟨?Os11, zf ⟨?Os12, zf ⟨?Os13, List.forall_mem_nil _⟩⟩⟩⟩⟩⟩⟩⟩⟩⟩⟩⟩⟩⟩
   case Os0 | Os2 =>
    intro u wx hg hC; clear hC; refine wpOp_step rfl fun K hK => ?_
    simp only [puts, List.foldl]; go_simp; exact zK hK hg
   case Os1 =>
    intro u wx hg hC; have hJ0 := zj hC 0; clear hC
    have hcl : wx.cell? ⟨w.heap.size, 3, none⟩ = some (.int .i64 n) := (hg.cell (p := ⟨w.heap.size, 3, none⟩) HLT.out).trans HC3.out
    refine wpOp_step rfl fun K hK => ?_
    simp only [puts, List.foldl]; go_simp; exact zK hK hg
   case Os3 =>
    intro u wx hg hC; have hJ2 := zj hC 2; clear hC; refine wpOp_step rfl fun K hK => ?_
    simp only [puts, List.foldl]; go_simp; exact zK hK hg
   case Os4 =>
    intro u wx hg hC; have hJ1 := zj hC 1; have hJ3 := zj hC 3; clear hC; refine wpOp_step rfl fun K hK => ?_
    simp only [puts, List.foldl]; go_simp; exact zK hK hg
   case Os5 =>
    intro u wx hg hC; have hJ4 := zj hC 4; clear hC; refine wpOp_step rfl fun K hK => ?_
    simp only [puts, List.foldl]; go_simp; exact zK hK hg
   case Os6 | Os7 | Os8 | Os9 | Os10 | Os11 =>
    intro u wx hg hC; have hJ5 := zj hC 5; clear hC; generalize hA : puts [(0, 5), (1, 6), (2, 7), (3, 8), (4, 9), (5, 10), (6, 11), (7, 12), (8, 13), (9, 14), (10, 15), (11, 16), (12, 17), (13, 4)] _ u = A
    refine zkA hA rfl 5 10 true rfl rfl hJ5 ?_
    subst hA; simp only [puts, List.foldl]; go_simp
    first | exact ⟨rfl, hg, zb⟩ | exact ⟨rfl, hg⟩ | exact ⟨rfl, zb⟩ | exact ⟨rfl, rfl, hg, zb⟩ | exact ⟨hg, zb⟩
   case Os12 =>
    intro u wx hg hC; have hJ5 := zj hC 5; have hJ11 := zj hC 11; clear hC; refine wpOp_step rfl fun K hK => ?_
    simp only [puts, List.foldl]; go_simp; exact zK hK hg
   case Os13 =>
    intro u wx hg hC; have hJ12 := zj hC 12; clear hC; refine wpOp_step rfl fun K hK => ?_
    simp only [puts, List.foldl]; go_simp; exact zK hK hg
  case finO =>
   intro u wx hg hC
   have hC13 : u 13 = .bool false := hC (13, 4) (by decide)
   have B10 := zh (B1.out.next hg)
   clear hg hC; simp only [puts, List.foldl]; rw [hC13]; go_simp; go_wp2; go_ret; exact ⟨rfl, B10.out⟩
end
end Go.Proofs.YtojimgbcghiblaaGreatDoor