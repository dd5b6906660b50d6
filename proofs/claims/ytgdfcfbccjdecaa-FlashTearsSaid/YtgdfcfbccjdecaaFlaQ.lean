/- FlashNone's walk. -/
import Derived.Test.YtgdfcfbccjdecaaFlaP
namespace Go.Proofs.Ytgdfcfbccjdecaa
open Go.RowKit FlaMath
set_option linter.unusedVariables false
set_option maxRecDepth 100000

theorem copy_nil (w : World) : Calls Try.prog 23 #[.pointer none] w fun e w' => e = .returned (.pointer none) ∧ w = w' := by
  have HX := Lib.hid (none_nil w)
  go_enter Try.func23, Try.ntmps23
  go_wp2_with (go_at_call 39; (with_reducible refine HX.out.mono ?_); rintro e u1 ⟨rfl, rfl⟩)
  go_ret
  exact ⟨rfl, rfl⟩
theorem OpsAt.one (o : OpV) (w : World) (t : TypeId) : OpsAt (w.alloc (.cells (opL o).toArray t)) (some ⟨w.heap.size, 0, none⟩) [o] := by
  intro _
  refine ⟨_, _, rfl, by simp, fun i hi => ?_⟩
  have h0 : i = 0 := by simp at hi; exact hi
  subst h0
  intro j v hj
  have := (Row.new w t (opL o)).cell j
  rw [show (opL o)[j]? = some v from hj] at this
  simpa using this
theorem fgreat_one (o : OpV) (w : World) (hI : o.In) : Calls Try.prog 8 #[.slice (some ⟨w.heap.size, 0, none⟩) 1 1] (w.alloc (.cells (opL o).toArray 36)) fun e w' => e = .returned (.bool (gr [o])) ∧ Below w.heap.size w w' := by
  refine (fla_great_any _ 1 [o] _ (OpsAt.one o w _) (by simp) (fun q hq => by rw [List.mem_singleton] at hq; rw [hq]; exact hI)).mono ?_
  rintro e w' ⟨rfl, hb⟩
  exact ⟨rfl, (alloc_below w _).next hb⟩
set_option maxHeartbeats 1000000 in
theorem flashNone_walk (o : OpV) (w : World) (hI : o.In) : Calls Try.prog 4 #[.agg (opL o).toArray] w fun e w' => e = .returned (.bool true) ∧ Below w.heap.size w w' := by
  have HA := Lib.hid flash_awake
  have HG : Hid (∀ w, Calls Try.prog 8 #[.slice (some ⟨w.heap.size, 0, none⟩) 1 1] (w.alloc (.cells (opL o).toArray 36)) fun e w' => e = .returned (.bool (gr [o])) ∧ Below w.heap.size w w') := Lib.hid fun w => fgreat_one o w hI
  obtain ⟨G, hG⟩ : ∃ G, gr [o] = G := ⟨_, rfl⟩
  rw [hG] at HG
  obtain ⟨k, at_, n, s, fb, fm⟩ := o
  have hs := hI.hs
  clear hI hG
  change Calls _ _ #[.agg #[.int .i64 k, .int .i64 at_, .int .i64 n, .string s, .int .i64 fb, .int .u8 (fm.toNat : Int)]] _ _
  change Hid (∀ w : World, Calls _ _ _ (w.alloc (.cells #[.int .i64 k, .int .i64 at_, .int .i64 n, .string s, .int .i64 fb, .int .u8 (fm.toNat : Int)] _)) _) at HG
  have HF : Hid (∀ w, Calls Try.prog 16 #[.pointer none, .int .i64 n, .agg #[.int .i64 fb, .int .u8 (fm.toNat : Int)]] w fun e w' => e = .returned (.tuple #[]) ∧ Below w.heap.size w w') := Lib.hid (fuse_nil n fb fm)
  obtain ⟨m, hm⟩ : ∃ m : Int, (fm.toNat : Int) = m := ⟨_, rfl⟩
  rw [hm] at HG HF ⊢
  clear hm
  have HPO := Lib.hid poweron_nil
  have HRD : Hid (∀ w, Calls Try.prog 14 #[.pointer none, .int .i64 at_, .int .i64 n] w fun e w' => e = .returned (.tuple #[.string { data := #[] }, .int .i64 1]) ∧ w = w') := Lib.hid (read_nil at_ n)
  have HER := Lib.hid (erase_nil at_)
  have HPR := Lib.hid (program_nil at_ s)
  have HLK := Lib.hid (lock_nil at_ n)
  have HLD := Lib.hid (locked_nil at_)
  have HDN := Lib.hid down_nil
  have HRO := Lib.hid (rot_nil at_)
  have HSE := Lib.hid sectors_nil
  have HOP := Lib.hid fops_nil
  have HDU : Hid (∀ w, Calls Try.prog 12 #[.pointer none, .int .i64 at_] w fun e w' => e = .returned (.string { data := #[] }) ∧ w = w') := Lib.hid (dump_nil at_)
  have HCO := Lib.hid copy_nil
  have HFT : Hid (([.int .i64 fb, .int .u8 m] : List Value).length = 2) := Lib.hid rfl
  have HX4 : Hid (([.int .i64 k, .int .i64 at_, .int .i64 n, .string s] : List Value).length = 4) := Lib.hid rfl
  have HL6 : Hid (([.int .i64 k, .int .i64 at_, .int .i64 n, .string s, .int .i64 fb, .int .u8 m] : List Value).length = 6) := Lib.hid rfl
  cases G with
  | true =>
    go_enter Try.func4, Try.ntmps4
    go_wp2_with (first
      | ((with_reducible refine wpBoxK [.int .i64 k, .int .i64 at_, .int .i64 n, .string s, .int .i64 fb, .int .u8 m] 36 ?_ ?_); rfl; intro w1 r1 b1 s1; have R1 := Lib.hid r1; have B1 := Lib.hid b1; clear r1 b1 s1)
      | (go_at_call 7; (with_reducible refine (HA.out w1).mono ?_); rintro e w2 ⟨rfl, b2⟩; have R2 := Lib.hid (R1.out.step b2); have B2 := Lib.hid (B1.out.next b2); clear b2)
      | ((with_reducible refine R2.out.wpLoadK 36 fits_op HL6.out ?_ ?_); rfl)
      | (go_at_call 8; (with_reducible refine (HG.out w2).mono ?_); rintro e w3 ⟨rfl, b3⟩; have B3 := Lib.hid (B2.out.next b3); clear b3))
    go_ret
    exact ⟨rfl, B3.out⟩
  | false =>
    go_enter Try.func4, Try.ntmps4
    go_wp2_with (first
      | ((with_reducible refine wpBoxK [.int .i64 k, .int .i64 at_, .int .i64 n, .string s, .int .i64 fb, .int .u8 m] 36 ?_ ?_); rfl; intro w1 r1 b1 s1; have R1 := Lib.hid r1; have B1 := Lib.hid b1; clear r1 b1 s1)
      | (go_at_call 7; (with_reducible refine (HA.out w1).mono ?_); rintro e w2 ⟨rfl, b2⟩; have R2 := Lib.hid (R1.out.step b2); have B2 := Lib.hid (B1.out.next b2); clear b2)
      | ((with_reducible refine R2.out.wpLoadK 36 fits_op HL6.out ?_ ?_); rfl)
      | (go_at_call 8; (with_reducible refine (HG.out w2).mono ?_); rintro e w3 ⟨rfl, b3⟩; have R3 := Lib.hid (R2.out.step b3); have RM3 : Hid (Row w3 w.heap.size 36 ([.int .i64 k, .int .i64 at_, .int .i64 n, .string s] ++ [.int .i64 fb, .int .u8 m] ++ [])) := Lib.hid R3.out; have c13 := R3.out.cell 1; have c23 := R3.out.cell 2; have B3 := Lib.hid (B2.out.next b3); clear b3)
      | (go_at_call 17; (with_reducible refine (HPO.out w3).mono ?_); rintro e u1 ⟨rfl, rfl⟩)
      | ((with_reducible refine RM3.out.wpLoadMidK 4 HX4.out 34 fits_torn HFT.out ?_ ?_); rfl)
      | (go_at_call 16; (with_reducible refine (HF.out w3).mono ?_); rintro e w4 ⟨rfl, b4⟩; have R4 := Lib.hid (R3.out.step b4); have c14 := R4.out.cell 1; have c24 := R4.out.cell 2; have B4 := Lib.hid (B3.out.next b4); clear b4)
      | (go_at_call 14; (with_reducible refine (HRD.out w4).mono ?_); rintro e u1 ⟨rfl, rfl⟩)
      | (go_at_call 15; (with_reducible refine (HER.out w4).mono ?_); rintro e w5 ⟨rfl, b5⟩; have R5 := Lib.hid (R4.out.step b5); have c15 := R5.out.cell 1; have c35 := R5.out.cell 3; have B5 := Lib.hid (B4.out.next b5); clear b5)
      | (go_at_call 10; (with_reducible refine (HPR.out w5).mono ?_); rintro e w6 ⟨rfl, b6⟩; have R6 := Lib.hid (R5.out.step b6); have c16 := R6.out.cell 1; have c26 := R6.out.cell 2; have B6 := Lib.hid (B5.out.next b6); have c17 : ∀ (x : Value) t, (w6.alloc (.cells #[x] t)).cell? ⟨w.heap.size, 1, none⟩ = some (.int .i64 at_) := (fun x t => (R6.out.alloc _).cell 1); clear b6)
      | (go_at_call 13; (with_reducible refine (HLK.out w6).mono ?_); rintro e u1 ⟨rfl, rfl⟩)
      | (go_at_call 18; (with_reducible refine (HLD.out w6).mono ?_); rintro e u1 ⟨rfl, rfl⟩)
      | (go_at_call 19; (with_reducible refine (HDN.out w6).mono ?_); rintro e u1 ⟨rfl, rfl⟩)
      | (go_at_call 20; (with_reducible refine (HRO.out _ _).mono ?_); rintro e u1 ⟨rfl, rfl⟩)
      | (go_at_call 21; (with_reducible refine (HSE.out _).mono ?_); rintro e u1 ⟨rfl, rfl⟩)
      | (go_at_call 22; (with_reducible refine (HOP.out _).mono ?_); rintro e u1 ⟨rfl, rfl⟩)
      | (go_at_call 12; (with_reducible refine (HDU.out _).mono ?_); rintro e u1 ⟨rfl, rfl⟩)
      | (go_at_call 23; (with_reducible refine (HCO.out _).mono ?_); rintro e u1 ⟨rfl, rfl⟩))
    go_ret
    exact ⟨rfl, B6.out.alloc B6.out.size _⟩
end Go.Proofs.Ytgdfcfbccjdecaa
