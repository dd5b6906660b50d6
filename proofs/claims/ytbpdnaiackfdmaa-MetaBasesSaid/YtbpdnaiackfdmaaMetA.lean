/- What the slots are, in memory: is, idle, boots, let, spoil, Trial. -/
import Derived.Test.YtbpdnaiackfdmaaMetMath
import Derived.Test.YtbpdnaiackfdmaaRecL
import Derived.Test.YtbpdnaiackfdmaaOpMid
import Derived.StillTailTactics
import Derived.BigQuiet
namespace Go.Proofs.Ytbpdnaiackfdmaa
open Go.RowKit MetMath
set_option linter.unusedVariables false
set_option maxRecDepth 100000

theorem met_ptr_cells (p : Option Addr) : (Value.pointer p).cells = #[Value.pointer p] := rfl
theorem met_int_cells (x : Int) : (Value.int .i64 x).cells = #[Value.int .i64 x] := rfl
def slc (x : Sl) : List Value := [.int .i64 x.s, .int .i64 x.v, .int .i64 x.b]
def mcs (m : Mt) : List Value := [.int .i64 m.a.s, .int .i64 m.a.v, .int .i64 m.a.b, .int .i64 m.b.s, .int .i64 m.b.v, .int .i64 m.b.b, .int .i64 m.c.s, .int .i64 m.c.v, .int .i64 m.c.b,
  .int .i64 m.act, .int .i64 m.flo, .int .i64 m.cur, .int .i64 m.int]
/-- A change: what is known, and the record. -/
def chg (m : Mt) (k i n v : Int) : List Value := mcs m ++ rcv k i n v
theorem chg_at {w : World} {g : Nat} {t : TypeId} {m : Mt} {k i n v : Int} (h : Row w g t (chg m k i n v)) :
    w.cell? ⟨g, 0, none⟩ = some (.int .i64 m.a.s) ∧ w.cell? ⟨g, 1, none⟩ = some (.int .i64 m.a.v) ∧ w.cell? ⟨g, 2, none⟩ = some (.int .i64 m.a.b)
    ∧ w.cell? ⟨g, 3, none⟩ = some (.int .i64 m.b.s) ∧ w.cell? ⟨g, 4, none⟩ = some (.int .i64 m.b.v) ∧ w.cell? ⟨g, 5, none⟩ = some (.int .i64 m.b.b)
    ∧ w.cell? ⟨g, 6, none⟩ = some (.int .i64 m.c.s) ∧ w.cell? ⟨g, 7, none⟩ = some (.int .i64 m.c.v) ∧ w.cell? ⟨g, 8, none⟩ = some (.int .i64 m.c.b)
    ∧ w.cell? ⟨g, 9, none⟩ = some (.int .i64 m.act) ∧ w.cell? ⟨g, 10, none⟩ = some (.int .i64 m.flo) ∧ w.cell? ⟨g, 11, none⟩ = some (.int .i64 m.cur) ∧ w.cell? ⟨g, 12, none⟩ = some (.int .i64 m.int)
    ∧ w.cell? ⟨g, 13, none⟩ = some (.int .i64 k) ∧ w.cell? ⟨g, 14, none⟩ = some (.int .i64 i) ∧ w.cell? ⟨g, 15, none⟩ = some (.int .i64 n) ∧ w.cell? ⟨g, 16, none⟩ = some (.int .i64 v) :=
  ⟨h.cell 0, h.cell 1, h.cell 2, h.cell 3, h.cell 4, h.cell 5, h.cell 6, h.cell 7, h.cell 8, h.cell 9, h.cell 10, h.cell 11, h.cell 12, h.cell 13, h.cell 14, h.cell 15, h.cell 16⟩
theorem fits_slot : Fits Try.prog 25 3 := ⟨⟨_, Try.underlying25, rfl⟩, by kernel_rfl⟩
theorem fits_meta : Fits Try.prog 28 13 := ⟨⟨_, Try.underlying28, rfl⟩, by kernel_rfl⟩
theorem fits_slots : Fits Try.prog 26 9 := ⟨⟨_, Try.underlying26, rfl⟩, by kernel_rfl⟩
theorem fits_change : Fits Try.prog 55 17 := ⟨⟨_, Try.underlying55, rfl⟩, by kernel_rfl⟩

theorem met_is_any (m : Mt) (k i n v st : Int) (g : Nat) (w : World) (h : Row w g 55 (chg m k i n v)) (hi : isS i = true) :
    Calls Try.prog 29 #[.pointer (some ⟨g, 0, none⟩), .int .i64 st] w fun e w' => e = .returned (.bool (m.is i st)) ∧ ∃ d, w' = w.drewN d := by
  obtain ⟨q0, q1, q2, q3, q4, q5, q6, q7, q8, q9, q10, q11, q12, q13, q14, q15, q16⟩ := chg_at h
  clear h
  rcases isS_is.1 hi with rfl | rfl | rfl
  · rw [show m.is 0 st = (m.a.s == st) from rfl]
    go_enter Try.func29, Try.ntmps29
    go_wp2
    go_quiet (fail)
    go_wp2
    go_ret
    exact ⟨rfl, _, rfl⟩
  · rw [show m.is 1 st = (m.b.s == st) from rfl]
    go_enter Try.func29, Try.ntmps29
    go_wp2
    go_quiet (fail)
    go_wp2
    go_ret
    exact ⟨rfl, _, rfl⟩
  · rw [show m.is 2 st = (m.c.s == st) from rfl]
    go_enter Try.func29, Try.ntmps29
    go_wp2
    go_quiet (fail)
    go_wp2
    go_ret
    exact ⟨rfl, _, rfl⟩
theorem met_is_at (m : Mt) (k i n v st : Int) (r : Bool) (g : Nat) (w : World) (h : Row w g 55 (chg m k i n v)) (hi : isS i = true) (hr : m.is i st = r) : ∀ d,
    Calls Try.prog 29 #[.pointer (some ⟨g, 0, none⟩), .int .i64 st] (w.drewN d) fun e w' => e = .returned (.bool r) ∧ ∃ d', w' = (w.drewN d).drewN d' := fun d => by
  rw [← hr]
  exact met_is_any m k i n v st g (w.drewN d) (h.drewN d) hi

theorem met_idle_any (m : Mt) (k i n v : Int) (g : Nat) (w : World) (h : Row w g 55 (chg m k i n v)) (hi : isS i = true) :
    Calls Try.prog 26 #[.pointer (some ⟨g, 0, none⟩)] w fun e w' => e = .returned (.bool (m.idle i)) ∧ ∃ d, w' = w.drewN d := by
  obtain ⟨r, hr⟩ : ∃ r, m.is i 3 = r := ⟨_, rfl⟩
  have HI := Lib.hid (met_is_at m k i n v 3 r g w h hi hr)
  obtain ⟨q0, q1, q2, q3, q4, q5, q6, q7, q8, q9, q10, q11, q12, q13, q14, q15, q16⟩ := chg_at h
  rw [show m.idle i = (i != 0 && i != m.act && !r) by rw [← hr]; rfl]
  obtain ⟨x, hx⟩ : ∃ x, m.act = x := ⟨_, rfl⟩
  rw [hx] at q9 ⊢
  clear h hr hx
  have hi' := isS_is.1 hi
  clear hi
  rcases hi' with rfl | rfl | rfl
  · go_enter Try.func26, Try.ntmps26
    go_wp2
    go_quiet ((go_at_call 29; exact Calls.quiet_of (HI.out _)))
    go_wp2
    go_ret
    exact ⟨rfl, _, rfl⟩
  · by_cases ha : (1 : Int) = x
    · have e1 : ((1 : Int) != x) = false := by simp [ha]
      have e2 : (!((1 : Int) == x)) = false := by simp [ha]
      rw [show ((1 : Int) != 0 && (1 : Int) != x && !r) = false by rw [e1]; simp]
      clear ha
      go_enter Try.func26, Try.ntmps26
      go_wp2
      go_quiet ((go_at_call 29; exact Calls.quiet_of (HI.out _)))
      go_wp2
      go_ret
      exact ⟨rfl, _, rfl⟩
    · have e1 : ((1 : Int) != x) = true := by simp [ha]
      have e2 : (!((1 : Int) == x)) = true := by simp [ha]
      rw [show ((1 : Int) != 0 && (1 : Int) != x && !r) = !r by rw [e1]; simp]
      clear ha
      go_enter Try.func26, Try.ntmps26
      go_wp2
      go_quiet ((go_at_call 29; exact Calls.quiet_of (HI.out _)))
      go_wp2
      go_ret
      exact ⟨rfl, _, rfl⟩
  · by_cases ha : (2 : Int) = x
    · have e1 : ((2 : Int) != x) = false := by simp [ha]
      have e2 : (!((2 : Int) == x)) = false := by simp [ha]
      rw [show ((2 : Int) != 0 && (2 : Int) != x && !r) = false by rw [e1]; simp]
      clear ha
      go_enter Try.func26, Try.ntmps26
      go_wp2
      go_quiet ((go_at_call 29; exact Calls.quiet_of (HI.out _)))
      go_wp2
      go_ret
      exact ⟨rfl, _, rfl⟩
    · have e1 : ((2 : Int) != x) = true := by simp [ha]
      have e2 : (!((2 : Int) == x)) = true := by simp [ha]
      rw [show ((2 : Int) != 0 && (2 : Int) != x && !r) = !r by rw [e1]; simp]
      clear ha
      go_enter Try.func26, Try.ntmps26
      go_wp2
      go_quiet ((go_at_call 29; exact Calls.quiet_of (HI.out _)))
      go_wp2
      go_ret
      exact ⟨rfl, _, rfl⟩

theorem met_boots_any (m : Mt) (k i n v : Int) (g : Nat) (w : World) (h : Row w g 55 (chg m k i n v)) (hi : isS i = true) :
    Calls Try.prog 36 #[.pointer (some ⟨g, 0, none⟩)] w fun e w' => e = .returned (.bool (m.boots i)) ∧ ∃ d, w' = w.drewN d := by
  obtain ⟨r, hr⟩ : ∃ r, m.is i 4 = r := ⟨_, rfl⟩
  have HI := Lib.hid (met_is_any m k i n v 4 g w h hi)
  rw [hr] at HI
  obtain ⟨q0, q1, q2, q3, q4, q5, q6, q7, q8, q9, q10, q11, q12, q13, q14, q15, q16⟩ := chg_at h
  rw [show m.boots i = (i == 0 || r) by rw [← hr]; rfl]
  clear h hr
  have hi' := isS_is.1 hi
  clear hi
  rcases hi' with rfl | rfl | rfl
  · go_enter Try.func36, Try.ntmps36
    go_wp2
    go_ret
    exact ⟨rfl, 0, rfl⟩
  · go_enter Try.func36, Try.ntmps36
    go_wp2_with (go_at_call 29; (with_reducible refine HI.out.mono ?_); rintro e u1 ⟨rfl, d1, rfl⟩)
    go_ret
    exact ⟨rfl, _, rfl⟩
  · go_enter Try.func36, Try.ntmps36
    go_wp2_with (go_at_call 29; (with_reducible refine HI.out.mono ?_); rintro e u1 ⟨rfl, d1, rfl⟩)
    go_ret
    exact ⟨rfl, _, rfl⟩

theorem met_let_any (m : Mt) (k i n v : Int) (x : Sl) (g : Nat) (w : World) (h : Row w g 55 (chg m k i n v)) (hi : isS i = true) :
    Calls Try.prog 28 #[.pointer (some ⟨g, 0, none⟩), .agg (slc x).toArray] w fun e w' => e = .returned (.tuple #[]) ∧ Row w' g 55 (chg (m.put i x) k i n v) ∧ Only g w w' := by
  obtain ⟨u1, hu1⟩ : ∃ u, w.alloc (.cells (slc x).toArray 25) = u := ⟨_, rfl⟩
  have S1 : Hid (Row u1.drew w.heap.size 25 (slc x)) := Lib.hid (by rw [← hu1]; exact (Row.new w _ _).drew)
  have R1 : Row u1.drew g 55 (chg m k i n v) := by rw [← hu1]; exact (h.alloc _).drew
  have O1 : Hid (Only g w u1.drew) := Lib.hid (by rw [← hu1]; exact ((Only.refl g w).alloc _).drew)
  obtain ⟨q0, q1, q2, q3, q4, q5, q6, q7, q8, q9, q10, q11, q12, q13, q14, q15, q16⟩ := chg_at R1
  have HR := Lib.hid R1
  have hi' := isS_is.1 hi
  obtain ⟨X, hX⟩ : ∃ X, slc x = X := ⟨_, rfl⟩
  have HXL : Hid (X.length = 3) := Lib.hid (by rw [← hX]; rfl)
  have HXO : Hid (X.all (·.oneCell') = true) := Lib.hid (by rw [← hX]; rfl)
  have HU := Lib.hid hu1
  have HX := Lib.hid hX
  rw [hX] at S1 HU ⊢
  have HH : Hid (g < w.heap.size) := Lib.hid h.lt
  clear h R1 hu1 hi hX
  rcases hi' with rfl | rfl | rfl
  · have HM : Hid (Row u1.drew g 55 ([] ++ [.int .i64 m.a.s, .int .i64 m.a.v, .int .i64 m.a.b] ++ [.int .i64 m.b.s, .int .i64 m.b.v, .int .i64 m.b.b, .int .i64 m.c.s, .int .i64 m.c.v, .int .i64 m.c.b, .int .i64 m.act, .int .i64 m.flo, .int .i64 m.cur, .int .i64 m.int, .int .i64 k, .int .i64 0, .int .i64 n, .int .i64 v])) := HR
    go_enter Try.func28, Try.ntmps28
    go_wp2
    rw [HU.out]
    refine wp_region_still_tail 11 (by kernel_rfl) (by kernel_rfl) ?_
    simp only [List.take_succ_cons, List.take_zero, List.drop_succ_cons, List.drop_zero]
    repeat (first | still_step | refine S1.out.stillLoad 25 fits_slot HXL.out rfl ?_)
    refine wpStill_nil ?_
    change wpList _ _ _ _ _ u1.drew
    generalize u1.drew = wq at *
    go_wp2_with ((with_reducible refine HM.out.wpStoreMidK 0 rfl 25 X fits_slot rfl HXL.out HXO.out ?_ ?_); rfl; intro w2 r2 o2 s2; have R2 := Lib.hid r2; have O2 := Lib.hid (O1.out.trans o2); clear r2 o2 s2)
    go_end0
    exact ⟨rfl, by have := R2.out; rw [← HX.out] at this; exact this, O2.out⟩
  · have HM : Hid (Row u1.drew g 55 ([.int .i64 m.a.s, .int .i64 m.a.v, .int .i64 m.a.b] ++ [.int .i64 m.b.s, .int .i64 m.b.v, .int .i64 m.b.b] ++ [.int .i64 m.c.s, .int .i64 m.c.v, .int .i64 m.c.b, .int .i64 m.act, .int .i64 m.flo, .int .i64 m.cur, .int .i64 m.int, .int .i64 k, .int .i64 1, .int .i64 n, .int .i64 v])) := HR
    go_enter Try.func28, Try.ntmps28
    go_wp2
    rw [HU.out]
    refine wp_region_still_tail 11 (by kernel_rfl) (by kernel_rfl) ?_
    simp only [List.take_succ_cons, List.take_zero, List.drop_succ_cons, List.drop_zero]
    repeat (first | still_step | refine S1.out.stillLoad 25 fits_slot HXL.out rfl ?_)
    refine wpStill_nil ?_
    change wpList _ _ _ _ _ u1.drew
    generalize u1.drew = wq at *
    go_wp2_with ((with_reducible refine HM.out.wpStoreMidK 3 rfl 25 X fits_slot rfl HXL.out HXO.out ?_ ?_); rfl; intro w2 r2 o2 s2; have R2 := Lib.hid r2; have O2 := Lib.hid (O1.out.trans o2); clear r2 o2 s2)
    go_end0
    exact ⟨rfl, by have := R2.out; rw [← HX.out] at this; exact this, O2.out⟩
  · have HM : Hid (Row u1.drew g 55 ([.int .i64 m.a.s, .int .i64 m.a.v, .int .i64 m.a.b, .int .i64 m.b.s, .int .i64 m.b.v, .int .i64 m.b.b] ++ [.int .i64 m.c.s, .int .i64 m.c.v, .int .i64 m.c.b] ++ [.int .i64 m.act, .int .i64 m.flo, .int .i64 m.cur, .int .i64 m.int, .int .i64 k, .int .i64 2, .int .i64 n, .int .i64 v])) := HR
    go_enter Try.func28, Try.ntmps28
    go_wp2
    rw [HU.out]
    refine wp_region_still_tail 11 (by kernel_rfl) (by kernel_rfl) ?_
    simp only [List.take_succ_cons, List.take_zero, List.drop_succ_cons, List.drop_zero]
    repeat (first | still_step | refine S1.out.stillLoad 25 fits_slot HXL.out rfl ?_)
    refine wpStill_nil ?_
    change wpList _ _ _ _ _ u1.drew
    generalize u1.drew = wq at *
    go_wp2_with ((with_reducible refine HM.out.wpStoreMidK 6 rfl 25 X fits_slot rfl HXL.out HXO.out ?_ ?_); rfl; intro w2 r2 o2 s2; have R2 := Lib.hid r2; have O2 := Lib.hid (O1.out.trans o2); clear r2 o2 s2)
    go_end0
    exact ⟨rfl, by have := R2.out; rw [← HX.out] at this; exact this, O2.out⟩
end Go.Proofs.Ytbpdnaiackfdmaa
