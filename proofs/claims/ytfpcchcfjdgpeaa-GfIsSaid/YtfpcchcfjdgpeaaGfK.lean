/- The statements of gf: their walks. -/
import Derived.Test.YtfpcchcfjdgpeaaGfH
namespace Go.Proofs.Ytfpcchcfjdgpeaa
open Go.RowKit GfMath

set_option maxRecDepth 100000 in
set_option maxHeartbeats 1000000 in
theorem gfPowers_none (m : Int) (w : World) (hm1 : -32768 ≤ m) (hm2 : m < 32768) :
    Calls Try.prog 4 #[.int .u8 0, .int .i64 0, .int .i16 m] w fun e w' => e = .returned (.bool true) ∧ Below w.heap.size w w' := by
  have hek : exI 0 = 1 := rfl
  have hem : exI m = gm (exI m) 1 := (gm_one (exI_lt m)).symm
  obtain ⟨q, hq, lq⟩ := lett _ (exI_lt m)
  rw [hq] at hem
  have HE1 := fun b => E1h (b := b) hek
  have HE3 := fun b => E1h (b := b) hq
  have HM : ∀ b, Hid (∀ u, Fld u b → Calls Try.prog 14 #[.pointer (some ⟨b, 0, none⟩), .slice (some ⟨u.heap.size, 0, none⟩) 2 2] (u.alloc (.cells #[.int .u8 (q : Int), .int .u8 1] 5)) fun e u' => e = .returned (.int .u8 (q : Int)) ∧ Below u.heap.size u u') := fun b => Lib.hid ((M2.mk (b := b) lq (by omega) hem.symm).out)
  have HRE : Hid (∀ u, Calls Try.prog 17 #[.int .i64 0] u fun e w' => e = .returned (.int .i64 1) ∧ u = w') := Lib.hid fun u => rexp_any 0 u (by omega)
  have HE1' : ∀ b, Hid (∀ u, Fld u b → Calls Try.prog 16 #[.pointer (some ⟨b, 0, none⟩), .int .i64 0] u fun e u' => e = .returned (.int .u8 1) ∧ Below u.heap.size u u') := HE1
  have HL : ∀ b, Hid (∀ u : World, Calls Try.prog 18 #[.pointer (some ⟨b, 0, none⟩), .int .u8 0] u fun e w' => e = .returned (.tuple #[.int .i64 0, .bool false]) ∧ u = w') := fun b => Lib.hid fun u => log_zero b u
  have HP0 : ∀ b, Hid (∀ u, Fld u b → Calls Try.prog 19 #[.pointer (some ⟨b, 0, none⟩), .int .u8 0, .int .i64 0] u fun e w' => e = .returned (.int .u8 1) ∧ Below u.heap.size u w') := fun b => Lib.hid fun u hf => pow_any b 0 0 u hf (by omega)
  clear hek hem hq lq HE1
  go_enter Try.func4, Try.ntmps4
  go_wp2_with (first
    | (go_at_call 8; (with_reducible refine (awake_any w).mono ?_); rintro e u1 ⟨rfl, b1⟩; have B1 := Lib.hid b1; clear b1)
    | (go_at_call 9; (with_reducible refine (gfNew_any u1).mono ?_); rintro e u2 ⟨rfl, f2, b2⟩; have F2 := Lib.hid f2; have B2 := Lib.hid (B1.out.next b2); clear f2 b2; generalize u1.heap.size = b at *)
    | (go_at_call 16; (with_reducible refine ((HE1' b).out u2 F2.out).mono ?_); rintro e u3 ⟨rfl, b3⟩; have F3 := Lib.hid (F2.out.step b3); have B3 := Lib.hid (B2.out.next b3); clear b3)
    | (go_at_call 17; (with_reducible refine (HRE.out u3).mono ?_); rintro e u99 ⟨rfl, rfl⟩)
    | (go_at_call 16; (with_reducible refine ((HE3 b).out u3 F3.out).mono ?_); rintro e u4 ⟨rfl, b4⟩; have F4 := Lib.hid (F3.out.step b4); have B4 := Lib.hid (B3.out.next b4); clear b4)
    | (go_at_call 16; (with_reducible refine ((HE3 b).out u4 F4.out).mono ?_); rintro e u5 ⟨rfl, b5⟩; have F5 := Lib.hid (F4.out.step b5); have B5 := Lib.hid (B4.out.next b5); clear b5)
    | (go_at_call 16; (with_reducible refine ((HE1' b).out u5 F5.out).mono ?_); rintro e u6 ⟨rfl, b6⟩; have F6 := Lib.hid (F5.out.step b6); have B6 := Lib.hid (B5.out.next b6); clear b6)
    | (go_at_call 14; (with_reducible refine ((HM b).out u6 F6.out).mono ?_); rintro e u7 ⟨rfl, b7⟩; have F7 := Lib.hid (F6.out.step b7); have B7 := Lib.hid (B6.out.next b7); clear b7)
    | (go_at_call 18; (with_reducible refine ((HL b).out u7).mono ?_); rintro e u99 ⟨rfl, rfl⟩)
    | (go_at_call 19; (with_reducible refine ((HP0 b).out u7 F7.out).mono ?_); rintro e u8 ⟨rfl, b8⟩; have F8 := Lib.hid (F7.out.step b8); have B8 := Lib.hid (B7.out.next b8); clear b8))
  go_ret
  exact ⟨rfl, B8.out⟩

end Go.Proofs.Ytfpcchcfjdgpeaa
