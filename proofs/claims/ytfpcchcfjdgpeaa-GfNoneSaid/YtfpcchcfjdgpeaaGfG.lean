/- The statements of gf: their walks. -/
import Derived.Test.YtfpcchcfjdgpeaaGfF
namespace Go.Proofs.Ytfpcchcfjdgpeaa
open Go.RowKit GfMath

theorem M3h {b x y z r : Nat} (hx : x < 256) (hy : y < 256) (hz : z < 256) (h : gm (gm x y) z = r) : Hid (∀ u, Fld u b → Calls Try.prog 14 #[.pointer (some ⟨b, 0, none⟩), .slice (some ⟨u.heap.size, 0, none⟩) 3 3] (u.alloc (.cells #[.int .u8 (x : Int), .int .u8 (y : Int), .int .u8 (z : Int)] 5)) fun e u' => e = .returned (.int .u8 (r : Int)) ∧ Below u.heap.size u u') := Lib.hid fun u hf => by rw [← h]; exact mul3 b x y z _ hx hy hz u hf
theorem A3h {b x y z r : Nat} (hx : x < 256) (hy : y < 256) (hz : z < 256) (h : x ^^^ y ^^^ z = r) : Hid (∀ u, Calls Try.prog 15 #[.pointer (some ⟨b, 0, none⟩), .slice (some ⟨u.heap.size, 0, none⟩) 3 3] (u.alloc (.cells #[.int .u8 (x : Int), .int .u8 (y : Int), .int .u8 (z : Int)] 5)) fun e u' => e = .returned (.int .u8 (r : Int)) ∧ Below u.heap.size u u') := Lib.hid fun u => by rw [← h]; exact add3 b x y z _ hx hy hz u
set_option maxHeartbeats 1000000 in
theorem gfMuls_zero (x y z : Nat) (w : World) (hx : x < 256) (hy : y < 256) (hz : z < 256) (h0 : y = 0) :
    Calls Try.prog 3 #[.int .u8 (x : Int), .int .u8 (y : Int), .int .u8 (z : Int)] w fun e w' => e = .returned (.bool true) ∧ Below w.heap.size w w' := by
  have l1 := gm_lt hx hy
  have hx3 : bits .xor .u8 (bits .xor .u8 (x : Int) (y : Int)) (z : Int) = ((x ^^^ y ^^^ z : Nat) : Int) := by rw [u8_xor_nat x y hx hy, u8_xor_nat _ z (xor_lt hx hy) hz]
  obtain ⟨xy, hxy, l1⟩ := lett _ l1
  obtain ⟨r, hr, lr⟩ := lett _ (gm_lt l1 hz)
  obtain ⟨s, hs⟩ : ∃ s, x ^^^ y ^^^ z = s := ⟨_, rfl⟩
  rw [hs] at hx3
  have HM1 := fun b => M2.mk (b := b) hx hy hxy
  have HM2 := fun b => M3h (b := b) hx hy hz (by rw [hxy, hr])
  have HA := fun b => A3h (b := b) hx hy hz hs
  have HR1 : Hid (∀ u, Calls Try.prog 13 #[.int .i64 (x : Int), .int .i64 (y : Int)] u fun e w' => e = .returned (.int .i64 (xy : Int)) ∧ u = w') := Lib.hid fun u => by rw [← hxy]; exact rmul_any x y u hx
  have HR2 : Hid (∀ u, Calls Try.prog 13 #[.int .i64 (xy : Int), .int .i64 (z : Int)] u fun e w' => e = .returned (.int .i64 (r : Int)) ∧ u = w') := Lib.hid fun u => by rw [← hr]; exact rmul_any xy z u l1
  have HI : Hid (∀ u, Calls Try.prog 10 #[.int .i64 (y : Int)] u fun e w' => e = .returned (.int .i64 0) ∧ u = w') := Lib.hid fun u => by
    have h := rinv_any y u hy
    rw [iv, if_pos h0] at h
    exact h
  have HDV : ∀ b, Hid (∀ u, Calls Try.prog 11 #[.pointer (some ⟨b, 0, none⟩), .int .u8 (x : Int), .int .u8 (y : Int)] u fun e w' => e = .returned (.tuple #[.int .u8 0, .bool false]) ∧ u = w') := fun b => Lib.hid fun u => by rw [h0]; exact div_zero b x u
  have HIV : ∀ b, Hid (∀ u, Calls Try.prog 12 #[.pointer (some ⟨b, 0, none⟩), .int .u8 (y : Int)] u fun e w' => e = .returned (.tuple #[.int .u8 0, .bool false]) ∧ u = w') := fun b => Lib.hid fun u => by rw [h0]; exact inv_zero b u
  have HR3 : Hid (∀ u, Calls Try.prog 13 #[.int .i64 (x : Int), .int .i64 0] u fun e w' => e = .returned (.int .i64 0) ∧ u = w') := Lib.hid fun u => by
    have h := rmul_any x 0 u hx
    rw [gm_zero_right] at h
    exact h
  have hx1 : ((y : Int) == 0) = true := by simp; omega
  have hx2 : ((y : Int) != 0) = false := by simp; omega
  have hx4 : decide (y = 0) = true := by simp; omega
  clear hxy hr hs h0
  go_enter Try.func3, Try.ntmps3
  go_wp2_with (first
    | (go_at_call 8; (with_reducible refine (awake_any w).mono ?_); rintro e u1 ⟨rfl, b1⟩; have B1 := Lib.hid b1; clear b1)
    | (go_at_call 9; (with_reducible refine (gfNew_any u1).mono ?_); rintro e u2 ⟨rfl, f2, b2⟩; have F2 := Lib.hid f2; have B2 := Lib.hid (B1.out.next b2); clear f2 b2; generalize u1.heap.size = b at *)
    | (go_at_call 10; (with_reducible refine (HI.out u2).mono ?_); rintro e u99 ⟨rfl, rfl⟩)
    | (go_at_call 11; (with_reducible refine ((HDV b).out u2).mono ?_); rintro e u99 ⟨rfl, rfl⟩)
    | (go_at_call 12; (with_reducible refine ((HIV b).out u2).mono ?_); rintro e u99 ⟨rfl, rfl⟩)
    | (go_at_call 13; (with_reducible refine (HR1.out u2).mono ?_); rintro e u99 ⟨rfl, rfl⟩)
    | (go_at_call 14; (with_reducible refine ((HM1 b).out u2 F2.out).mono ?_); rintro e u3 ⟨rfl, b3⟩; have F3 := Lib.hid (F2.out.step b3); have B3 := Lib.hid (B2.out.next b3); clear b3)
    | (go_at_call 14; (with_reducible refine ((HM2 b).out u3 F3.out).mono ?_); rintro e u4 ⟨rfl, b4⟩; have F4 := Lib.hid (F3.out.step b4); have B4 := Lib.hid (B3.out.next b4); clear b4)
    | (go_at_call 13; (with_reducible refine (HR2.out u4).mono ?_); rintro e u99 ⟨rfl, rfl⟩)
    | (go_at_call 15; (with_reducible refine ((HA b).out u4).mono ?_); rintro e u5 ⟨rfl, b5⟩; have F5 := Lib.hid (F4.out.step b5); have B5 := Lib.hid (B4.out.next b5); clear b5)
    | (go_at_call 13; (with_reducible refine (HR3.out u5).mono ?_); rintro e u99 ⟨rfl, rfl⟩))
  go_ret
  exact ⟨rfl, B5.out⟩

set_option maxHeartbeats 1000000 in
theorem gfMuls_some (x y z : Nat) (w : World) (hx : x < 256) (hy : y < 256) (hz : z < 256) (h0 : y ≠ 0) :
    Calls Try.prog 3 #[.int .u8 (x : Int), .int .u8 (y : Int), .int .u8 (z : Int)] w fun e w' => e = .returned (.bool true) ∧ Below w.heap.size w w' := by
  have l1 := gm_lt hx hy
  have hx3 : bits .xor .u8 (bits .xor .u8 (x : Int) (y : Int)) (z : Int) = ((x ^^^ y ^^^ z : Nat) : Int) := by rw [u8_xor_nat x y hx hy, u8_xor_nat _ z (xor_lt hx hy) hz]
  obtain ⟨xy, hxy, l1⟩ := lett _ l1
  obtain ⟨r, hr, lr⟩ := lett _ (gm_lt l1 hz)
  obtain ⟨s, hs⟩ : ∃ s, x ^^^ y ^^^ z = s := ⟨_, rfl⟩
  rw [hs] at hx3
  have HM1 := fun b => M2.mk (b := b) hx hy hxy
  have HM2 := fun b => M3h (b := b) hx hy hz (by rw [hxy, hr])
  have HA := fun b => A3h (b := b) hx hy hz hs
  have HR1 : Hid (∀ u, Calls Try.prog 13 #[.int .i64 (x : Int), .int .i64 (y : Int)] u fun e w' => e = .returned (.int .i64 (xy : Int)) ∧ u = w') := Lib.hid fun u => by rw [← hxy]; exact rmul_any x y u hx
  have HR2 : Hid (∀ u, Calls Try.prog 13 #[.int .i64 (xy : Int), .int .i64 (z : Int)] u fun e w' => e = .returned (.int .i64 (r : Int)) ∧ u = w') := Lib.hid fun u => by rw [← hr]; exact rmul_any xy z u l1
  obtain ⟨v, hv, lv⟩ := lett _ (iv_lt y)
  obtain ⟨q, hq, lq⟩ := lett _ (gm_lt hx lv)
  have HI : Hid (∀ u, Calls Try.prog 10 #[.int .i64 (y : Int)] u fun e w' => e = .returned (.int .i64 (v : Int)) ∧ u = w') := Lib.hid fun u => by rw [← hv]; exact rinv_any y u hy
  have HDV : ∀ b, Hid (∀ u, Fld u b → Calls Try.prog 11 #[.pointer (some ⟨b, 0, none⟩), .int .u8 (x : Int), .int .u8 (y : Int)] u fun e w' => e = .returned (.tuple #[.int .u8 (q : Int), .bool true]) ∧ Below u.heap.size u w') := fun b => Lib.hid fun u hf => by rw [← hq, ← hv]; exact div_any b x y u hf hx hy h0
  have HIV : ∀ b, Hid (∀ u, Fld u b → Calls Try.prog 12 #[.pointer (some ⟨b, 0, none⟩), .int .u8 (y : Int)] u fun e w' => e = .returned (.tuple #[.int .u8 (v : Int), .bool true]) ∧ Below u.heap.size u w') := fun b => Lib.hid fun u hf => by rw [← hv]; exact inv_any b y u hf hy h0
  have HR3 : Hid (∀ u, Calls Try.prog 13 #[.int .i64 (x : Int), .int .i64 (v : Int)] u fun e w' => e = .returned (.int .i64 (q : Int)) ∧ u = w') := Lib.hid fun u => by rw [← hq]; exact rmul_any x v u hx
  have hx1 : ((y : Int) == 0) = false := by simp; omega
  have hx2 : ((y : Int) != 0) = true := by simp; omega
  have hx0 : ¬ (y : Int) = 0 := by omega
  clear hv hq
  clear hxy hr hs h0
  go_enter Try.func3, Try.ntmps3
  go_wp2_with (first
    | (go_at_call 8; (with_reducible refine (awake_any w).mono ?_); rintro e u1 ⟨rfl, b1⟩; have B1 := Lib.hid b1; clear b1)
    | (go_at_call 9; (with_reducible refine (gfNew_any u1).mono ?_); rintro e u2 ⟨rfl, f2, b2⟩; have F2 := Lib.hid f2; have B2 := Lib.hid (B1.out.next b2); clear f2 b2; generalize u1.heap.size = b at *)
    | (go_at_call 10; (with_reducible refine (HI.out u2).mono ?_); rintro e u99 ⟨rfl, rfl⟩)
    | (go_at_call 11; (with_reducible refine ((HDV b).out u2 F2.out).mono ?_); rintro e u3 ⟨rfl, b3⟩; have F3 := Lib.hid (F2.out.step b3); have B3 := Lib.hid (B2.out.next b3); clear b3)
    | (go_at_call 12; (with_reducible refine ((HIV b).out u3 F3.out).mono ?_); rintro e u4 ⟨rfl, b4⟩; have F4 := Lib.hid (F3.out.step b4); have B4 := Lib.hid (B3.out.next b4); clear b4)
    | (go_at_call 13; (with_reducible refine (HR1.out u4).mono ?_); rintro e u99 ⟨rfl, rfl⟩)
    | (go_at_call 14; (with_reducible refine ((HM1 b).out u4 F4.out).mono ?_); rintro e u5 ⟨rfl, b5⟩; have F5 := Lib.hid (F4.out.step b5); have B5 := Lib.hid (B4.out.next b5); clear b5)
    | (go_at_call 14; (with_reducible refine ((HM2 b).out u5 F5.out).mono ?_); rintro e u6 ⟨rfl, b6⟩; have F6 := Lib.hid (F5.out.step b6); have B6 := Lib.hid (B5.out.next b6); clear b6)
    | (go_at_call 13; (with_reducible refine (HR2.out u6).mono ?_); rintro e u99 ⟨rfl, rfl⟩)
    | (go_at_call 15; (with_reducible refine ((HA b).out u6).mono ?_); rintro e u7 ⟨rfl, b7⟩; have F7 := Lib.hid (F6.out.step b7); have B7 := Lib.hid (B6.out.next b7); clear b7)
    | (go_at_call 13; (with_reducible refine (HR3.out u7).mono ?_); rintro e u99 ⟨rfl, rfl⟩))
  go_ret
  exact ⟨rfl, B7.out⟩

end Go.Proofs.Ytfpcchcfjdgpeaa
