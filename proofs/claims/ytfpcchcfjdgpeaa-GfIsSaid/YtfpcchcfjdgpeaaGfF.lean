/- The statements of gf: their walks. -/
import Derived.Test.YtfpcchcfjdgpeaaGfE
namespace Go.Proofs.Ytfpcchcfjdgpeaa
open Go.RowKit GfMath

theorem gfDivides_zero (x : Nat) (w : World)  :
    Calls Try.prog 7 #[.int .u8 (x : Int), .int .u8 0] w fun e w' => e = .returned (.bool true) ∧ Below w.heap.size w w' := by
  go_enter Try.func7, Try.ntmps7
  go_wp2_with (first
    | (go_at_call 8; (with_reducible refine (awake_any w).mono ?_); rintro e u1 ⟨rfl, b1⟩; have B1 := Lib.hid b1; clear b1)
    | (go_at_call 9; (with_reducible refine (gfNew_any u1).mono ?_); rintro e u2 ⟨rfl, f2, b2⟩; have F2 := Lib.hid f2; have B2 := Lib.hid (B1.out.next b2); clear f2 b2; generalize u1.heap.size = b at *)
    | (go_at_call 11; (with_reducible refine (div_zero b x u2).mono ?_); rintro e u3 ⟨rfl, e3⟩; have B3 : Hid (Below w.heap.size w u3) := Lib.hid (by rw [← e3]; exact B2.out); clear e3))
  go_ret
  exact ⟨rfl, B3.out⟩

set_option maxHeartbeats 1000000 in
theorem gfDivides_none (x y : Nat) (w : World) (hx : x < 256) (hy : y < 256) (h0 : y ≠ 0) (hx0 : x = 0) :
    Calls Try.prog 7 #[.int .u8 (x : Int), .int .u8 (y : Int)] w fun e w' => e = .returned (.bool true) ∧ Below w.heap.size w w' := by
  have hq := gm_lt hx (iv_lt y)
  have e1 : gm (gm x (iv y)) y = x := by rw [gm_assoc hx (iv_lt y) hy, iv_gm hy h0, gm_one hx]
  obtain ⟨q, hqe, hq⟩ := lett _ hq
  rw [hqe] at e1
  have HD : ∀ b, Hid (∀ u, Fld u b → Calls Try.prog 11 #[.pointer (some ⟨b, 0, none⟩), .int .u8 (x : Int), .int .u8 (y : Int)] u fun e w' => e = .returned (.tuple #[.int .u8 (q : Int), .bool true]) ∧ Below u.heap.size u w') := fun b => Lib.hid fun u hf => by rw [← hqe]; exact div_any b x y u hf hx hy h0
  have HM1 := fun b => M2.mk (b := b) hq hy e1
  have HL2 : ∀ b, Hid (∀ u, Fld u b → Calls Try.prog 18 #[.pointer (some ⟨b, 0, none⟩), .int .u8 (y : Int)] u fun e w' => e = .returned (.tuple #[.int .i64 (lg y : Int), .bool true]) ∧ u = w') := fun b => Lib.hid fun u hf => log_any b y u hf hy h0
  have hy0 : ¬ (y : Int) = 0 := by omega
  have hy1 : ((y : Int) == 0) = false := by simp; omega
  obtain ⟨m, hm⟩ : ∃ m, gm x y = m := ⟨_, rfl⟩
  have hml := gm_lt hx hy
  rw [hm] at hml
  have HM2 := fun b => M2.mk (b := b) hx hy hm
  have hl2 := lg_lt y
  have hm0 : m = 0 := by rw [← hm, hx0, gm_zero_left]
  have hxi : (x : Int) = 0 := by omega
  have HL1 : ∀ b, Hid (∀ u : World, Calls Try.prog 18 #[.pointer (some ⟨b, 0, none⟩), .int .u8 (x : Int)] u fun e w' => e = .returned (.tuple #[.int .i64 0, .bool false]) ∧ u = w') := fun b => Lib.hid fun u => by rw [hx0]; exact log_zero b u
  have HL3 : ∀ b, Hid (∀ u : World, Calls Try.prog 18 #[.pointer (some ⟨b, 0, none⟩), .int .u8 (m : Int)] u fun e w' => e = .returned (.tuple #[.int .i64 0, .bool false]) ∧ u = w') := fun b => Lib.hid fun u => by rw [hm0]; exact log_zero b u
  have hx1 : ((x : Int) == 0) = true := by simp; omega
  generalize lg y = ly at *
  clear hxi hm0 hm hml hx0 hqe hq e1 hx hy h0
  go_enter Try.func7, Try.ntmps7
  go_wp2_with (first
    | (go_at_call 8; (with_reducible refine (awake_any w).mono ?_); rintro e u1 ⟨rfl, b1⟩; have B1 := Lib.hid b1; clear b1)
    | (go_at_call 9; (with_reducible refine (gfNew_any u1).mono ?_); rintro e u2 ⟨rfl, f2, b2⟩; have F2 := Lib.hid f2; have B2 := Lib.hid (B1.out.next b2); clear f2 b2; generalize u1.heap.size = b at *)
    | (go_at_call 11; (with_reducible refine ((HD b).out u2 F2.out).mono ?_); rintro e u3 ⟨rfl, b3⟩; have F3 := Lib.hid (F2.out.step b3); have B3 := Lib.hid (B2.out.next b3); clear b3)
    | (go_at_call 14; (with_reducible refine ((HM1 b).out u3 F3.out).mono ?_); rintro e u4 ⟨rfl, b4⟩; have F4 := Lib.hid (F3.out.step b4); have B4 := Lib.hid (B3.out.next b4); clear b4)
    | (go_at_call 18; (with_reducible refine ((HL1 b).out u4).mono ?_); rintro e u9 ⟨rfl, rfl⟩)
    | (go_at_call 18; (with_reducible refine ((HL2 b).out u4 F4.out).mono ?_); rintro e u9 ⟨rfl, rfl⟩)
    | (go_at_call 14; (with_reducible refine ((HM2 b).out u4 F4.out).mono ?_); rintro e u5 ⟨rfl, b5⟩; have F5 := Lib.hid (F4.out.step b5); have B5 := Lib.hid (B4.out.next b5); clear b5)
    | (go_at_call 18; (with_reducible refine ((HL3 b).out u5).mono ?_); rintro e u9 ⟨rfl, rfl⟩))
  go_ret
  exact ⟨rfl, B5.out⟩

set_option maxHeartbeats 1000000 in
theorem gfDivides_some (x y : Nat) (w : World) (hx : x < 256) (hy : y < 256) (h0 : y ≠ 0) (hx0 : x ≠ 0) :
    Calls Try.prog 7 #[.int .u8 (x : Int), .int .u8 (y : Int)] w fun e w' => e = .returned (.bool true) ∧ Below w.heap.size w w' := by
  have hq := gm_lt hx (iv_lt y)
  have e1 : gm (gm x (iv y)) y = x := by rw [gm_assoc hx (iv_lt y) hy, iv_gm hy h0, gm_one hx]
  obtain ⟨q, hqe, hq⟩ := lett _ hq
  rw [hqe] at e1
  have HD : ∀ b, Hid (∀ u, Fld u b → Calls Try.prog 11 #[.pointer (some ⟨b, 0, none⟩), .int .u8 (x : Int), .int .u8 (y : Int)] u fun e w' => e = .returned (.tuple #[.int .u8 (q : Int), .bool true]) ∧ Below u.heap.size u w') := fun b => Lib.hid fun u hf => by rw [← hqe]; exact div_any b x y u hf hx hy h0
  have HM1 := fun b => M2.mk (b := b) hq hy e1
  have HL2 : ∀ b, Hid (∀ u, Fld u b → Calls Try.prog 18 #[.pointer (some ⟨b, 0, none⟩), .int .u8 (y : Int)] u fun e w' => e = .returned (.tuple #[.int .i64 (lg y : Int), .bool true]) ∧ u = w') := fun b => Lib.hid fun u hf => log_any b y u hf hy h0
  have hy0 : ¬ (y : Int) = 0 := by omega
  have hy1 : ((y : Int) == 0) = false := by simp; omega
  obtain ⟨m, hm⟩ : ∃ m, gm x y = m := ⟨_, rfl⟩
  have hml := gm_lt hx hy
  rw [hm] at hml
  have HM2 := fun b => M2.mk (b := b) hx hy hm
  have hl2 := lg_lt y
  have hm0 : m ≠ 0 := by rw [← hm]; exact gm_ne hx hy hx0 h0
  have hlm : lg m = (lg x + lg y) % 255 := by rw [← hm, gm_logs hx hy hx0 h0, lg_ex]
  have HL1 : ∀ b, Hid (∀ u, Fld u b → Calls Try.prog 18 #[.pointer (some ⟨b, 0, none⟩), .int .u8 (x : Int)] u fun e w' => e = .returned (.tuple #[.int .i64 (lg x : Int), .bool true]) ∧ u = w') := fun b => Lib.hid fun u hf => log_any b x u hf hx hx0
  have HL3 : ∀ b, Hid (∀ u, Fld u b → Calls Try.prog 18 #[.pointer (some ⟨b, 0, none⟩), .int .u8 (m : Int)] u fun e w' => e = .returned (.tuple #[.int .i64 (lg m : Int), .bool true]) ∧ u = w') := fun b => Lib.hid fun u hf => log_any b m u hf hml hm0
  have hx1 : ((x : Int) == 0) = false := by simp; omega
  have hxi : ¬ (x : Int) = 0 := by omega
  have hl1 := lg_lt x
  generalize lg y = ly at *
  generalize lg x = lx at *
  generalize lg m = lm at *
  have hlt : ((lx : Int) + ly).tmod 255 = (lm : Int) := by rw [hlm]; show ((lx + ly : Nat) : Int).tmod 255 = _; rfl
  clear hlm hm0 hm hml hx0 hqe hq e1 hx hy h0
  go_enter Try.func7, Try.ntmps7
  go_wp2_with (first
    | (go_at_call 8; (with_reducible refine (awake_any w).mono ?_); rintro e u1 ⟨rfl, b1⟩; have B1 := Lib.hid b1; clear b1)
    | (go_at_call 9; (with_reducible refine (gfNew_any u1).mono ?_); rintro e u2 ⟨rfl, f2, b2⟩; have F2 := Lib.hid f2; have B2 := Lib.hid (B1.out.next b2); clear f2 b2; generalize u1.heap.size = b at *)
    | (go_at_call 11; (with_reducible refine ((HD b).out u2 F2.out).mono ?_); rintro e u3 ⟨rfl, b3⟩; have F3 := Lib.hid (F2.out.step b3); have B3 := Lib.hid (B2.out.next b3); clear b3)
    | (go_at_call 14; (with_reducible refine ((HM1 b).out u3 F3.out).mono ?_); rintro e u4 ⟨rfl, b4⟩; have F4 := Lib.hid (F3.out.step b4); have B4 := Lib.hid (B3.out.next b4); clear b4)
    | (go_at_call 18; (with_reducible refine ((HL1 b).out u4 F4.out).mono ?_); rintro e u9 ⟨rfl, rfl⟩)
    | (go_at_call 18; (with_reducible refine ((HL2 b).out u4 F4.out).mono ?_); rintro e u9 ⟨rfl, rfl⟩)
    | (go_at_call 14; (with_reducible refine ((HM2 b).out u4 F4.out).mono ?_); rintro e u5 ⟨rfl, b5⟩; have F5 := Lib.hid (F4.out.step b5); have B5 := Lib.hid (B4.out.next b5); clear b5)
    | (go_at_call 18; (with_reducible refine ((HL3 b).out u5 F5.out).mono ?_); rintro e u9 ⟨rfl, rfl⟩))
  go_ret
  exact ⟨rfl, B5.out⟩

end Go.Proofs.Ytfpcchcfjdgpeaa
