/- The statements of gf: their walks. -/
import Derived.Test.YtfpcchcfjdgpeaaGfD
namespace Go.Proofs.Ytfpcchcfjdgpeaa
open Go.RowKit GfMath

theorem M2.mk {b x y r : Nat} (hx : x < 256) (hy : y < 256) (h : gm x y = r) : Hid (∀ u, Fld u b → Calls Try.prog 14 #[.pointer (some ⟨b, 0, none⟩), .slice (some ⟨u.heap.size, 0, none⟩) 2 2] (u.alloc (.cells #[.int .u8 (x : Int), .int .u8 (y : Int)] 5)) fun e u' => e = .returned (.int .u8 (r : Int)) ∧ Below u.heap.size u u') := Lib.hid fun u hf => by rw [← h]; exact mul2 b x y _ hx hy u hf
theorem M3.mk {b x y z r : Nat} (hx : x < 256) (hy : y < 256) (hz : z < 256) (h : gm (gm x y) z = r) : Hid (∀ u, Fld u b → Calls Try.prog 14 #[.pointer (some ⟨b, 0, none⟩), .slice (some ⟨u.heap.size, 0, none⟩) 3 3] (u.alloc (.cells #[.int .u8 (x : Int), .int .u8 (y : Int), .int .u8 (z : Int)] 5)) fun e u' => e = .returned (.int .u8 (r : Int)) ∧ Below u.heap.size u u') := Lib.hid fun u hf => by rw [← h]; exact mul3 b x y z _ hx hy hz u hf
theorem A2.mk {b x y r : Nat} (hx : x < 256) (hy : y < 256) (h : x ^^^ y = r) : Hid (∀ u, Calls Try.prog 15 #[.pointer (some ⟨b, 0, none⟩), .slice (some ⟨u.heap.size, 0, none⟩) 2 2] (u.alloc (.cells #[.int .u8 (x : Int), .int .u8 (y : Int)] 5)) fun e u' => e = .returned (.int .u8 (r : Int)) ∧ Below u.heap.size u u') := Lib.hid fun u => by rw [← h]; exact add2 b x y _ hx hy u
/-- A number of the program's own under a letter. -/
theorem lett (n : Nat) (h : n < 256) : ∃ x : Nat, n = x ∧ x < 256 := ⟨n, rfl, h⟩

set_option maxHeartbeats 1000000 in
theorem gfNone_walk (x y n : Int) (w : World)  :
    Calls Try.prog 6 #[.int .u8 x, .int .u8 y, .int .i64 n] w fun e w' => e = .returned (.bool true) ∧ Below w.heap.size w w' := by
  go_enter Try.func6, Try.ntmps6
  go_wp2_with (first
    | (go_at_call 8; (with_reducible refine (awake_any w).mono ?_); rintro e u1 ⟨rfl, b1⟩; have B1 := Lib.hid b1; clear b1)
    | (go_at_call 11; (with_reducible refine (nil_div _ _ u1).mono ?_); rintro e u2 ⟨rfl, rfl⟩)
    | (go_at_call 12; (with_reducible refine (nil_inv _ u1).mono ?_); rintro e u2 ⟨rfl, rfl⟩)
    | (go_at_call 18; (with_reducible refine (nil_log _ u1).mono ?_); rintro e u2 ⟨rfl, rfl⟩)
    | (go_at_call 15; refine (nil_add _ _).mono ?_; rintro e u2 ⟨rfl, rfl⟩)
    | (go_at_call 14; refine (nil_mul _ _).mono ?_; rintro e u2 ⟨rfl, rfl⟩)
    | (go_at_call 16; refine (nil_exp _ _).mono ?_; rintro e u2 ⟨rfl, rfl⟩)
    | (go_at_call 19; refine (nil_pow _ _ _).mono ?_; rintro e u2 ⟨rfl, rfl⟩))
  go_ret
  exact ⟨rfl, (B1.out.next (alloc_below _ _)).next (alloc_below _ _)⟩

set_option maxHeartbeats 1000000 in
theorem gfIs_zero (x y z : Nat) (w : World) (hx : x < 256) (hy : y < 256) (hz : z < 256) (h0 : x = 0) :
    Calls Try.prog 5 #[.int .u8 (x : Int), .int .u8 (y : Int), .int .u8 (z : Int)] w fun e w' => e = .returned (.bool true) ∧ Below w.heap.size w w' := by
  have HI : ∀ b, Hid (∀ u, Calls Try.prog 12 #[.pointer (some ⟨b, 0, none⟩), .int .u8 (x : Int)] u fun e w' => e = .returned (.tuple #[.int .u8 0, .bool false]) ∧ Below u.heap.size u w') := fun b => Lib.hid fun u => by
    have h := (inv_zero b u).mono (R' := fun e w' => e = .returned (.tuple #[.int .u8 0, .bool false]) ∧ Below u.heap.size u w') fun _ _ h => ⟨h.1, by rw [← h.2]; exact Below.refl _ _⟩
    rw [h0]
    exact h
  have e1 := gm_assoc hx hy hz
  have e2 := gm_comm hx hy
  have e3 := gm_add_right x y z
  have e4 := gm_one hx
  have e5 := Nat.xor_self x
  have l1 := gm_lt hy hz
  have l2 := gm_lt hx hy
  have l3 := gm_lt hx hz
  have l4 := xor_lt hy hz
  obtain ⟨yz, hyz, l1⟩ := lett _ l1
  obtain ⟨xy, hxy, l2⟩ := lett _ l2
  obtain ⟨xz, hxz, l3⟩ := lett _ l3
  obtain ⟨s, hs, l4⟩ := lett _ l4
  obtain ⟨r, hr⟩ : ∃ r, gm x yz = r := ⟨_, rfl⟩
  obtain ⟨t, ht⟩ : ∃ t, gm x s = t := ⟨_, rfl⟩
  rw [hxy, hyz, hr] at e1
  rw [hxy] at e2
  rw [hs, ht, hxy, hxz] at e3
  have hx1 : ((x : Int) == 0) = true := by simp; omega
  have hx2 : ((x : Int) != 0) = false := by simp; omega
  have hx3 : (!((x : Int) == 0)) = false := by simp; omega
  have hx4 : decide (x = 0) = true := by simp; omega
  have HM1 := fun b => M2.mk (b := b) hy hz hyz
  have HM2 := fun b => M2.mk (b := b) hx l1 hr
  have HM3 := fun b => M2.mk (b := b) hx hy hxy
  have HM4 := fun b => M2.mk (b := b) l2 hz e1
  have HM5 := fun b => M2.mk (b := b) hy hx e2.symm
  have HA1 := fun b => A2.mk (b := b) hy hz hs
  have HM6 := fun b => M2.mk (b := b) hx l4 ht
  have HM7 := fun b => M2.mk (b := b) hx hz hxz
  have HA2 := fun b => A2.mk (b := b) l2 l3 e3.symm
  have HM8 : ∀ b, Hid (∀ u, Fld u b → Calls Try.prog 14 #[.pointer (some ⟨b, 0, none⟩), .slice (some ⟨u.heap.size, 0, none⟩) 2 2] (u.alloc (.cells #[.int .u8 (x : Int), .int .u8 1] 5)) fun e u' => e = .returned (.int .u8 (x : Int)) ∧ Below u.heap.size u u') := fun b => Lib.hid ((M2.mk (b := b) hx (by omega) e4).out)
  have HA3 : ∀ b, Hid (∀ u, Calls Try.prog 15 #[.pointer (some ⟨b, 0, none⟩), .slice (some ⟨u.heap.size, 0, none⟩) 2 2] (u.alloc (.cells #[.int .u8 (x : Int), .int .u8 (x : Int)] 5)) fun e u' => e = .returned (.int .u8 0) ∧ Below u.heap.size u u') := fun b => Lib.hid ((A2.mk (b := b) hx hx e5).out)
  clear hx hy h0 hz e1 e2 e3 e4 e5 hyz hxy hxz hs hr ht l1 l2 l3 l4
  go_enter Try.func5, Try.ntmps5
  go_wp2_with (first
    | (go_at_call 8; (with_reducible refine (awake_any w).mono ?_); rintro e u1 ⟨rfl, b1⟩; have B1 := Lib.hid b1; clear b1)
    | (go_at_call 9; (with_reducible refine (gfNew_any u1).mono ?_); rintro e u2 ⟨rfl, f2, b2⟩; have F2 := Lib.hid f2; have B2 := Lib.hid (B1.out.next b2); clear f2 b2; generalize u1.heap.size = b at *)
    | (go_at_call 12; (with_reducible refine ((HI b).out u2).mono ?_); rintro e u3 ⟨rfl, b3⟩; have F3 := Lib.hid (F2.out.step b3); have B3 := Lib.hid (B2.out.next b3); clear b3)
    | (go_at_call 14; (with_reducible refine ((HM1 b).out u3 F3.out).mono ?_); rintro e u4 ⟨rfl, b4⟩; have F4 := Lib.hid (F3.out.step b4); have B4 := Lib.hid (B3.out.next b4); clear b4)
    | (go_at_call 14; (with_reducible refine ((HM2 b).out u4 F4.out).mono ?_); rintro e u5 ⟨rfl, b5⟩; have F5 := Lib.hid (F4.out.step b5); have B5 := Lib.hid (B4.out.next b5); clear b5)
    | (go_at_call 14; (with_reducible refine ((HM3 b).out u5 F5.out).mono ?_); rintro e u6 ⟨rfl, b6⟩; have F6 := Lib.hid (F5.out.step b6); have B6 := Lib.hid (B5.out.next b6); clear b6)
    | (go_at_call 14; (with_reducible refine ((HM4 b).out u6 F6.out).mono ?_); rintro e u7 ⟨rfl, b7⟩; have F7 := Lib.hid (F6.out.step b7); have B7 := Lib.hid (B6.out.next b7); clear b7)
    | (go_at_call 14; (with_reducible refine ((HM3 b).out u7 F7.out).mono ?_); rintro e u8 ⟨rfl, b8⟩; have F8 := Lib.hid (F7.out.step b8); have B8 := Lib.hid (B7.out.next b8); clear b8)
    | (go_at_call 14; (with_reducible refine ((HM5 b).out u8 F8.out).mono ?_); rintro e u9 ⟨rfl, b9⟩; have F9 := Lib.hid (F8.out.step b9); have B9 := Lib.hid (B8.out.next b9); clear b9)
    | (go_at_call 15; (with_reducible refine ((HA1 b).out u9).mono ?_); rintro e u10 ⟨rfl, b10⟩; have F10 := Lib.hid (F9.out.step b10); have B10 := Lib.hid (B9.out.next b10); clear b10)
    | (go_at_call 14; (with_reducible refine ((HM6 b).out u10 F10.out).mono ?_); rintro e u11 ⟨rfl, b11⟩; have F11 := Lib.hid (F10.out.step b11); have B11 := Lib.hid (B10.out.next b11); clear b11)
    | (go_at_call 14; (with_reducible refine ((HM3 b).out u11 F11.out).mono ?_); rintro e u12 ⟨rfl, b12⟩; have F12 := Lib.hid (F11.out.step b12); have B12 := Lib.hid (B11.out.next b12); clear b12)
    | (go_at_call 14; (with_reducible refine ((HM7 b).out u12 F12.out).mono ?_); rintro e u13 ⟨rfl, b13⟩; have F13 := Lib.hid (F12.out.step b13); have B13 := Lib.hid (B12.out.next b13); clear b13)
    | (go_at_call 15; (with_reducible refine ((HA2 b).out u13).mono ?_); rintro e u14 ⟨rfl, b14⟩; have F14 := Lib.hid (F13.out.step b14); have B14 := Lib.hid (B13.out.next b14); clear b14)
    | (go_at_call 14; (with_reducible refine ((HM8 b).out u14 F14.out).mono ?_); rintro e u15 ⟨rfl, b15⟩; have F15 := Lib.hid (F14.out.step b15); have B15 := Lib.hid (B14.out.next b15); clear b15)
    | (go_at_call 15; (with_reducible refine ((HA3 b).out u15).mono ?_); rintro e u16 ⟨rfl, b16⟩; have F16 := Lib.hid (F15.out.step b16); have B16 := Lib.hid (B15.out.next b16); clear b16))
  go_ret
  exact ⟨rfl, B16.out⟩

set_option maxHeartbeats 1000000 in
theorem gfIs_some (x y z : Nat) (w : World) (hx : x < 256) (hy : y < 256) (hz : z < 256) (h0 : x ≠ 0) :
    Calls Try.prog 5 #[.int .u8 (x : Int), .int .u8 (y : Int), .int .u8 (z : Int)] w fun e w' => e = .returned (.bool true) ∧ Below w.heap.size w w' := by
  have e1 := gm_assoc hx hy hz
  have e2 := gm_comm hx hy
  have e3 := gm_add_right x y z
  have e4 := gm_one hx
  have e5 := Nat.xor_self x
  have l1 := gm_lt hy hz
  have l2 := gm_lt hx hy
  have l3 := gm_lt hx hz
  have l4 := xor_lt hy hz
  obtain ⟨yz, hyz, l1⟩ := lett _ l1
  obtain ⟨xy, hxy, l2⟩ := lett _ l2
  obtain ⟨xz, hxz, l3⟩ := lett _ l3
  obtain ⟨s, hs, l4⟩ := lett _ l4
  obtain ⟨r, hr⟩ : ∃ r, gm x yz = r := ⟨_, rfl⟩
  obtain ⟨t, ht⟩ : ∃ t, gm x s = t := ⟨_, rfl⟩
  rw [hxy, hyz, hr] at e1
  rw [hxy] at e2
  rw [hs, ht, hxy, hxz] at e3
  have HM1 := fun b => M2.mk (b := b) hy hz hyz
  have HM2 := fun b => M2.mk (b := b) hx l1 hr
  have HM3 := fun b => M2.mk (b := b) hx hy hxy
  have HM4 := fun b => M2.mk (b := b) l2 hz e1
  have HM5 := fun b => M2.mk (b := b) hy hx e2.symm
  have HA1 := fun b => A2.mk (b := b) hy hz hs
  have HM6 := fun b => M2.mk (b := b) hx l4 ht
  have HM7 := fun b => M2.mk (b := b) hx hz hxz
  have HA2 := fun b => A2.mk (b := b) l2 l3 e3.symm
  have HM8 : ∀ b, Hid (∀ u, Fld u b → Calls Try.prog 14 #[.pointer (some ⟨b, 0, none⟩), .slice (some ⟨u.heap.size, 0, none⟩) 2 2] (u.alloc (.cells #[.int .u8 (x : Int), .int .u8 1] 5)) fun e u' => e = .returned (.int .u8 (x : Int)) ∧ Below u.heap.size u u') := fun b => Lib.hid ((M2.mk (b := b) hx (by omega) e4).out)
  have HA3 : ∀ b, Hid (∀ u, Calls Try.prog 15 #[.pointer (some ⟨b, 0, none⟩), .slice (some ⟨u.heap.size, 0, none⟩) 2 2] (u.alloc (.cells #[.int .u8 (x : Int), .int .u8 (x : Int)] 5)) fun e u' => e = .returned (.int .u8 0) ∧ Below u.heap.size u u') := fun b => Lib.hid ((A2.mk (b := b) hx hx e5).out)
  have e6 := gm_iv hx h0
  obtain ⟨i, hi, l5⟩ := lett _ (iv_lt x)
  have HI : ∀ b, Hid (∀ u, Fld u b → Calls Try.prog 12 #[.pointer (some ⟨b, 0, none⟩), .int .u8 (x : Int)] u fun e w' => e = .returned (.tuple #[.int .u8 (i : Int), .bool true]) ∧ Below u.heap.size u w') := fun b => Lib.hid fun u hf => by rw [← hi]; exact inv_any b x u hf hx h0
  rw [hi] at e6
  have HM9 : ∀ b, Hid (∀ u, Fld u b → Calls Try.prog 14 #[.pointer (some ⟨b, 0, none⟩), .slice (some ⟨u.heap.size, 0, none⟩) 2 2] (u.alloc (.cells #[.int .u8 (x : Int), .int .u8 (i : Int)] 5)) fun e u' => e = .returned (.int .u8 1) ∧ Below u.heap.size u u') := fun b => Lib.hid ((M2.mk (b := b) hx l5 e6).out)
  have hx0 : ¬ (x : Int) = 0 := by omega
  have hx1 : ((x : Int) == 0) = false := by simp; omega
  have hx2 : ((x : Int) != 0) = true := by simp; omega
  clear hi l5 e6 h0
  clear hx hy hz e1 e2 e3 e4 e5 hyz hxy hxz hs hr ht l1 l2 l3 l4
  go_enter Try.func5, Try.ntmps5
  go_wp2_with (first
    | (go_at_call 8; (with_reducible refine (awake_any w).mono ?_); rintro e u1 ⟨rfl, b1⟩; have B1 := Lib.hid b1; clear b1)
    | (go_at_call 9; (with_reducible refine (gfNew_any u1).mono ?_); rintro e u2 ⟨rfl, f2, b2⟩; have F2 := Lib.hid f2; have B2 := Lib.hid (B1.out.next b2); clear f2 b2; generalize u1.heap.size = b at *)
    | (go_at_call 12; (with_reducible refine ((HI b).out u2 F2.out).mono ?_); rintro e u3 ⟨rfl, b3⟩; have F3 := Lib.hid (F2.out.step b3); have B3 := Lib.hid (B2.out.next b3); clear b3)
    | (go_at_call 14; (with_reducible refine ((HM1 b).out u3 F3.out).mono ?_); rintro e u4 ⟨rfl, b4⟩; have F4 := Lib.hid (F3.out.step b4); have B4 := Lib.hid (B3.out.next b4); clear b4)
    | (go_at_call 14; (with_reducible refine ((HM2 b).out u4 F4.out).mono ?_); rintro e u5 ⟨rfl, b5⟩; have F5 := Lib.hid (F4.out.step b5); have B5 := Lib.hid (B4.out.next b5); clear b5)
    | (go_at_call 14; (with_reducible refine ((HM3 b).out u5 F5.out).mono ?_); rintro e u6 ⟨rfl, b6⟩; have F6 := Lib.hid (F5.out.step b6); have B6 := Lib.hid (B5.out.next b6); clear b6)
    | (go_at_call 14; (with_reducible refine ((HM4 b).out u6 F6.out).mono ?_); rintro e u7 ⟨rfl, b7⟩; have F7 := Lib.hid (F6.out.step b7); have B7 := Lib.hid (B6.out.next b7); clear b7)
    | (go_at_call 14; (with_reducible refine ((HM3 b).out u7 F7.out).mono ?_); rintro e u8 ⟨rfl, b8⟩; have F8 := Lib.hid (F7.out.step b8); have B8 := Lib.hid (B7.out.next b8); clear b8)
    | (go_at_call 14; (with_reducible refine ((HM5 b).out u8 F8.out).mono ?_); rintro e u9 ⟨rfl, b9⟩; have F9 := Lib.hid (F8.out.step b9); have B9 := Lib.hid (B8.out.next b9); clear b9)
    | (go_at_call 15; (with_reducible refine ((HA1 b).out u9).mono ?_); rintro e u10 ⟨rfl, b10⟩; have F10 := Lib.hid (F9.out.step b10); have B10 := Lib.hid (B9.out.next b10); clear b10)
    | (go_at_call 14; (with_reducible refine ((HM6 b).out u10 F10.out).mono ?_); rintro e u11 ⟨rfl, b11⟩; have F11 := Lib.hid (F10.out.step b11); have B11 := Lib.hid (B10.out.next b11); clear b11)
    | (go_at_call 14; (with_reducible refine ((HM3 b).out u11 F11.out).mono ?_); rintro e u12 ⟨rfl, b12⟩; have F12 := Lib.hid (F11.out.step b12); have B12 := Lib.hid (B11.out.next b12); clear b12)
    | (go_at_call 14; (with_reducible refine ((HM7 b).out u12 F12.out).mono ?_); rintro e u13 ⟨rfl, b13⟩; have F13 := Lib.hid (F12.out.step b13); have B13 := Lib.hid (B12.out.next b13); clear b13)
    | (go_at_call 15; (with_reducible refine ((HA2 b).out u13).mono ?_); rintro e u14 ⟨rfl, b14⟩; have F14 := Lib.hid (F13.out.step b14); have B14 := Lib.hid (B13.out.next b14); clear b14)
    | (go_at_call 14; (with_reducible refine ((HM8 b).out u14 F14.out).mono ?_); rintro e u15 ⟨rfl, b15⟩; have F15 := Lib.hid (F14.out.step b15); have B15 := Lib.hid (B14.out.next b15); clear b15)
    | (go_at_call 15; (with_reducible refine ((HA3 b).out u15).mono ?_); rintro e u16 ⟨rfl, b16⟩; have F16 := Lib.hid (F15.out.step b16); have B16 := Lib.hid (B15.out.next b16); clear b16)
    | (go_at_call 14; (with_reducible refine ((HM9 b).out u16 F16.out).mono ?_); rintro e u17 ⟨rfl, b17⟩; have F17 := Lib.hid (F16.out.step b17); have B17 := Lib.hid (B16.out.next b17); clear b17))
  go_ret
  exact ⟨rfl, B17.out⟩

end Go.Proofs.Ytfpcchcfjdgpeaa
