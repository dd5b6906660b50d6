/- The document's example, and the statements GfNone, GfIs, GfDivides: their walks. -/
import Derived.Test.YtfpcchcfjdgpeaaGfC
namespace Go.Proofs.Ytfpcchcfjdgpeaa
open Go.RowKit GfMath

theorem mul2 (b x y : Nat) (t : TypeId) (hx : x < 256) (hy : y < 256) (u : World) (hf : Fld u b) :
    Calls Try.prog 14 #[.pointer (some ⟨b, 0, none⟩), .slice (some ⟨u.heap.size, 0, none⟩) 2 2] (u.alloc (.cells #[.int .u8 (x : Int), .int .u8 (y : Int)] t)) fun e u' => e = .returned (.int .u8 (gm x y : Int)) ∧ Below u.heap.size u u' :=
  (mul_two b _ 2 x y _ (hf.step (alloc_below _ _)) hx hy (laid_two x y u t)).mono fun _ _ h => ⟨h.1, (alloc_below _ _).next h.2⟩
theorem mul3 (b x y z : Nat) (t : TypeId) (hx : x < 256) (hy : y < 256) (hz : z < 256) (u : World) (hf : Fld u b) :
    Calls Try.prog 14 #[.pointer (some ⟨b, 0, none⟩), .slice (some ⟨u.heap.size, 0, none⟩) 3 3] (u.alloc (.cells #[.int .u8 (x : Int), .int .u8 (y : Int), .int .u8 (z : Int)] t)) fun e u' => e = .returned (.int .u8 (gm (gm x y) z : Int)) ∧ Below u.heap.size u u' :=
  (mul_three b _ 3 x y z _ (hf.step (alloc_below _ _)) hx hy hz (laid_three x y z u t)).mono fun _ _ h => ⟨h.1, (alloc_below _ _).next h.2⟩
theorem add2 (b x y : Nat) (t : TypeId) (hx : x < 256) (hy : y < 256) (u : World) :
    Calls Try.prog 15 #[.pointer (some ⟨b, 0, none⟩), .slice (some ⟨u.heap.size, 0, none⟩) 2 2] (u.alloc (.cells #[.int .u8 (x : Int), .int .u8 (y : Int)] t)) fun e u' => e = .returned (.int .u8 ((x ^^^ y : Nat) : Int)) ∧ Below u.heap.size u u' :=
  (add_two b _ 2 x y _ hx hy (laid_two x y u t)).mono fun _ u' h => ⟨h.1, by rw [← h.2]; exact alloc_below _ _⟩
theorem add3 (b x y z : Nat) (t : TypeId) (hx : x < 256) (hy : y < 256) (hz : z < 256) (u : World) :
    Calls Try.prog 15 #[.pointer (some ⟨b, 0, none⟩), .slice (some ⟨u.heap.size, 0, none⟩) 3 3] (u.alloc (.cells #[.int .u8 (x : Int), .int .u8 (y : Int), .int .u8 (z : Int)] t)) fun e u' => e = .returned (.int .u8 ((x ^^^ y ^^^ z : Nat) : Int)) ∧ Below u.heap.size u u' :=
  (add_three b _ 3 x y z _ hx hy hz (laid_three x y z u t)).mono fun _ u' h => ⟨h.1, by rw [← h.2]; exact alloc_below _ _⟩

theorem awake_any (w : World) :
    Calls Try.prog 8 #[] w fun e w' => e = .returned (.bool true) ∧ Below w.heap.size w w' := by
  obtain ⟨b, hb⟩ : ∃ b, b = w.heap.size := ⟨_, rfl⟩
  have HN : Hid (Calls Try.prog 9 #[] w fun e w' => e = .returned (.pointer (some ⟨b, 0, none⟩)) ∧ Fld w' b ∧ Below w.heap.size w w') := Lib.hid (by rw [hb]; exact gfNew_any w)
  have H1 : Hid (∀ u, Fld u b → Calls Try.prog 14 #[.pointer (some ⟨b, 0, none⟩), .slice (some ⟨u.heap.size, 0, none⟩) 2 2] (u.alloc (.cells #[.int .u8 128, .int .u8 2] 5)) fun e u' => e = .returned (.int .u8 29) ∧ Below u.heap.size u u') :=
    Lib.hid fun u hf => mul2 b 128 2 _ (by omega) (by omega) u hf
  have H2 : Hid (∀ u, Fld u b → Calls Try.prog 14 #[.pointer (some ⟨b, 0, none⟩), .slice none 0 0] u fun e u' => e = .returned (.int .u8 1) ∧ Below u.heap.size u u') :=
    Lib.hid fun u hf => mul_any b none 0 [] u hf (fun x hx => by cases hx) (by simp) (Lies.nil _ _ _)
  have H3 : Hid (∀ u, Calls Try.prog 15 #[.pointer (some ⟨b, 0, none⟩), .slice (some ⟨u.heap.size, 0, none⟩) 2 2] (u.alloc (.cells #[.int .u8 3, .int .u8 5] 5)) fun e u' => e = .returned (.int .u8 6) ∧ Below u.heap.size u u') :=
    Lib.hid fun u => add2 b 3 5 _ (by omega) (by omega) u
  have HB := Lib.hid hb
  clear hb
  go_enter Try.func8, Try.ntmps8
  go_wp2_with (first
    | (go_at_call 9; (with_reducible refine HN.out.mono ?_); rintro e u1 ⟨rfl, f1, b1⟩; have F1 := Lib.hid f1; have B1 := Lib.hid b1; clear f1 b1)
    | (go_at_call 14; (with_reducible refine (H1.out u1 F1.out).mono ?_); rintro e u2 ⟨rfl, b2⟩; have F2 := Lib.hid (F1.out.step b2); have B2 := Lib.hid (B1.out.next b2); clear b2)
    | (go_at_call 14; (with_reducible refine (H2.out u2 F2.out).mono ?_); rintro e u3 ⟨rfl, b3⟩; have B3 := Lib.hid (B2.out.next b3); clear b3)
    | (go_at_call 15; (with_reducible refine (H3.out u3).mono ?_); rintro e u4 ⟨rfl, b4⟩; have B4 := Lib.hid (B3.out.next b4); clear b4))
  go_ret
  exact ⟨rfl, B4.out⟩

end Go.Proofs.Ytfpcchcfjdgpeaa
