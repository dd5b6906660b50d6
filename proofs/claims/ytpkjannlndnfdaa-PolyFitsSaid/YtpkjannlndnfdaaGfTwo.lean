/- Products and sums of two and three whose list was just laid. -/
import Derived.Test.YtpkjannlndnfdaaGfC
namespace Go.Proofs.Ytpkjannlndnfdaa
open Go.RowKit GfMath

theorem mul2 (b x y : Nat) (t : TypeId) (hx : x < 256) (hy : y < 256) (u : World) (hf : Fld u b) :
    Calls Try.prog 24 #[.pointer (some ⟨b, 0, none⟩), .slice (some ⟨u.heap.size, 0, none⟩) 2 2] (u.alloc (.cells #[.int .u8 (x : Int), .int .u8 (y : Int)] t)) fun e u' => e = .returned (.int .u8 (gm x y : Int)) ∧ Below u.heap.size u u' :=
  (mul_two b _ 2 x y _ (hf.step (alloc_below _ _)) hx hy (laid_two x y u t)).mono fun _ _ h => ⟨h.1, (alloc_below _ _).next h.2⟩
theorem mul3 (b x y z : Nat) (t : TypeId) (hx : x < 256) (hy : y < 256) (hz : z < 256) (u : World) (hf : Fld u b) :
    Calls Try.prog 24 #[.pointer (some ⟨b, 0, none⟩), .slice (some ⟨u.heap.size, 0, none⟩) 3 3] (u.alloc (.cells #[.int .u8 (x : Int), .int .u8 (y : Int), .int .u8 (z : Int)] t)) fun e u' => e = .returned (.int .u8 (gm (gm x y) z : Int)) ∧ Below u.heap.size u u' :=
  (mul_three b _ 3 x y z _ (hf.step (alloc_below _ _)) hx hy hz (laid_three x y z u t)).mono fun _ _ h => ⟨h.1, (alloc_below _ _).next h.2⟩
theorem add2 (b x y : Nat) (t : TypeId) (hx : x < 256) (hy : y < 256) (u : World) :
    Calls Try.prog 18 #[.pointer (some ⟨b, 0, none⟩), .slice (some ⟨u.heap.size, 0, none⟩) 2 2] (u.alloc (.cells #[.int .u8 (x : Int), .int .u8 (y : Int)] t)) fun e u' => e = .returned (.int .u8 ((x ^^^ y : Nat) : Int)) ∧ Below u.heap.size u u' :=
  (add_two b _ 2 x y _ hx hy (laid_two x y u t)).mono fun _ u' h => ⟨h.1, by rw [← h.2]; exact alloc_below _ _⟩
theorem add3 (b x y z : Nat) (t : TypeId) (hx : x < 256) (hy : y < 256) (hz : z < 256) (u : World) :
    Calls Try.prog 18 #[.pointer (some ⟨b, 0, none⟩), .slice (some ⟨u.heap.size, 0, none⟩) 3 3] (u.alloc (.cells #[.int .u8 (x : Int), .int .u8 (y : Int), .int .u8 (z : Int)] t)) fun e u' => e = .returned (.int .u8 ((x ^^^ y ^^^ z : Nat) : Int)) ∧ Below u.heap.size u u' :=
  (add_three b _ 3 x y z _ hx hy hz (laid_three x y z u t)).mono fun _ u' h => ⟨h.1, by rw [← h.2]; exact alloc_below _ _⟩

end Go.Proofs.Ytpkjannlndnfdaa
