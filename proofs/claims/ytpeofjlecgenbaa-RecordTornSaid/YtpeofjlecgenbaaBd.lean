/- A strings.Builder that holds some bytes. -/
import Derived.Test.YtpeofjlecgenbaaB2
import Derived.Test.YtpeofjlecgenbaaShelf
import Derived.Shelf.Strings.Builder1
namespace Go.Proofs.Ytpeofjlecgenbaa
open Go.RowKit
set_option linter.unusedVariables false
set_option maxRecDepth 100000

/-- A builder in block b that holds the bytes l. -/
def Bd (B b : Nat) (l : List UInt8) (w : World) : Prop := Lib.IsBuilder 83 5 B b (bytes l) w

theorem Bd.below {B b : Nat} {l : List UInt8} {w w' : World} (h : Bd B b l w) (hb : Below w.heap.size w w') : Bd B b l w' := by
  have key : ∀ p, Lib.BuilderAt 83 5 B b p (bytes l) w → Lib.BuilderAt 83 5 B b p (bytes l) w' := by
    rintro p ⟨h1, v, h2, h3, h4⟩
    exact ⟨h1, v, (hb.block b (Array.getElem?_eq_some_iff.1 h2).1).trans h2, own_below h3 hb, h4⟩
  rcases h with h | h
  · exact Or.inl (key _ h)
  · exact Or.inr (key _ h)
theorem Bd.lt {B b : Nat} {l : List UInt8} {w : World} (h : Bd B b l w) : b < w.heap.size := by
  rcases h with h | h
  · exact h.lt
  · exact h.lt
theorem Bd.new (w : World) : Bd w.heap.size w.heap.size [] (w.alloc (.cells #[.pointer none, .slice none 0 0] 83)) := Lib.fresh_isBuilder _ _ _


/-- WriteString's laying: the shelf's table lays it out of strings.Repeat's. -/
theorem lay166 : Go.Proofs.Lays.n166 Try.prog Try.lays105_ren := { Try.lays105 with }
theorem bwriteS_any (B b : Nat) (l : List UInt8) (s : ByteArray) (L : List UInt8) (w : World) (hs : s.data.toList = L) (h : Bd B b l w) (hlen : l.length + s.size ≤ 1099511627776) (hBw : B ≤ w.heap.size) :
    Calls Try.prog 35 #[.pointer (some ⟨b, 0, none⟩), .string s] w fun e w' => e = .returned (.tuple #[.int .i64 (s.size : Int), .nilIface]) ∧ Bd B b (l ++ L) w' ∧ Below B w w' := by
  refine (Any.Builder_WriteString lay166 Try.Builder_Extra_105 B b (bytes l) s w h (by rw [bytes_length]; omega) hBw).mono ?_
  rintro e w' ⟨rfl, h1, h2⟩
  refine ⟨rfl, Or.inr ?_, h2⟩
  rw [bytes_append, ← hs]
  exact h1
end Go.Proofs.Ytpeofjlecgenbaa
