/- The statements of gf: their walks. -/
import Derived.Test.YtfpcchcfjdgpeaaGfF
namespace Go.Proofs.Ytfpcchcfjdgpeaa
open Go.RowKit GfMath

theorem E1h {b : Nat} {n : Int} {r : Nat} (h : exI n = r) : Hid (∀ u, Fld u b → Calls Try.prog 16 #[.pointer (some ⟨b, 0, none⟩), .int .i64 n] u fun e u' => e = .returned (.int .u8 (r : Int)) ∧ Below u.heap.size u u') := Lib.hid fun u hf => by rw [← h]; exact exp_any b n u hf
theorem emod_tmod (n : Int) : n % 255 = if n.tmod 255 < 0 then n.tmod 255 + 255 else n.tmod 255 := by
  obtain ⟨h1, h2, q, hq⟩ := tmod_bd n
  generalize n.tmod 255 = r at *
  split <;> omega

end Go.Proofs.Ytfpcchcfjdgpeaa
