/- Heads and versions that came in; HeadPuts whole. -/
import Derived.Test.YtbcilifdgpfmnaaDoorHeadI
import Derived.Test.YtbcilifdgpfmnaaDoorOpen
import Derived.Test.YtbcilifdgpfmnaaDoorReads
namespace Go.Proofs.YtbcilifdgpfmnaaDoor
open Go.RowKit HeadMath

theorem reads_ver {w : World} {cs : List Value} {x : List Int} (h : Open.Reads w (.arr 3 (.int .i64)) cs x) : ∃ a b c : Int, cs = [.int .i64 a, .int .i64 b, .int .i64 c] := by
  obtain ⟨h1, h2, h3⟩ := h
  have hl : cs.length = 3 := by simpa [Open.Ty.size] using h2
  match cs, hl with
  | [a, b, c], _ =>
    have e1 := (h3 0 (by omega)).1
    have e2 := (h3 1 (by omega)).1
    have e3 := (h3 2 (by omega)).1
    simp [Open.Ty.size] at e1 e2 e3
    exact ⟨_, _, _, by rw [e1, e2, e3]⟩
theorem reads_head {w : World} {cs : List Value} {x : (Open.Ty.pair (.arr 3 (.int .i64)) (.pair (.int .i64) (.pair (.arr 32 (.int .u8)) .unit))).den} (h : Open.Reads w (.pair (.arr 3 (.int .i64)) (.pair (.int .i64) (.pair (.arr 32 (.int .u8)) .unit))) cs x) : ∃ (a b c n : Int) (H : List UInt8), H.length = 32 ∧ cs = hdv a b c n H := by
  obtain ⟨h1, ⟨h2, g2⟩, h3, h4⟩ := h
  obtain ⟨a, b, c, e1⟩ := reads_ver h1
  obtain ⟨H, hH, e3⟩ := reads_bytes h3
  have e1' : cs.take 3 = [.int .i64 a, .int .i64 b, .int .i64 c] := e1
  have h2' : (cs.drop 3).take 1 = [.int .i64 x.2.1] := h2
  have e3' : ((cs.drop 3).drop 1).take 32 = bytes H := e3
  have h4' : ((cs.drop 3).drop 1).drop 32 = [] := h4
  refine ⟨a, b, c, x.2.1, H, hH, ?_⟩
  have h5 : cs = cs.take 3 ++ ((cs.drop 3).take 1 ++ (((cs.drop 3).drop 1).take 32 ++ ((cs.drop 3).drop 1).drop 32)) := by
    rw [List.take_append_drop, List.take_append_drop, List.take_append_drop]
  rw [e1', h2', e3', h4', List.append_nil] at h5
  rw [h5]
  rfl
end Go.Proofs.YtbcilifdgpfmnaaDoor
