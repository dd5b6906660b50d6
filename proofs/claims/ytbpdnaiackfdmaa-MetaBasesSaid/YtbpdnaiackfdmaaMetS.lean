/- What is known, that came in. -/
import Derived.Test.YtbpdnaiackfdmaaMetC
import Derived.Test.YtbpdnaiackfdmaaOpen
import Derived.Test.YtbpdnaiackfdmaaReads
namespace Go.Proofs.Ytbpdnaiackfdmaa
open Go.RowKit MetMath
def TSl : Open.Ty := .pair (.int .i64) (.pair (.int .i64) (.pair (.int .i64) .unit))
def TMt : Open.Ty := .pair (.arr 3 TSl) (.pair (.int .i64) (.pair (.int .i64) (.pair (.int .i64) (.pair (.int .i64) .unit))))
theorem reads_slot {w : World} {cs : List Value} {x : TSl.den} (h : Open.Reads w TSl cs x) : ∃ y : Sl, cs = slc y := by
  have hl : cs.length = 3 := h.length
  match cs, hl with
  | [a, b, c], _ =>
    obtain ⟨⟨h1, g1⟩, ⟨h2, g2⟩, ⟨h3, g3⟩, _⟩ := h
    have e1 : a = .int .i64 x.1 := by simpa [Open.Ty.size] using h1
    have e2 : b = .int .i64 x.2.1 := by simpa [Open.Ty.size] using h2
    have e3 : c = .int .i64 x.2.2.1 := by simpa [Open.Ty.size] using h3
    exact ⟨⟨_, _, _⟩, by rw [e1, e2, e3]; rfl⟩
theorem reads_slots {w : World} {cs : List Value} {x : (Open.Ty.arr 3 TSl).den} (h : Open.Reads w (.arr 3 TSl) cs x) : ∃ a b c : Sl, cs = slc a ++ slc b ++ slc c := by
  obtain ⟨h1, h2, h3⟩ := h
  have hl : cs.length = 9 := by simpa [Open.Ty.size, TSl] using h2
  obtain ⟨a, e1⟩ := reads_slot (h3 0 (by omega))
  obtain ⟨b, e2⟩ := reads_slot (h3 1 (by omega))
  obtain ⟨c, e3⟩ := reads_slot (h3 2 (by omega))
  have s : TSl.size = 3 := rfl
  rw [s] at e1 e2 e3
  refine ⟨a, b, c, ?_⟩
  rw [← e1, ← e2, ← e3]
  match cs, hl with
  | [_, _, _, _, _, _, _, _, _], _ => rfl
theorem reads_meta {w : World} {cs : List Value} {x : TMt.den} (h : Open.Reads w TMt cs x) : ∃ m : Mt, cs = mcs m := by
  obtain ⟨h1, ⟨h2, _⟩, ⟨h3, _⟩, ⟨h4, _⟩, ⟨h5, _⟩, h6⟩ := h
  obtain ⟨a, b, c, e⟩ := reads_slots h1
  have s : (Open.Ty.arr 3 TSl).size = 9 := rfl
  have e0 : cs.take 9 = slc a ++ slc b ++ slc c := e
  have e1 : (cs.drop 9).take 1 = [.int .i64 x.2.1] := h2
  have e2 : ((cs.drop 9).drop 1).take 1 = [.int .i64 x.2.2.1] := h3
  have e3 : (((cs.drop 9).drop 1).drop 1).take 1 = [.int .i64 x.2.2.2.1] := h4
  have e4 : ((((cs.drop 9).drop 1).drop 1).drop 1).take 1 = [.int .i64 x.2.2.2.2.1] := h5
  have e5 : ((((cs.drop 9).drop 1).drop 1).drop 1).drop 1 = [] := h6
  refine ⟨⟨a, b, c, x.2.1, x.2.2.1, x.2.2.2.1, x.2.2.2.2.1⟩, ?_⟩
  have hh : cs = cs.take 9 ++ ((cs.drop 9).take 1 ++ (((cs.drop 9).drop 1).take 1 ++ ((((cs.drop 9).drop 1).drop 1).take 1 ++ (((((cs.drop 9).drop 1).drop 1).drop 1).take 1 ++ ((((cs.drop 9).drop 1).drop 1).drop 1).drop 1)))) := by
    rw [List.take_append_drop, List.take_append_drop, List.take_append_drop, List.take_append_drop, List.take_append_drop]
  rw [e0, e1, e2, e3, e4, e5] at hh
  rw [hh]
  rfl
end Go.Proofs.Ytbpdnaiackfdmaa
