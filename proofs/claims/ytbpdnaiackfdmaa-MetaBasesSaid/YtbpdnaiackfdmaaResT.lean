/- Results of which one lies in a block. -/
import Derived.Test.YtbpdnaiackfdmaaRow
namespace Go.Proofs.Ytbpdnaiackfdmaa
open Go.RowKit

theorem Row.resultT {w : World} {g : Nat} {t : TypeId} {l : List Value} (h : Row w g t l) {fn : Func} {p q : Tmp} {ty : TypeId} (hf : fn.results = #[.cell p ty, .tmp q]) (tmps : Array Value) (d : TypeDesc)
    (hp : tmps.getD p undef = .pointer (some ⟨g, 0, none⟩)) (hu : Try.prog.underlying ty = some d) (hd : d.isRow = true) (hi : (Try.prog.info? ty).map (·.size) = some l.length) :
    (results fn tmps).run Try.prog w = .ok (.tuple #[.agg l.toArray, tmps.getD q undef]) w := by
  have hp' : tmps[p]?.getD undef = .pointer (some ⟨g, 0, none⟩) := by simpa using hp
  have := run_loadVar_row (P := Try.prog) w g t ty l.toArray (0, 0) d h hu (by cases d <;> simp_all) (by simpa using hi)
  simp [results, hf, hp', asAddr, this]

end Go.Proofs.Ytbpdnaiackfdmaa
