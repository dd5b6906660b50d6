/- What the rows' listed variables give the walks. -/
import Derived.Test.YtmphjmbnfaimiaaDoorShaL
import Derived.Test.YtmphjmbnfaimiaaDoorRows
import Derived.Lib.LaidTab
import Derived.MakeChecks
import Derived.Stop.LaidErr
namespace Go.Proofs.YtmphjmbnfaimiaaDoor
open Go.RowKit ShaMath

theorem glob_of_laid {W : World} (h : laidMetH Tryd.prog [("triptych/sha.first", Rows.laid_triptych_sha_first), ("triptych/sha.roots", Rows.laid_triptych_sha_roots)] W) : Glob W := by
  rw [MakeChecks.laidMetH_plain _ _ _ (by kernel_rfl)] at h
  have e1 : (Rows.laid_triptych_sha_first : DataW Unit) = Lib.tabData .u32 (first.map tI) := by kernel_rfl
  have e2 : (Rows.laid_triptych_sha_roots : DataW Unit) = Lib.tabData .u32 (roots.map tI) := by kernel_rfl
  rw [e1, e2] at h
  have g1 : Tryd.prog.globalNamed "triptych/sha.first" = some 0 := by kernel_rfl
  have g2 : Tryd.prog.globalNamed "triptych/sha.roots" = some 1 := by kernel_rfl
  have h1 := Lib.tabIs_of_head (t := 51) (e := 50) (n := 8) g1 (by kernel_rfl) Tryd.underlying51 Tryd.underlying50 (by kernel_rfl) (by kernel_rfl) h
  have h2 := Lib.tabIs_of_head (t := 64) (e := 50) (n := 64) g2 (by kernel_rfl) Tryd.underlying64 Tryd.underlying50 (by kernel_rfl) (by kernel_rfl) (laidMet.tail h)
  have c2 : ∀ i (hi : i < roots.length), W.cell? ⟨1, i, none⟩ = some (.int .u32 (tI roots[i])) := fun i hi => by
    rw [h2.cell g2 i (by simpa using hi)]
    simp [List.getD_eq_getElem?_getD, hi]
  refine ⟨?_, fun i hi => ?_, c2⟩
  · have := block_lt_of_cell (c2 0 (by decide))
    exact this
  · rw [h1.cell g1 i (by simpa using hi)]
    simp [List.getD_eq_getElem?_getD, hi]

end Go.Proofs.YtmphjmbnfaimiaaDoor
