/-
  No cell of these rows narrows 'for every input' (looked for: loops, veiled, ifaces, maps, wideKeys, modest, calm, conditions, laid).
  DERIVED. THE GIVEN ROWS OF THIS SEAT. 5 by the template 'for every input the law returns true; each argument reads behind the call as it read before'; 0 by the template 'total and deterministic' (their statements: YtfpcchcfjdgpeaaTotals.lean).
  GIVEN WITH THE SEED: the statements are not yours to turn. If you find one false, say at which input.
  Laid BY PROGRAM, IN A SANDBOX (cutbox-rows.mjs): the forced cells as the released guide's own fill.sh prints them over the translation 7493baf3ae22cb8e… (all of the seat's roots in one cut). By AI agents, Wed Nov 11 2026. No macro, syntax, notation, axiom, sorry.
-/
import Derived.Test.YtfpcchcfjdgpeaaChecked
import GoSem.Claim
import GoSem.ClaimJoined
import GoSem.ClaimMapViews
import Derived.JoinedTies
import Derived.KernelRfl
namespace Go.Proofs.Ytfpcchcfjdgpeaa
/- THE CELL 'sum', in the pinned program and in every row, IS THE sha256 OF THE DUMP (.gsa) THAT YtfpcchcfjdgpeaaProg.lean LOADS. Nothing in Lean hashes anything: it is a label: what it is worth is what the hold of that sum in a sandbox is worth. -/
noncomputable def Try.pinned : Pinned := { name := "ytfpcchcfjdgpeaa", sum := "7493baf3ae22cb8e7d57ebf02c69477dc52307575a9d201b9e7e4e8c60f9521d", checked := Try.checked }
namespace Rows
def none {H : Type} : Left H := { results := [], args := [] }

/-- 'triptychlaw04.GfMuls': WHATEVER THE INPUT: true; the input reads as it did. -/
def gfMulsSpec : ChangeSpec := { name := "gfMuls", fn := fun _ => fun
  | [d1, d2, d3] => { results := [.lit (.bool true)], args := [d1, d2, d3] }
  | _ => none }
def gfMulsRow : OpenClaim := { program := "ytfpcchcfjdgpeaa", sum := "7493baf3ae22cb8e7d57ebf02c69477dc52307575a9d201b9e7e4e8c60f9521d", func := "triptych/triptychlaw04.GfMuls", spec := "gfMuls", apart := false }
def GfMulsSaid : Prop := gfMulsRow.holds Try.pinned (OpenSpec.ofChange gfMulsSpec)

/-- ITS FALSE NEIGHBOUR: 'it returns false'. Refute it at one input. -/
def gfMulsWrong : ChangeSpec := { name := "gfMuls", fn := fun _ => fun
  | [d1, d2, d3] => { results := [.lit (.bool false)], args := [d1, d2, d3] }
  | _ => none }
def GfMulsWrongFalsely : Prop := gfMulsRow.holds Try.pinned (OpenSpec.ofChange gfMulsWrong)

/-- 'triptychlaw04.GfPowers': WHATEVER THE INPUT: true; the input reads as it did. -/
def gfPowersSpec : ChangeSpec := { name := "gfPowers", fn := fun _ => fun
  | [d1, d2, d3] => { results := [.lit (.bool true)], args := [d1, d2, d3] }
  | _ => none }
def gfPowersRow : OpenClaim := { program := "ytfpcchcfjdgpeaa", sum := "7493baf3ae22cb8e7d57ebf02c69477dc52307575a9d201b9e7e4e8c60f9521d", func := "triptych/triptychlaw04.GfPowers", spec := "gfPowers", apart := false }
def GfPowersSaid : Prop := gfPowersRow.holds Try.pinned (OpenSpec.ofChange gfPowersSpec)

/-- ITS FALSE NEIGHBOUR: 'it returns false'. Refute it at one input. -/
def gfPowersWrong : ChangeSpec := { name := "gfPowers", fn := fun _ => fun
  | [d1, d2, d3] => { results := [.lit (.bool false)], args := [d1, d2, d3] }
  | _ => none }
def GfPowersWrongFalsely : Prop := gfPowersRow.holds Try.pinned (OpenSpec.ofChange gfPowersWrong)

/-- 'triptychlaw04.GfIs': WHATEVER THE INPUT: true; the input reads as it did. -/
def gfIsSpec : ChangeSpec := { name := "gfIs", fn := fun _ => fun
  | [d1, d2, d3] => { results := [.lit (.bool true)], args := [d1, d2, d3] }
  | _ => none }
def gfIsRow : OpenClaim := { program := "ytfpcchcfjdgpeaa", sum := "7493baf3ae22cb8e7d57ebf02c69477dc52307575a9d201b9e7e4e8c60f9521d", func := "triptych/triptychlaw04.GfIs", spec := "gfIs", apart := false }
def GfIsSaid : Prop := gfIsRow.holds Try.pinned (OpenSpec.ofChange gfIsSpec)

/-- ITS FALSE NEIGHBOUR: 'it returns false'. Refute it at one input. -/
def gfIsWrong : ChangeSpec := { name := "gfIs", fn := fun _ => fun
  | [d1, d2, d3] => { results := [.lit (.bool false)], args := [d1, d2, d3] }
  | _ => none }
def GfIsWrongFalsely : Prop := gfIsRow.holds Try.pinned (OpenSpec.ofChange gfIsWrong)

/-- 'triptychlaw04.GfNone': WHATEVER THE INPUT: true; the input reads as it did. -/
def gfNoneSpec : ChangeSpec := { name := "gfNone", fn := fun _ => fun
  | [d1, d2, d3] => { results := [.lit (.bool true)], args := [d1, d2, d3] }
  | _ => none }
def gfNoneRow : OpenClaim := { program := "ytfpcchcfjdgpeaa", sum := "7493baf3ae22cb8e7d57ebf02c69477dc52307575a9d201b9e7e4e8c60f9521d", func := "triptych/triptychlaw04.GfNone", spec := "gfNone", apart := false }
def GfNoneSaid : Prop := gfNoneRow.holds Try.pinned (OpenSpec.ofChange gfNoneSpec)

/-- ITS FALSE NEIGHBOUR: 'it returns false'. Refute it at one input. -/
def gfNoneWrong : ChangeSpec := { name := "gfNone", fn := fun _ => fun
  | [d1, d2, d3] => { results := [.lit (.bool false)], args := [d1, d2, d3] }
  | _ => none }
def GfNoneWrongFalsely : Prop := gfNoneRow.holds Try.pinned (OpenSpec.ofChange gfNoneWrong)

/-- 'triptychlaw04.GfDivides': WHATEVER THE INPUT: true; the input reads as it did. -/
def gfDividesSpec : ChangeSpec := { name := "gfDivides", fn := fun _ => fun
  | [d1, d2] => { results := [.lit (.bool true)], args := [d1, d2] }
  | _ => none }
def gfDividesRow : OpenClaim := { program := "ytfpcchcfjdgpeaa", sum := "7493baf3ae22cb8e7d57ebf02c69477dc52307575a9d201b9e7e4e8c60f9521d", func := "triptych/triptychlaw04.GfDivides", spec := "gfDivides", apart := false }
def GfDividesSaid : Prop := gfDividesRow.holds Try.pinned (OpenSpec.ofChange gfDividesSpec)

/-- ITS FALSE NEIGHBOUR: 'it returns false'. Refute it at one input. -/
def gfDividesWrong : ChangeSpec := { name := "gfDivides", fn := fun _ => fun
  | [d1, d2] => { results := [.lit (.bool false)], args := [d1, d2] }
  | _ => none }
def GfDividesWrongFalsely : Prop := gfDividesRow.holds Try.pinned (OpenSpec.ofChange gfDividesWrong)

/- THE SECOND FORM. 'bulk': how many values and letters a reading holds, each counted each time it is reached (what is shared counts as often as it is met; a slice's spare places count too). A statement '..UptoSaid' is the law's where the arguments, and the package variables that the reading takes, are together of bulk at most 1048576: NARROWER than '..Said'. Prove '..Said' where nothing that the law and all that it calls make is longer than what came in: it says more and counts as full. Else prove '..UptoSaid'. A law counts once. -/
mutual
def uptoBulk {H : Type} : DataW H → Nat
  | .lit (.string bytes) => bytes.length + 1
  | .lit _ => 1
  | .nil => 1
  | .ptr d => uptoBulk d + 1
  | .slice elems spare => uptoBulkAll elems + uptoBulkAll spare + 1
  | .agg parts => uptoBulkAll parts + 1
  | .iface _ d => uptoBulk d + 1
  | .map entries => uptoBulkEntries entries + 1
  | .held _ => 1
def uptoBulkAll {H : Type} : List (DataW H) → Nat
  | [] => 0
  | d :: r => uptoBulk d + uptoBulkAll r
def uptoBulkEntries {H : Type} : List (Lit × DataW H) → Nat
  | [] => 0
  | x :: r => uptoBulkEntry x + uptoBulkEntries r
def uptoBulkEntry {H : Type} : Lit × DataW H → Nat
  | (.string bytes, d) => bytes.length + uptoBulk d + 1
  | (_, d) => uptoBulk d + 1
 end
def uptoSmall : (H : Type) → List (DataW H) → Bool := fun _ ds => decide (uptoBulkAll ds ≤ 1048576)
def OpenSpec.upto (s : _root_.Go.ChangeSpec) : _root_.Go.OpenSpec := { _root_.Go.OpenSpec.ofChange s with cond := some uptoSmall }

/-- 'triptychlaw04.GfMuls', WHERE WHAT IT READS IS OF BULK AT MOST 1048576: true; the input reads as it did. -/
def gfMulsUptoRow : OpenClaim := { program := "ytfpcchcfjdgpeaa", sum := "7493baf3ae22cb8e7d57ebf02c69477dc52307575a9d201b9e7e4e8c60f9521d", func := "triptych/triptychlaw04.GfMuls", spec := "gfMuls", apart := false, narrowed := true }
def GfMulsUptoSaid : Prop := gfMulsUptoRow.holds Try.pinned (OpenSpec.upto gfMulsSpec)

/-- 'triptychlaw04.GfPowers', WHERE WHAT IT READS IS OF BULK AT MOST 1048576: true; the input reads as it did. -/
def gfPowersUptoRow : OpenClaim := { program := "ytfpcchcfjdgpeaa", sum := "7493baf3ae22cb8e7d57ebf02c69477dc52307575a9d201b9e7e4e8c60f9521d", func := "triptych/triptychlaw04.GfPowers", spec := "gfPowers", apart := false, narrowed := true }
def GfPowersUptoSaid : Prop := gfPowersUptoRow.holds Try.pinned (OpenSpec.upto gfPowersSpec)

/-- 'triptychlaw04.GfIs', WHERE WHAT IT READS IS OF BULK AT MOST 1048576: true; the input reads as it did. -/
def gfIsUptoRow : OpenClaim := { program := "ytfpcchcfjdgpeaa", sum := "7493baf3ae22cb8e7d57ebf02c69477dc52307575a9d201b9e7e4e8c60f9521d", func := "triptych/triptychlaw04.GfIs", spec := "gfIs", apart := false, narrowed := true }
def GfIsUptoSaid : Prop := gfIsUptoRow.holds Try.pinned (OpenSpec.upto gfIsSpec)

/-- 'triptychlaw04.GfNone', WHERE WHAT IT READS IS OF BULK AT MOST 1048576: true; the input reads as it did. -/
def gfNoneUptoRow : OpenClaim := { program := "ytfpcchcfjdgpeaa", sum := "7493baf3ae22cb8e7d57ebf02c69477dc52307575a9d201b9e7e4e8c60f9521d", func := "triptych/triptychlaw04.GfNone", spec := "gfNone", apart := false, narrowed := true }
def GfNoneUptoSaid : Prop := gfNoneUptoRow.holds Try.pinned (OpenSpec.upto gfNoneSpec)

/-- 'triptychlaw04.GfDivides', WHERE WHAT IT READS IS OF BULK AT MOST 1048576: true; the input reads as it did. -/
def gfDividesUptoRow : OpenClaim := { program := "ytfpcchcfjdgpeaa", sum := "7493baf3ae22cb8e7d57ebf02c69477dc52307575a9d201b9e7e4e8c60f9521d", func := "triptych/triptychlaw04.GfDivides", spec := "gfDivides", apart := false, narrowed := true }
def GfDividesUptoSaid : Prop := gfDividesUptoRow.holds Try.pinned (OpenSpec.upto gfDividesSpec)

end Rows
end Go.Proofs.Ytfpcchcfjdgpeaa
