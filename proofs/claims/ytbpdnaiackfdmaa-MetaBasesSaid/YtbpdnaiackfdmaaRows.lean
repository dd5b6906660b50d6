/-
  No cell of these rows narrows 'for every input' (looked for: loops, veiled, ifaces, maps, wideKeys, modest, calm, conditions, laid).
  DERIVED. THE GIVEN ROWS OF THIS SEAT. 3 by the template 'for every input the law returns true; each argument reads behind the call as it read before'; 0 by the template 'total and deterministic' (their statements: YtbpdnaiackfdmaaTotals.lean).
  GIVEN WITH THE SEED: the statements are not yours to turn. If you find one false, say at which input.
  Laid BY PROGRAM, IN A SANDBOX (cutbox-rows.mjs): the forced cells as the released guide's own fill.sh prints them over the translation 65a042dfe6b49f77… (all of the seat's roots in one cut). By AI agents, Wed Nov 11 2026. No macro, syntax, notation, axiom, sorry.
-/
import Derived.Test.YtbpdnaiackfdmaaChecked
import GoSem.Claim
import GoSem.ClaimJoined
import GoSem.ClaimMapViews
import Derived.JoinedTies
import Derived.KernelRfl
namespace Go.Proofs.Ytbpdnaiackfdmaa
/- THE CELL 'sum', in the pinned program and in every row, IS THE sha256 OF THE DUMP (.gsa) THAT YtbpdnaiackfdmaaProg.lean LOADS. Nothing in Lean hashes anything: it is a label: what it is worth is what the hold of that sum in a sandbox is worth. -/
noncomputable def Try.pinned : Pinned := { name := "ytbpdnaiackfdmaa", sum := "65a042dfe6b49f773289f40d654e8d1a7542e1501164c274c3bf3e00ff6235ef", checked := Try.checked }
namespace Rows
def none {H : Type} : Left H := { results := [], args := [] }

/-- 'triptychlaw17.MetaStays': WHATEVER THE INPUT: true; the input reads as it did. -/
def metaStaysSpec : ChangeSpec := { name := "metaStays", fn := fun _ => fun
  | [d] => { results := [.lit (.bool true)], args := [d] }
  | _ => none }
def metaStaysRow : OpenClaim := { program := "ytbpdnaiackfdmaa", sum := "65a042dfe6b49f773289f40d654e8d1a7542e1501164c274c3bf3e00ff6235ef", func := "triptych/triptychlaw17.MetaStays", spec := "metaStays", unfollowed := true, recurses := true, apart := false }
def MetaStaysSaid : Prop := metaStaysRow.holds Try.pinned (OpenSpec.ofChange metaStaysSpec)

/-- ITS FALSE NEIGHBOUR: 'it returns false'. Refute it at one input. -/
def metaStaysWrong : ChangeSpec := { name := "metaStays", fn := fun _ => fun
  | [d] => { results := [.lit (.bool false)], args := [d] }
  | _ => none }
def MetaStaysWrongFalsely : Prop := metaStaysRow.holds Try.pinned (OpenSpec.ofChange metaStaysWrong)

/-- 'triptychlaw17.MetaBases': WHATEVER THE INPUT: true; the input reads as it did. -/
def metaBasesSpec : ChangeSpec := { name := "metaBases", fn := fun _ => fun
  | [d1, d2] => { results := [.lit (.bool true)], args := [d1, d2] }
  | _ => none }
def metaBasesRow : OpenClaim := { program := "ytbpdnaiackfdmaa", sum := "65a042dfe6b49f773289f40d654e8d1a7542e1501164c274c3bf3e00ff6235ef", func := "triptych/triptychlaw17.MetaBases", spec := "metaBases", unfollowed := true, recurses := true, apart := false }
def MetaBasesSaid : Prop := metaBasesRow.holds Try.pinned (OpenSpec.ofChange metaBasesSpec)

/-- ITS FALSE NEIGHBOUR: 'it returns false'. Refute it at one input. -/
def metaBasesWrong : ChangeSpec := { name := "metaBases", fn := fun _ => fun
  | [d1, d2] => { results := [.lit (.bool false)], args := [d1, d2] }
  | _ => none }
def MetaBasesWrongFalsely : Prop := metaBasesRow.holds Try.pinned (OpenSpec.ofChange metaBasesWrong)

/-- 'triptychlaw17.MetaPaths': WHATEVER THE INPUT: true; the input reads as it did. -/
def metaPathsSpec : ChangeSpec := { name := "metaPaths", fn := fun _ => fun
  | [d] => { results := [.lit (.bool true)], args := [d] }
  | _ => none }
def metaPathsRow : OpenClaim := { program := "ytbpdnaiackfdmaa", sum := "65a042dfe6b49f773289f40d654e8d1a7542e1501164c274c3bf3e00ff6235ef", func := "triptych/triptychlaw17.MetaPaths", spec := "metaPaths", unfollowed := true, recurses := true, apart := false }
def MetaPathsSaid : Prop := metaPathsRow.holds Try.pinned (OpenSpec.ofChange metaPathsSpec)

/-- ITS FALSE NEIGHBOUR: 'it returns false'. Refute it at one input. -/
def metaPathsWrong : ChangeSpec := { name := "metaPaths", fn := fun _ => fun
  | [d] => { results := [.lit (.bool false)], args := [d] }
  | _ => none }
def MetaPathsWrongFalsely : Prop := metaPathsRow.holds Try.pinned (OpenSpec.ofChange metaPathsWrong)

/- THE SECOND FORM. 'bulk': how many values and letters a reading holds, each counted each time it is reached (what is shared counts as often as it is met; a slice's spare places count too). A statement '..UptoSaid' is the law's where the arguments, and the package variables that the reading takes, are together of bulk at most 1048576: NARROWER than '..Said'. Prove '..Said' where nothing that the law and all that it calls make is longer than what came in: it says more and counts as full. Else prove '..UptoSaid'. A law counts once. -/
mutual
def uptoBulk {H : Type} : DataW H → Nat
  | .lit (.string bytes) => bytes.length + 1
  | .lit _ => 1
  | .nil => 1
  | .ptr d => uptoBulk d + 1
  | .slice elems spare => uptoBulkAll elems + uptoBulkAll spare + 1
  | .agg parts => uptoBulkAll parts + 1
  | .iface _ d => uptoBulk d + 1
  | .map entries => uptoBulkEntries entries + 1
  | .held _ => 1
def uptoBulkAll {H : Type} : List (DataW H) → Nat
  | [] => 0
  | d :: r => uptoBulk d + uptoBulkAll r
def uptoBulkEntries {H : Type} : List (Lit × DataW H) → Nat
  | [] => 0
  | x :: r => uptoBulkEntry x + uptoBulkEntries r
def uptoBulkEntry {H : Type} : Lit × DataW H → Nat
  | (.string bytes, d) => bytes.length + uptoBulk d + 1
  | (_, d) => uptoBulk d + 1
 end
def uptoSmall : (H : Type) → List (DataW H) → Bool := fun _ ds => decide (uptoBulkAll ds ≤ 1048576)
def OpenSpec.upto (s : _root_.Go.ChangeSpec) : _root_.Go.OpenSpec := { _root_.Go.OpenSpec.ofChange s with cond := some uptoSmall }

/-- 'triptychlaw17.MetaStays', WHERE WHAT IT READS IS OF BULK AT MOST 1048576: true; the input reads as it did. -/
def metaStaysUptoRow : OpenClaim := { program := "ytbpdnaiackfdmaa", sum := "65a042dfe6b49f773289f40d654e8d1a7542e1501164c274c3bf3e00ff6235ef", func := "triptych/triptychlaw17.MetaStays", spec := "metaStays", unfollowed := true, recurses := true, apart := false, narrowed := true }
def MetaStaysUptoSaid : Prop := metaStaysUptoRow.holds Try.pinned (OpenSpec.upto metaStaysSpec)

/-- 'triptychlaw17.MetaBases', WHERE WHAT IT READS IS OF BULK AT MOST 1048576: true; the input reads as it did. -/
def metaBasesUptoRow : OpenClaim := { program := "ytbpdnaiackfdmaa", sum := "65a042dfe6b49f773289f40d654e8d1a7542e1501164c274c3bf3e00ff6235ef", func := "triptych/triptychlaw17.MetaBases", spec := "metaBases", unfollowed := true, recurses := true, apart := false, narrowed := true }
def MetaBasesUptoSaid : Prop := metaBasesUptoRow.holds Try.pinned (OpenSpec.upto metaBasesSpec)

/-- 'triptychlaw17.MetaPaths', WHERE WHAT IT READS IS OF BULK AT MOST 1048576: true; the input reads as it did. -/
def metaPathsUptoRow : OpenClaim := { program := "ytbpdnaiackfdmaa", sum := "65a042dfe6b49f773289f40d654e8d1a7542e1501164c274c3bf3e00ff6235ef", func := "triptych/triptychlaw17.MetaPaths", spec := "metaPaths", unfollowed := true, recurses := true, apart := false, narrowed := true }
def MetaPathsUptoSaid : Prop := metaPathsUptoRow.holds Try.pinned (OpenSpec.upto metaPathsSpec)

end Rows
end Go.Proofs.Ytbpdnaiackfdmaa
