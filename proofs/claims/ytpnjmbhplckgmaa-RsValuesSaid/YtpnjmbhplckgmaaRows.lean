/-
  No cell of these rows narrows 'for every input' (looked for: loops, veiled, ifaces, maps, wideKeys, modest, calm, conditions, laid).
  DERIVED. THE GIVEN ROWS OF THIS SEAT. 5 by the template 'for every input the law returns true; each argument reads behind the call as it read before'; 0 by the template 'total and deterministic' (their statements: YtpnjmbhplckgmaaTotals.lean).
  GIVEN WITH THE SEED: the statements are not yours to turn. If you find one false, say at which input.
  Laid BY PROGRAM, IN A SANDBOX (cutbox-rows.mjs): the forced cells as the released guide's own fill.sh prints them over the translation 2d1aa099b13e69ea… (all of the seat's roots in one cut). By AI agents, Wed Nov 11 2026. No macro, syntax, notation, axiom, sorry.
-/
import Derived.Test.YtpnjmbhplckgmaaChecked
import GoSem.Claim
import GoSem.ClaimJoined
import GoSem.ClaimMapViews
import Derived.JoinedTies
import Derived.KernelRfl
namespace Go.Proofs.Ytpnjmbhplckgmaa
/- THE CELL 'sum', in the pinned program and in every row, IS THE sha256 OF THE DUMP (.gsa) THAT YtpnjmbhplckgmaaProg.lean LOADS. Nothing in Lean hashes anything: it is a label: what it is worth is what the hold of that sum in a sandbox is worth. -/
noncomputable def Try.pinned : Pinned := { name := "ytpnjmbhplckgmaa", sum := "2d1aa099b13e69ea972b9273105081d66328259209e71e4d4b1a05b2913e760f", checked := Try.checked }
namespace Rows
def none {H : Type} : Left H := { results := [], args := [] }

/-- 'triptychlaw06.RsEncodes': WHATEVER THE INPUT: true; the input reads as it did. -/
def rsEncodesSpec : ChangeSpec := { name := "rsEncodes", fn := fun _ => fun
  | [d1, d2, d3] => { results := [.lit (.bool true)], args := [d1, d2, d3] }
  | _ => none }
def rsEncodesRow : OpenClaim := { program := "ytpnjmbhplckgmaa", sum := "2d1aa099b13e69ea972b9273105081d66328259209e71e4d4b1a05b2913e760f", func := "triptych/triptychlaw06.RsEncodes", spec := "rsEncodes", unfollowed := true, recurses := true, apart := false }
def RsEncodesSaid : Prop := rsEncodesRow.holds Try.pinned (OpenSpec.ofChange rsEncodesSpec)

/-- ITS FALSE NEIGHBOUR: 'it returns false'. Refute it at one input. -/
def rsEncodesWrong : ChangeSpec := { name := "rsEncodes", fn := fun _ => fun
  | [d1, d2, d3] => { results := [.lit (.bool false)], args := [d1, d2, d3] }
  | _ => none }
def RsEncodesWrongFalsely : Prop := rsEncodesRow.holds Try.pinned (OpenSpec.ofChange rsEncodesWrong)

/-- 'triptychlaw06.RsValues': WHATEVER THE INPUT: true; the input reads as it did. -/
def rsValuesSpec : ChangeSpec := { name := "rsValues", fn := fun _ => fun
  | [d1, d2, d3] => { results := [.lit (.bool true)], args := [d1, d2, d3] }
  | _ => none }
def rsValuesRow : OpenClaim := { program := "ytpnjmbhplckgmaa", sum := "2d1aa099b13e69ea972b9273105081d66328259209e71e4d4b1a05b2913e760f", func := "triptych/triptychlaw06.RsValues", spec := "rsValues", unfollowed := true, recurses := true, apart := false }
def RsValuesSaid : Prop := rsValuesRow.holds Try.pinned (OpenSpec.ofChange rsValuesSpec)

/-- ITS FALSE NEIGHBOUR: 'it returns false'. Refute it at one input. -/
def rsValuesWrong : ChangeSpec := { name := "rsValues", fn := fun _ => fun
  | [d1, d2, d3] => { results := [.lit (.bool false)], args := [d1, d2, d3] }
  | _ => none }
def RsValuesWrongFalsely : Prop := rsValuesRow.holds Try.pinned (OpenSpec.ofChange rsValuesWrong)

/-- 'triptychlaw06.RsFar': WHATEVER THE INPUT: true; the input reads as it did. -/
def rsFarSpec : ChangeSpec := { name := "rsFar", fn := fun _ => fun
  | [d1, d2, d3] => { results := [.lit (.bool true)], args := [d1, d2, d3] }
  | _ => none }
def rsFarRow : OpenClaim := { program := "ytpnjmbhplckgmaa", sum := "2d1aa099b13e69ea972b9273105081d66328259209e71e4d4b1a05b2913e760f", func := "triptych/triptychlaw06.RsFar", spec := "rsFar", unfollowed := true, recurses := true, apart := false }
def RsFarSaid : Prop := rsFarRow.holds Try.pinned (OpenSpec.ofChange rsFarSpec)

/-- ITS FALSE NEIGHBOUR: 'it returns false'. Refute it at one input. -/
def rsFarWrong : ChangeSpec := { name := "rsFar", fn := fun _ => fun
  | [d1, d2, d3] => { results := [.lit (.bool false)], args := [d1, d2, d3] }
  | _ => none }
def RsFarWrongFalsely : Prop := rsFarRow.holds Try.pinned (OpenSpec.ofChange rsFarWrong)

/-- 'triptychlaw06.RsNone': WHATEVER THE INPUT: true; the input reads as it did. -/
def rsNoneSpec : ChangeSpec := { name := "rsNone", fn := fun _ => fun
  | [d] => { results := [.lit (.bool true)], args := [d] }
  | _ => none }
def rsNoneRow : OpenClaim := { program := "ytpnjmbhplckgmaa", sum := "2d1aa099b13e69ea972b9273105081d66328259209e71e4d4b1a05b2913e760f", func := "triptych/triptychlaw06.RsNone", spec := "rsNone", unfollowed := true, recurses := true, apart := false }
def RsNoneSaid : Prop := rsNoneRow.holds Try.pinned (OpenSpec.ofChange rsNoneSpec)

/-- ITS FALSE NEIGHBOUR: 'it returns false'. Refute it at one input. -/
def rsNoneWrong : ChangeSpec := { name := "rsNone", fn := fun _ => fun
  | [d] => { results := [.lit (.bool false)], args := [d] }
  | _ => none }
def RsNoneWrongFalsely : Prop := rsNoneRow.holds Try.pinned (OpenSpec.ofChange rsNoneWrong)

/-- 'triptychlaw06.RsAny': WHATEVER THE INPUT: true; the input reads as it did. -/
def rsAnySpec : ChangeSpec := { name := "rsAny", fn := fun _ => fun
  | [d1, d2, d3] => { results := [.lit (.bool true)], args := [d1, d2, d3] }
  | _ => none }
def rsAnyRow : OpenClaim := { program := "ytpnjmbhplckgmaa", sum := "2d1aa099b13e69ea972b9273105081d66328259209e71e4d4b1a05b2913e760f", func := "triptych/triptychlaw06.RsAny", spec := "rsAny", unfollowed := true, recurses := true, apart := false }
def RsAnySaid : Prop := rsAnyRow.holds Try.pinned (OpenSpec.ofChange rsAnySpec)

/-- ITS FALSE NEIGHBOUR: 'it returns false'. Refute it at one input. -/
def rsAnyWrong : ChangeSpec := { name := "rsAny", fn := fun _ => fun
  | [d1, d2, d3] => { results := [.lit (.bool false)], args := [d1, d2, d3] }
  | _ => none }
def RsAnyWrongFalsely : Prop := rsAnyRow.holds Try.pinned (OpenSpec.ofChange rsAnyWrong)

/- THE SECOND FORM. 'bulk': how many values and letters a reading holds, each counted each time it is reached (what is shared counts as often as it is met; a slice's spare places count too). A statement '..UptoSaid' is the law's where the arguments, and the package variables that the reading takes, are together of bulk at most 1048576: NARROWER than '..Said'. Prove '..Said' where nothing that the law and all that it calls make is longer than what came in: it says more and counts as full. Else prove '..UptoSaid'. A law counts once. -/
mutual
def uptoBulk {H : Type} : DataW H → Nat
  | .lit (.string bytes) => bytes.length + 1
  | .lit _ => 1
  | .nil => 1
  | .ptr d => uptoBulk d + 1
  | .slice elems spare => uptoBulkAll elems + uptoBulkAll spare + 1
  | .agg parts => uptoBulkAll parts + 1
  | .iface _ d => uptoBulk d + 1
  | .map entries => uptoBulkEntries entries + 1
  | .held _ => 1
def uptoBulkAll {H : Type} : List (DataW H) → Nat
  | [] => 0
  | d :: r => uptoBulk d + uptoBulkAll r
def uptoBulkEntries {H : Type} : List (Lit × DataW H) → Nat
  | [] => 0
  | x :: r => uptoBulkEntry x + uptoBulkEntries r
def uptoBulkEntry {H : Type} : Lit × DataW H → Nat
  | (.string bytes, d) => bytes.length + uptoBulk d + 1
  | (_, d) => uptoBulk d + 1
 end
def uptoSmall : (H : Type) → List (DataW H) → Bool := fun _ ds => decide (uptoBulkAll ds ≤ 1048576)
def OpenSpec.upto (s : _root_.Go.ChangeSpec) : _root_.Go.OpenSpec := { _root_.Go.OpenSpec.ofChange s with cond := some uptoSmall }

/-- 'triptychlaw06.RsEncodes', WHERE WHAT IT READS IS OF BULK AT MOST 1048576: true; the input reads as it did. -/
def rsEncodesUptoRow : OpenClaim := { program := "ytpnjmbhplckgmaa", sum := "2d1aa099b13e69ea972b9273105081d66328259209e71e4d4b1a05b2913e760f", func := "triptych/triptychlaw06.RsEncodes", spec := "rsEncodes", unfollowed := true, recurses := true, apart := false, narrowed := true }
def RsEncodesUptoSaid : Prop := rsEncodesUptoRow.holds Try.pinned (OpenSpec.upto rsEncodesSpec)

/-- 'triptychlaw06.RsValues', WHERE WHAT IT READS IS OF BULK AT MOST 1048576: true; the input reads as it did. -/
def rsValuesUptoRow : OpenClaim := { program := "ytpnjmbhplckgmaa", sum := "2d1aa099b13e69ea972b9273105081d66328259209e71e4d4b1a05b2913e760f", func := "triptych/triptychlaw06.RsValues", spec := "rsValues", unfollowed := true, recurses := true, apart := false, narrowed := true }
def RsValuesUptoSaid : Prop := rsValuesUptoRow.holds Try.pinned (OpenSpec.upto rsValuesSpec)

/-- 'triptychlaw06.RsFar', WHERE WHAT IT READS IS OF BULK AT MOST 1048576: true; the input reads as it did. -/
def rsFarUptoRow : OpenClaim := { program := "ytpnjmbhplckgmaa", sum := "2d1aa099b13e69ea972b9273105081d66328259209e71e4d4b1a05b2913e760f", func := "triptych/triptychlaw06.RsFar", spec := "rsFar", unfollowed := true, recurses := true, apart := false, narrowed := true }
def RsFarUptoSaid : Prop := rsFarUptoRow.holds Try.pinned (OpenSpec.upto rsFarSpec)

/-- 'triptychlaw06.RsNone', WHERE WHAT IT READS IS OF BULK AT MOST 1048576: true; the input reads as it did. -/
def rsNoneUptoRow : OpenClaim := { program := "ytpnjmbhplckgmaa", sum := "2d1aa099b13e69ea972b9273105081d66328259209e71e4d4b1a05b2913e760f", func := "triptych/triptychlaw06.RsNone", spec := "rsNone", unfollowed := true, recurses := true, apart := false, narrowed := true }
def RsNoneUptoSaid : Prop := rsNoneUptoRow.holds Try.pinned (OpenSpec.upto rsNoneSpec)

/-- 'triptychlaw06.RsAny', WHERE WHAT IT READS IS OF BULK AT MOST 1048576: true; the input reads as it did. -/
def rsAnyUptoRow : OpenClaim := { program := "ytpnjmbhplckgmaa", sum := "2d1aa099b13e69ea972b9273105081d66328259209e71e4d4b1a05b2913e760f", func := "triptych/triptychlaw06.RsAny", spec := "rsAny", unfollowed := true, recurses := true, apart := false, narrowed := true }
def RsAnyUptoSaid : Prop := rsAnyUptoRow.holds Try.pinned (OpenSpec.upto rsAnySpec)

end Rows
end Go.Proofs.Ytpnjmbhplckgmaa
