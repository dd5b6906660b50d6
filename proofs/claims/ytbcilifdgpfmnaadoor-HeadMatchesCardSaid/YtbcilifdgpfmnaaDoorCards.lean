/-
  DERIVED. GIVEN WITH THE SEED: THE CARDS: each row of YtbcilifdgpfmnaaDoorRows.lean that lists a variable, with what it lists TIED to the program's text (the seventh form; the later family's looks); each row that meets fmt, with fmt's text TOLD by the authors' own Lean function (tested against real Go, not proved from fmt's source: count such statements apart). THE CARD IS WHAT COUNTS. Prove the row's statement (the work); the ties are given (YtbcilifdgpfmnaaDoorTie.lean); close each card by the builder's one call (the guide's Derived/Test/ToyasCard.lean, 'card_holds'). Laid BY PROGRAM, IN A SANDBOX (cutbox-door.mjs). By AI agents, Wed Nov 11 2026. No macro, syntax, notation, axiom, sorry.
-/
import Derived.Test.YtbcilifdgpfmnaaDoorRows
import GoSem.ClaimSeven
namespace Go.Proofs.YtbcilifdgpfmnaaDoor
namespace Rows

/-- THE TIED CARD OF 'triptychlaw12.HeadPuts'. -/
def headPutsCard : Claim7 := { stood := { row := headPutsRow, standIns := [], harness := (true, "f9d3d7cc9a5e4481eff3bb61c7bf62cf9d6148a799ccbd48d2b4d8eaf5b77ab8"), looks := false }, kinds := [], alts := [], laidByText := true, laidKinds := [.data, .data], laidTests := true, laidLooks := .later }
def HeadPutsCardSaid : Prop := Claim7.holds Tryd.pinned (.plain (OpenSpec.ofChange headPutsSpec)) headPutsCard

/-- THE TIED CARD OF 'triptychlaw12.HeadMatches'. -/
def headMatchesCard : Claim7 := { stood := { row := headMatchesRow, standIns := [], harness := (true, "f9d3d7cc9a5e4481eff3bb61c7bf62cf9d6148a799ccbd48d2b4d8eaf5b77ab8"), looks := false }, kinds := [], alts := [], laidByText := true, laidKinds := [.data, .data], laidTests := true, laidLooks := .later }
def HeadMatchesCardSaid : Prop := Claim7.holds Tryd.pinned (.plain (OpenSpec.ofChange headMatchesSpec)) headMatchesCard

/-- THE SECOND FORM's CARD OF 'triptychlaw12.HeadPuts'. -/
def headPutsUptoCard : Claim7 := { stood := { row := headPutsUptoRow, standIns := [], harness := (true, "f9d3d7cc9a5e4481eff3bb61c7bf62cf9d6148a799ccbd48d2b4d8eaf5b77ab8"), looks := false }, kinds := [], alts := [], laidByText := true, laidKinds := [.data, .data], laidTests := true, laidLooks := .later }
def HeadPutsUptoCardSaid : Prop := Claim7.holds Tryd.pinned (.plain (OpenSpec.upto headPutsSpec)) headPutsUptoCard

/-- THE SECOND FORM's CARD OF 'triptychlaw12.HeadMatches'. -/
def headMatchesUptoCard : Claim7 := { stood := { row := headMatchesUptoRow, standIns := [], harness := (true, "f9d3d7cc9a5e4481eff3bb61c7bf62cf9d6148a799ccbd48d2b4d8eaf5b77ab8"), looks := false }, kinds := [], alts := [], laidByText := true, laidKinds := [.data, .data], laidTests := true, laidLooks := .later }
def HeadMatchesUptoCardSaid : Prop := Claim7.holds Tryd.pinned (.plain (OpenSpec.upto headMatchesSpec)) headMatchesUptoCard
end Rows
end Go.Proofs.YtbcilifdgpfmnaaDoor
