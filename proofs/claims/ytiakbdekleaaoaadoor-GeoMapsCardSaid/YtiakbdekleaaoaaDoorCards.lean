/-
  DERIVED. GIVEN WITH THE SEED: THE CARDS: each row of YtiakbdekleaaoaaDoorRows.lean that lists a variable, with what it lists TIED to the program's text (the seventh form; the later family's looks); each row that meets fmt, with fmt's text TOLD by the authors' own Lean function (tested against real Go, not proved from fmt's source: count such statements apart). THE CARD IS WHAT COUNTS. Prove the row's statement (the work); the ties are given (YtiakbdekleaaoaaDoorTie.lean); close each card by the builder's one call (the guide's Derived/Test/ToyasCard.lean, 'card_holds'). Laid BY PROGRAM, IN A SANDBOX (cutbox-door.mjs). By AI agents, Wed Nov 11 2026. No macro, syntax, notation, axiom, sorry.
-/
import Derived.Test.YtiakbdekleaaoaaDoorRows
import GoSem.ClaimSeven
namespace Go.Proofs.YtiakbdekleaaoaaDoor
namespace Rows

/-- THE TIED CARD OF 'triptychlaw09.GeoMaps'. -/
def geoMapsCard : Claim7 := { stood := { row := geoMapsRow, standIns := [], harness := (true, "51d0871a0fd98be6bd87c9221a1c984c895e8c1d95132e9b23ce5f0d520f93a9"), looks := false }, kinds := [], alts := [], laidByText := true, laidKinds := [.data, .data, .data], laidTests := true, laidLooks := .later }
def GeoMapsCardSaid : Prop := Claim7.holds Tryd.pinned (.plain (OpenSpec.ofChange geoMapsSpec)) geoMapsCard

/-- THE SECOND FORM's CARD OF 'triptychlaw09.GeoMaps'. -/
def geoMapsUptoCard : Claim7 := { stood := { row := geoMapsUptoRow, standIns := [], harness := (true, "51d0871a0fd98be6bd87c9221a1c984c895e8c1d95132e9b23ce5f0d520f93a9"), looks := false }, kinds := [], alts := [], laidByText := true, laidKinds := [.data, .data, .data], laidTests := true, laidLooks := .later }
def GeoMapsUptoCardSaid : Prop := Claim7.holds Tryd.pinned (.plain (OpenSpec.upto geoMapsSpec)) geoMapsUptoCard
end Rows
end Go.Proofs.YtiakbdekleaaoaaDoor
