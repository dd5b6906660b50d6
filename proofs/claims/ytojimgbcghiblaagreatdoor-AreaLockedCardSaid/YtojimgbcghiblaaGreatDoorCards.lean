/-
  DERIVED. GIVEN WITH THE SEED: THE CARDS: each row of YtojimgbcghiblaaGreatDoorRows.lean that lists a variable, with what it lists TIED to the program's text (the seventh form; the later family's looks); each row that meets fmt, with fmt's text TOLD by the authors' own Lean function (tested against real Go, not proved from fmt's source: count such statements apart). THE CARD IS WHAT COUNTS. Prove the row's statement (the work); the ties are given (YtojimgbcghiblaaGreatDoorTie.lean); close each card by the builder's one call (the guide's Derived/Test/ToyasCard.lean, 'card_holds'). Laid BY PROGRAM, IN A SANDBOX (cutbox-door.mjs). By AI agents, Wed Nov 11 2026. No macro, syntax, notation, axiom, sorry.
-/
import Derived.Test.YtojimgbcghiblaaGreatDoorRows
import GoSem.ClaimSeven
namespace Go.Proofs.YtojimgbcghiblaaGreatDoor
namespace Rows

/-- THE TIED CARD OF 'triptychlaw13.AreaTexts'. -/
def areaTextsCard : Claim7 := { stood := { row := areaTextsRow, standIns := [], harness := (true, "766ed595ecb6e30a3638b7c54ee03d06d274b1aa15efbeb710128766bb3b0e86"), looks := false }, kinds := [], alts := [], laidByText := true, laidKinds := [.data, .data], laidTests := true, laidLooks := .later }
def AreaTextsCardSaid : Prop := Claim7.holds Tryz.pinned (.plain (OpenSpec.ofChange areaTextsSpec)) areaTextsCard

/-- THE TIED CARD OF 'triptychlaw13.AreaErrors'. -/
def areaErrorsCard : Claim7 := { stood := { row := areaErrorsRow, standIns := [], harness := (true, "766ed595ecb6e30a3638b7c54ee03d06d274b1aa15efbeb710128766bb3b0e86"), looks := false }, kinds := [], alts := [], laidByText := true, laidKinds := [.data, .data], laidTests := true, laidLooks := .later }
def AreaErrorsCardSaid : Prop := Claim7.holds Tryz.pinned (.plain (OpenSpec.ofChange areaErrorsSpec)) areaErrorsCard

/-- THE TIED CARD OF 'triptychlaw13.AreaLocked'. -/
def areaLockedCard : Claim7 := { stood := { row := areaLockedRow, standIns := [], harness := (true, "766ed595ecb6e30a3638b7c54ee03d06d274b1aa15efbeb710128766bb3b0e86"), looks := false }, kinds := [], alts := [], laidByText := true, laidKinds := [.data, .data], laidTests := true, laidLooks := .later }
def AreaLockedCardSaid : Prop := Claim7.holds Tryz.pinned (.plain (OpenSpec.ofChange areaLockedSpec)) areaLockedCard

/-- THE SECOND FORM's CARD OF 'triptychlaw13.AreaTexts'. -/
def areaTextsUptoCard : Claim7 := { stood := { row := areaTextsUptoRow, standIns := [], harness := (true, "766ed595ecb6e30a3638b7c54ee03d06d274b1aa15efbeb710128766bb3b0e86"), looks := false }, kinds := [], alts := [], laidByText := true, laidKinds := [.data, .data], laidTests := true, laidLooks := .later }
def AreaTextsUptoCardSaid : Prop := Claim7.holds Tryz.pinned (.plain (OpenSpec.upto areaTextsSpec)) areaTextsUptoCard

/-- THE SECOND FORM's CARD OF 'triptychlaw13.AreaErrors'. -/
def areaErrorsUptoCard : Claim7 := { stood := { row := areaErrorsUptoRow, standIns := [], harness := (true, "766ed595ecb6e30a3638b7c54ee03d06d274b1aa15efbeb710128766bb3b0e86"), looks := false }, kinds := [], alts := [], laidByText := true, laidKinds := [.data, .data], laidTests := true, laidLooks := .later }
def AreaErrorsUptoCardSaid : Prop := Claim7.holds Tryz.pinned (.plain (OpenSpec.upto areaErrorsSpec)) areaErrorsUptoCard

/-- THE SECOND FORM's CARD OF 'triptychlaw13.AreaLocked'. -/
def areaLockedUptoCard : Claim7 := { stood := { row := areaLockedUptoRow, standIns := [], harness := (true, "766ed595ecb6e30a3638b7c54ee03d06d274b1aa15efbeb710128766bb3b0e86"), looks := false }, kinds := [], alts := [], laidByText := true, laidKinds := [.data, .data], laidTests := true, laidLooks := .later }
def AreaLockedUptoCardSaid : Prop := Claim7.holds Tryz.pinned (.plain (OpenSpec.upto areaLockedSpec)) areaLockedUptoCard
end Rows
end Go.Proofs.YtojimgbcghiblaaGreatDoor
