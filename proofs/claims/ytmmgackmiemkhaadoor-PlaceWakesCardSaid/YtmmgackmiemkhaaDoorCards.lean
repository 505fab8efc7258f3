/-
  DERIVED. GIVEN WITH THE SEED: THE CARDS: each row of YtmmgackmiemkhaaDoorRows.lean that lists a variable, with what it lists TIED to the program's text (the seventh form; the later family's looks); each row that meets fmt, with fmt's text TOLD by the authors' own Lean function (tested against real Go, not proved from fmt's source: count such statements apart). THE CARD IS WHAT COUNTS. Prove the row's statement (the work); the ties are given (YtmmgackmiemkhaaDoorTie.lean); close each card by the builder's one call (the guide's Derived/Test/ToyasCard.lean, 'card_holds'). Laid BY PROGRAM, IN A SANDBOX (cutbox-door.mjs). By AI agents, Wed Nov 11 2026. No macro, syntax, notation, axiom, sorry.
-/
import Derived.Test.YtmmgackmiemkhaaDoorRows
import GoSem.ClaimSeven
namespace Go.Proofs.YtmmgackmiemkhaaDoor
namespace Rows

/-- THE TIED CARD OF 'catafalquelaw18.PlaceWakes'. -/
def placeWakesCard : Claim7 := { stood := { row := placeWakesRow, standIns := [], harness := (true, "4f28a4b7ddb4f13bf5436f8e44d16af6a84608aff7041a66103d507e1583e44e"), looks := false }, kinds := [], alts := [], laidByText := true, laidKinds := [.data], laidTests := true, laidLooks := .later }
def PlaceWakesCardSaid : Prop := Claim7.holds Tryd.pinned (.plain (OpenSpec.ofChange placeWakesSpec)) placeWakesCard

/-- THE TIED CARD OF 'catafalquelaw18.PlaceSelf'. -/
def placeSelfCard : Claim7 := { stood := { row := placeSelfRow, standIns := [], harness := (true, "4f28a4b7ddb4f13bf5436f8e44d16af6a84608aff7041a66103d507e1583e44e"), looks := false }, kinds := [], alts := [], laidByText := true, laidKinds := [.data], laidTests := true, laidLooks := .later }
def PlaceSelfCardSaid : Prop := Claim7.holds Tryd.pinned (.plain (OpenSpec.ofChange placeSelfSpec)) placeSelfCard

/-- THE SECOND FORM's CARD OF 'catafalquelaw18.PlaceWakes'. -/
def placeWakesUptoCard : Claim7 := { stood := { row := placeWakesUptoRow, standIns := [], harness := (true, "4f28a4b7ddb4f13bf5436f8e44d16af6a84608aff7041a66103d507e1583e44e"), looks := false }, kinds := [], alts := [], laidByText := true, laidKinds := [.data], laidTests := true, laidLooks := .later }
def PlaceWakesUptoCardSaid : Prop := Claim7.holds Tryd.pinned (.plain (OpenSpec.upto placeWakesSpec)) placeWakesUptoCard

/-- THE SECOND FORM's CARD OF 'catafalquelaw18.PlaceSelf'. -/
def placeSelfUptoCard : Claim7 := { stood := { row := placeSelfUptoRow, standIns := [], harness := (true, "4f28a4b7ddb4f13bf5436f8e44d16af6a84608aff7041a66103d507e1583e44e"), looks := false }, kinds := [], alts := [], laidByText := true, laidKinds := [.data], laidTests := true, laidLooks := .later }
def PlaceSelfUptoCardSaid : Prop := Claim7.holds Tryd.pinned (.plain (OpenSpec.upto placeSelfSpec)) placeSelfUptoCard
end Rows
end Go.Proofs.YtmmgackmiemkhaaDoor
