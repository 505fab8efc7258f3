/-
  DERIVED. GIVEN WITH THE SEED: THE CARDS: each row of YtcoccegmkcdeiaaDoorRows.lean that lists a variable, with what it lists TIED to the program's text (the seventh form; the later family's looks); each row that meets fmt, with fmt's text TOLD by the authors' own Lean function (tested against real Go, not proved from fmt's source: count such statements apart). THE CARD IS WHAT COUNTS. Prove the row's statement (the work); the ties are given (YtcoccegmkcdeiaaDoorTie.lean); close each card by the builder's one call (the guide's Derived/Test/ToyasCard.lean, 'card_holds'). Laid BY PROGRAM, IN A SANDBOX (cutbox-door.mjs). By AI agents, Wed Nov 11 2026. No macro, syntax, notation, axiom, sorry.
-/
import Derived.Test.YtcoccegmkcdeiaaDoorRows
import GoSem.ClaimSeven
namespace Go.Proofs.YtcoccegmkcdeiaaDoor
namespace Rows

/-- THE TIED CARD OF 'catafalquelaw20.PlugBack'. -/
def plugBackCard : Claim7 := { stood := { row := plugBackRow, standIns := [], harness := (true, "d1eda8ea023d47f6fb10b97c94063316290a7f70c854290793ea69cdd66a5b14"), looks := false }, kinds := [], alts := [], laidByText := true, laidKinds := [.data], laidTests := true, laidLooks := .later }
def PlugBackCardSaid : Prop := Claim7.holds Tryd.pinned (.plain (OpenSpec.ofChange plugBackSpec)) plugBackCard

/-- THE TIED CARD OF 'catafalquelaw20.PlugRow'. -/
def plugRowCard : Claim7 := { stood := { row := plugRowRow, standIns := [], harness := (true, "d1eda8ea023d47f6fb10b97c94063316290a7f70c854290793ea69cdd66a5b14"), looks := false }, kinds := [], alts := [], laidByText := true, laidKinds := [.data], laidTests := true, laidLooks := .later }
def PlugRowCardSaid : Prop := Claim7.holds Tryd.pinned (.plain (OpenSpec.ofChange plugRowSpec)) plugRowCard

/-- THE SECOND FORM's CARD OF 'catafalquelaw20.PlugBack'. -/
def plugBackUptoCard : Claim7 := { stood := { row := plugBackUptoRow, standIns := [], harness := (true, "d1eda8ea023d47f6fb10b97c94063316290a7f70c854290793ea69cdd66a5b14"), looks := false }, kinds := [], alts := [], laidByText := true, laidKinds := [.data], laidTests := true, laidLooks := .later }
def PlugBackUptoCardSaid : Prop := Claim7.holds Tryd.pinned (.plain (OpenSpec.upto plugBackSpec)) plugBackUptoCard

/-- THE SECOND FORM's CARD OF 'catafalquelaw20.PlugRow'. -/
def plugRowUptoCard : Claim7 := { stood := { row := plugRowUptoRow, standIns := [], harness := (true, "d1eda8ea023d47f6fb10b97c94063316290a7f70c854290793ea69cdd66a5b14"), looks := false }, kinds := [], alts := [], laidByText := true, laidKinds := [.data], laidTests := true, laidLooks := .later }
def PlugRowUptoCardSaid : Prop := Claim7.holds Tryd.pinned (.plain (OpenSpec.upto plugRowSpec)) plugRowUptoCard
end Rows
end Go.Proofs.YtcoccegmkcdeiaaDoor
