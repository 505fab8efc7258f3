/-
  DERIVED. GIVEN WITH THE SEED: THE CARDS: each row of YtinmmcikhjacoaaDoorRows.lean that lists a variable, with what it lists TIED to the program's text (the seventh form; the later family's looks); each row that meets fmt, with fmt's text TOLD by the authors' own Lean function (tested against real Go, not proved from fmt's source: count such statements apart). THE CARD IS WHAT COUNTS. Prove the row's statement (the work); the ties are given (YtinmmcikhjacoaaDoorTie.lean); close each card by the builder's one call (the guide's Derived/Test/ToyasCard.lean, 'card_holds'). Laid BY PROGRAM, IN A SANDBOX (cutbox-door.mjs). By AI agents, Wed Nov 11 2026. No macro, syntax, notation, axiom, sorry.
-/
import Derived.Test.YtinmmcikhjacoaaDoorRows
import GoSem.ClaimSeven
namespace Go.Proofs.YtinmmcikhjacoaaDoor
namespace Rows

/-- THE TIED CARD OF 'catafalquelaw16.FindLocals'. -/
def findLocalsCard : Claim7 := { stood := { row := findLocalsRow, standIns := [], harness := (true, "7beff4ffcd486fd3a0009d571bda44d142aa41c26166d186d56430dd5e90ec04"), looks := false }, kinds := [], alts := [], laidByText := true, laidKinds := [.data], laidTests := true, laidLooks := .later }
def FindLocalsCardSaid : Prop := Claim7.holds Tryd.pinned (.plain (OpenSpec.ofChange findLocalsSpec)) findLocalsCard

/-- THE TIED CARD OF 'catafalquelaw16.FindSome'. -/
def findSomeCard : Claim7 := { stood := { row := findSomeRow, standIns := [], harness := (true, "7beff4ffcd486fd3a0009d571bda44d142aa41c26166d186d56430dd5e90ec04"), looks := false }, kinds := [], alts := [], laidByText := true, laidKinds := [.data], laidTests := true, laidLooks := .later }
def FindSomeCardSaid : Prop := Claim7.holds Tryd.pinned (.plain (OpenSpec.ofChange findSomeSpec)) findSomeCard

/-- THE TIED CARD OF 'catafalquelaw16.FindAll'. -/
def findAllCard : Claim7 := { stood := { row := findAllRow, standIns := [], harness := (true, "7beff4ffcd486fd3a0009d571bda44d142aa41c26166d186d56430dd5e90ec04"), looks := false }, kinds := [], alts := [], laidByText := true, laidKinds := [.data], laidTests := true, laidLooks := .later }
def FindAllCardSaid : Prop := Claim7.holds Tryd.pinned (.plain (OpenSpec.ofChange findAllSpec)) findAllCard

/-- THE TIED CARD OF 'catafalquelaw16.FindOthers'. -/
def findOthersCard : Claim7 := { stood := { row := findOthersRow, standIns := [], harness := (true, "7beff4ffcd486fd3a0009d571bda44d142aa41c26166d186d56430dd5e90ec04"), looks := false }, kinds := [], alts := [], laidByText := true, laidKinds := [.data], laidTests := true, laidLooks := .later }
def FindOthersCardSaid : Prop := Claim7.holds Tryd.pinned (.plain (OpenSpec.ofChange findOthersSpec)) findOthersCard

/-- THE TIED CARD OF 'catafalquelaw16.FindTurns'. -/
def findTurnsCard : Claim7 := { stood := { row := findTurnsRow, standIns := [], harness := (true, "7beff4ffcd486fd3a0009d571bda44d142aa41c26166d186d56430dd5e90ec04"), looks := false }, kinds := [], alts := [], laidByText := true, laidKinds := [.data], laidTests := true, laidLooks := .later }
def FindTurnsCardSaid : Prop := Claim7.holds Tryd.pinned (.plain (OpenSpec.ofChange findTurnsSpec)) findTurnsCard

/-- THE SECOND FORM's CARD OF 'catafalquelaw16.FindLocals'. -/
def findLocalsUptoCard : Claim7 := { stood := { row := findLocalsUptoRow, standIns := [], harness := (true, "7beff4ffcd486fd3a0009d571bda44d142aa41c26166d186d56430dd5e90ec04"), looks := false }, kinds := [], alts := [], laidByText := true, laidKinds := [.data], laidTests := true, laidLooks := .later }
def FindLocalsUptoCardSaid : Prop := Claim7.holds Tryd.pinned (.plain (OpenSpec.upto findLocalsSpec)) findLocalsUptoCard

/-- THE SECOND FORM's CARD OF 'catafalquelaw16.FindSome'. -/
def findSomeUptoCard : Claim7 := { stood := { row := findSomeUptoRow, standIns := [], harness := (true, "7beff4ffcd486fd3a0009d571bda44d142aa41c26166d186d56430dd5e90ec04"), looks := false }, kinds := [], alts := [], laidByText := true, laidKinds := [.data], laidTests := true, laidLooks := .later }
def FindSomeUptoCardSaid : Prop := Claim7.holds Tryd.pinned (.plain (OpenSpec.upto findSomeSpec)) findSomeUptoCard

/-- THE SECOND FORM's CARD OF 'catafalquelaw16.FindAll'. -/
def findAllUptoCard : Claim7 := { stood := { row := findAllUptoRow, standIns := [], harness := (true, "7beff4ffcd486fd3a0009d571bda44d142aa41c26166d186d56430dd5e90ec04"), looks := false }, kinds := [], alts := [], laidByText := true, laidKinds := [.data], laidTests := true, laidLooks := .later }
def FindAllUptoCardSaid : Prop := Claim7.holds Tryd.pinned (.plain (OpenSpec.upto findAllSpec)) findAllUptoCard

/-- THE SECOND FORM's CARD OF 'catafalquelaw16.FindOthers'. -/
def findOthersUptoCard : Claim7 := { stood := { row := findOthersUptoRow, standIns := [], harness := (true, "7beff4ffcd486fd3a0009d571bda44d142aa41c26166d186d56430dd5e90ec04"), looks := false }, kinds := [], alts := [], laidByText := true, laidKinds := [.data], laidTests := true, laidLooks := .later }
def FindOthersUptoCardSaid : Prop := Claim7.holds Tryd.pinned (.plain (OpenSpec.upto findOthersSpec)) findOthersUptoCard

/-- THE SECOND FORM's CARD OF 'catafalquelaw16.FindTurns'. -/
def findTurnsUptoCard : Claim7 := { stood := { row := findTurnsUptoRow, standIns := [], harness := (true, "7beff4ffcd486fd3a0009d571bda44d142aa41c26166d186d56430dd5e90ec04"), looks := false }, kinds := [], alts := [], laidByText := true, laidKinds := [.data], laidTests := true, laidLooks := .later }
def FindTurnsUptoCardSaid : Prop := Claim7.holds Tryd.pinned (.plain (OpenSpec.upto findTurnsSpec)) findTurnsUptoCard
end Rows
end Go.Proofs.YtinmmcikhjacoaaDoor
