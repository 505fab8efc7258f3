/-
  DERIVED. GIVEN WITH THE SEED: THE CARDS: each row of YtgloibgmaiadfaaDoorRows.lean that lists a variable, with what it lists TIED to the program's text (the seventh form; the later family's looks); each row that meets fmt, with fmt's text TOLD by the authors' own Lean function (tested against real Go, not proved from fmt's source: count such statements apart). THE CARD IS WHAT COUNTS. Prove the row's statement (the work); the ties are given (YtgloibgmaiadfaaDoorTie.lean); close each card by the builder's one call (the guide's Derived/Test/ToyasCard.lean, 'card_holds'). Laid BY PROGRAM, IN A SANDBOX (cutbox-door.mjs). By AI agents, Wed Nov 11 2026. No macro, syntax, notation, axiom, sorry.
-/
import Derived.Test.YtgloibgmaiadfaaDoorRows
import GoSem.ClaimSeven
namespace Go.Proofs.YtgloibgmaiadfaaDoor
namespace Rows

/-- THE TIED CARD OF 'catafalquelaw15.RunsNew'. -/
def runsNewCard : Claim7 := { stood := { row := runsNewRow, standIns := [], harness := (true, "fecc3ee0edd03ae7e23ca51113fad99f8c180c1964be5d33c0e7982a71d1a491"), looks := false }, kinds := [], alts := [], laidByText := true, laidKinds := [.data], laidTests := true, laidLooks := .later }
def RunsNewCardSaid : Prop := Claim7.holds Tryd.pinned (.plain (OpenSpec.ofChange runsNewSpec)) runsNewCard

/-- THE TIED CARD OF 'catafalquelaw15.RunsKeeps'. -/
def runsKeepsCard : Claim7 := { stood := { row := runsKeepsRow, standIns := [], harness := (true, "fecc3ee0edd03ae7e23ca51113fad99f8c180c1964be5d33c0e7982a71d1a491"), looks := false }, kinds := [], alts := [], laidByText := true, laidKinds := [.data], laidTests := true, laidLooks := .later }
def RunsKeepsCardSaid : Prop := Claim7.holds Tryd.pinned (.plain (OpenSpec.ofChange runsKeepsSpec)) runsKeepsCard

/-- THE TIED CARD OF 'catafalquelaw15.RunsWhere'. -/
def runsWhereCard : Claim7 := { stood := { row := runsWhereRow, standIns := [], harness := (true, "fecc3ee0edd03ae7e23ca51113fad99f8c180c1964be5d33c0e7982a71d1a491"), looks := false }, kinds := [], alts := [], laidByText := true, laidKinds := [.data], laidTests := true, laidLooks := .later }
def RunsWhereCardSaid : Prop := Claim7.holds Tryd.pinned (.plain (OpenSpec.ofChange runsWhereSpec)) runsWhereCard

/-- THE TIED CARD OF 'catafalquelaw15.RunsLast'. -/
def runsLastCard : Claim7 := { stood := { row := runsLastRow, standIns := [], harness := (true, "fecc3ee0edd03ae7e23ca51113fad99f8c180c1964be5d33c0e7982a71d1a491"), looks := false }, kinds := [], alts := [], laidByText := true, laidKinds := [.data], laidTests := true, laidLooks := .later }
def RunsLastCardSaid : Prop := Claim7.holds Tryd.pinned (.plain (OpenSpec.ofChange runsLastSpec)) runsLastCard

/-- THE TIED CARD OF 'catafalquelaw15.RunsFills'. -/
def runsFillsCard : Claim7 := { stood := { row := runsFillsRow, standIns := [], harness := (true, "fecc3ee0edd03ae7e23ca51113fad99f8c180c1964be5d33c0e7982a71d1a491"), looks := false }, kinds := [], alts := [], laidByText := true, laidKinds := [.data], laidTests := true, laidLooks := .later }
def RunsFillsCardSaid : Prop := Claim7.holds Tryd.pinned (.plain (OpenSpec.ofChange runsFillsSpec)) runsFillsCard

/-- THE SECOND FORM's CARD OF 'catafalquelaw15.RunsNew'. -/
def runsNewUptoCard : Claim7 := { stood := { row := runsNewUptoRow, standIns := [], harness := (true, "fecc3ee0edd03ae7e23ca51113fad99f8c180c1964be5d33c0e7982a71d1a491"), looks := false }, kinds := [], alts := [], laidByText := true, laidKinds := [.data], laidTests := true, laidLooks := .later }
def RunsNewUptoCardSaid : Prop := Claim7.holds Tryd.pinned (.plain (OpenSpec.upto runsNewSpec)) runsNewUptoCard

/-- THE SECOND FORM's CARD OF 'catafalquelaw15.RunsKeeps'. -/
def runsKeepsUptoCard : Claim7 := { stood := { row := runsKeepsUptoRow, standIns := [], harness := (true, "fecc3ee0edd03ae7e23ca51113fad99f8c180c1964be5d33c0e7982a71d1a491"), looks := false }, kinds := [], alts := [], laidByText := true, laidKinds := [.data], laidTests := true, laidLooks := .later }
def RunsKeepsUptoCardSaid : Prop := Claim7.holds Tryd.pinned (.plain (OpenSpec.upto runsKeepsSpec)) runsKeepsUptoCard

/-- THE SECOND FORM's CARD OF 'catafalquelaw15.RunsWhere'. -/
def runsWhereUptoCard : Claim7 := { stood := { row := runsWhereUptoRow, standIns := [], harness := (true, "fecc3ee0edd03ae7e23ca51113fad99f8c180c1964be5d33c0e7982a71d1a491"), looks := false }, kinds := [], alts := [], laidByText := true, laidKinds := [.data], laidTests := true, laidLooks := .later }
def RunsWhereUptoCardSaid : Prop := Claim7.holds Tryd.pinned (.plain (OpenSpec.upto runsWhereSpec)) runsWhereUptoCard

/-- THE SECOND FORM's CARD OF 'catafalquelaw15.RunsLast'. -/
def runsLastUptoCard : Claim7 := { stood := { row := runsLastUptoRow, standIns := [], harness := (true, "fecc3ee0edd03ae7e23ca51113fad99f8c180c1964be5d33c0e7982a71d1a491"), looks := false }, kinds := [], alts := [], laidByText := true, laidKinds := [.data], laidTests := true, laidLooks := .later }
def RunsLastUptoCardSaid : Prop := Claim7.holds Tryd.pinned (.plain (OpenSpec.upto runsLastSpec)) runsLastUptoCard

/-- THE SECOND FORM's CARD OF 'catafalquelaw15.RunsFills'. -/
def runsFillsUptoCard : Claim7 := { stood := { row := runsFillsUptoRow, standIns := [], harness := (true, "fecc3ee0edd03ae7e23ca51113fad99f8c180c1964be5d33c0e7982a71d1a491"), looks := false }, kinds := [], alts := [], laidByText := true, laidKinds := [.data], laidTests := true, laidLooks := .later }
def RunsFillsUptoCardSaid : Prop := Claim7.holds Tryd.pinned (.plain (OpenSpec.upto runsFillsSpec)) runsFillsUptoCard
end Rows
end Go.Proofs.YtgloibgmaiadfaaDoor
