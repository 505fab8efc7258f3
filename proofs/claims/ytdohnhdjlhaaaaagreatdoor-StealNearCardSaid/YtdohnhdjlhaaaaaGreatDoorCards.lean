/-
  DERIVED. GIVEN WITH THE SEED: THE CARDS: each row of YtdohnhdjlhaaaaaGreatDoorRows.lean that lists a variable, with what it lists TIED to the program's text (the seventh form; the later family's looks); each row that meets fmt, with fmt's text TOLD by the authors' own Lean function (tested against real Go, not proved from fmt's source: count such statements apart). THE CARD IS WHAT COUNTS. Prove the row's statement (the work); the ties are given (YtdohnhdjlhaaaaaGreatDoorTie.lean); close each card by the builder's one call (the guide's Derived/Test/ToyasCard.lean, 'card_holds'). Laid BY PROGRAM, IN A SANDBOX (cutbox-door.mjs). By AI agents, Wed Nov 11 2026. No macro, syntax, notation, axiom, sorry.
-/
import Derived.Test.YtdohnhdjlhaaaaaGreatDoorRows
import GoSem.ClaimSeven
namespace Go.Proofs.YtdohnhdjlhaaaaaGreatDoor
namespace Rows

/-- THE TIED CARD OF 'catafalquelaw17.StealTells'. -/
def stealTellsCard : Claim7 := { stood := { row := stealTellsRow, standIns := [], harness := (true, "7b41747a297e692de9396e0958c7f2e39af6dea9060ef4f4f52712b45d4f8c82"), looks := false }, kinds := [], alts := [], laidByText := true, laidKinds := [.data], laidTests := true, laidLooks := .later }
def StealTellsCardSaid : Prop := Claim7.holds Tryz.pinned (.plain (OpenSpec.ofChange stealTellsSpec)) stealTellsCard

/-- THE TIED CARD OF 'catafalquelaw17.StealSome'. -/
def stealSomeCard : Claim7 := { stood := { row := stealSomeRow, standIns := [], harness := (true, "7b41747a297e692de9396e0958c7f2e39af6dea9060ef4f4f52712b45d4f8c82"), looks := false }, kinds := [], alts := [], laidByText := true, laidKinds := [.data], laidTests := true, laidLooks := .later }
def StealSomeCardSaid : Prop := Claim7.holds Tryz.pinned (.plain (OpenSpec.ofChange stealSomeSpec)) stealSomeCard

/-- THE TIED CARD OF 'catafalquelaw17.StealNear'. -/
def stealNearCard : Claim7 := { stood := { row := stealNearRow, standIns := [], harness := (true, "7b41747a297e692de9396e0958c7f2e39af6dea9060ef4f4f52712b45d4f8c82"), looks := false }, kinds := [], alts := [], laidByText := true, laidKinds := [.data], laidTests := true, laidLooks := .later }
def StealNearCardSaid : Prop := Claim7.holds Tryz.pinned (.plain (OpenSpec.ofChange stealNearSpec)) stealNearCard

/-- THE TIED CARD OF 'catafalquelaw17.StealOthers'. -/
def stealOthersCard : Claim7 := { stood := { row := stealOthersRow, standIns := [], harness := (true, "7b41747a297e692de9396e0958c7f2e39af6dea9060ef4f4f52712b45d4f8c82"), looks := false }, kinds := [], alts := [], laidByText := true, laidKinds := [.data], laidTests := true, laidLooks := .later }
def StealOthersCardSaid : Prop := Claim7.holds Tryz.pinned (.plain (OpenSpec.ofChange stealOthersSpec)) stealOthersCard

/-- THE TIED CARD OF 'catafalquelaw17.StealHalf'. -/
def stealHalfCard : Claim7 := { stood := { row := stealHalfRow, standIns := [], harness := (true, "7b41747a297e692de9396e0958c7f2e39af6dea9060ef4f4f52712b45d4f8c82"), looks := false }, kinds := [], alts := [], laidByText := true, laidKinds := [.data], laidTests := true, laidLooks := .later }
def StealHalfCardSaid : Prop := Claim7.holds Tryz.pinned (.plain (OpenSpec.ofChange stealHalfSpec)) stealHalfCard

/-- THE TIED CARD OF 'catafalquelaw17.StealVictims'. -/
def stealVictimsCard : Claim7 := { stood := { row := stealVictimsRow, standIns := [], harness := (true, "7b41747a297e692de9396e0958c7f2e39af6dea9060ef4f4f52712b45d4f8c82"), looks := false }, kinds := [], alts := [], laidByText := true, laidKinds := [.data], laidTests := true, laidLooks := .later }
def StealVictimsCardSaid : Prop := Claim7.holds Tryz.pinned (.plain (OpenSpec.ofChange stealVictimsSpec)) stealVictimsCard

/-- THE SECOND FORM's CARD OF 'catafalquelaw17.StealTells'. -/
def stealTellsUptoCard : Claim7 := { stood := { row := stealTellsUptoRow, standIns := [], harness := (true, "7b41747a297e692de9396e0958c7f2e39af6dea9060ef4f4f52712b45d4f8c82"), looks := false }, kinds := [], alts := [], laidByText := true, laidKinds := [.data], laidTests := true, laidLooks := .later }
def StealTellsUptoCardSaid : Prop := Claim7.holds Tryz.pinned (.plain (OpenSpec.upto stealTellsSpec)) stealTellsUptoCard

/-- THE SECOND FORM's CARD OF 'catafalquelaw17.StealSome'. -/
def stealSomeUptoCard : Claim7 := { stood := { row := stealSomeUptoRow, standIns := [], harness := (true, "7b41747a297e692de9396e0958c7f2e39af6dea9060ef4f4f52712b45d4f8c82"), looks := false }, kinds := [], alts := [], laidByText := true, laidKinds := [.data], laidTests := true, laidLooks := .later }
def StealSomeUptoCardSaid : Prop := Claim7.holds Tryz.pinned (.plain (OpenSpec.upto stealSomeSpec)) stealSomeUptoCard

/-- THE SECOND FORM's CARD OF 'catafalquelaw17.StealNear'. -/
def stealNearUptoCard : Claim7 := { stood := { row := stealNearUptoRow, standIns := [], harness := (true, "7b41747a297e692de9396e0958c7f2e39af6dea9060ef4f4f52712b45d4f8c82"), looks := false }, kinds := [], alts := [], laidByText := true, laidKinds := [.data], laidTests := true, laidLooks := .later }
def StealNearUptoCardSaid : Prop := Claim7.holds Tryz.pinned (.plain (OpenSpec.upto stealNearSpec)) stealNearUptoCard

/-- THE SECOND FORM's CARD OF 'catafalquelaw17.StealOthers'. -/
def stealOthersUptoCard : Claim7 := { stood := { row := stealOthersUptoRow, standIns := [], harness := (true, "7b41747a297e692de9396e0958c7f2e39af6dea9060ef4f4f52712b45d4f8c82"), looks := false }, kinds := [], alts := [], laidByText := true, laidKinds := [.data], laidTests := true, laidLooks := .later }
def StealOthersUptoCardSaid : Prop := Claim7.holds Tryz.pinned (.plain (OpenSpec.upto stealOthersSpec)) stealOthersUptoCard

/-- THE SECOND FORM's CARD OF 'catafalquelaw17.StealHalf'. -/
def stealHalfUptoCard : Claim7 := { stood := { row := stealHalfUptoRow, standIns := [], harness := (true, "7b41747a297e692de9396e0958c7f2e39af6dea9060ef4f4f52712b45d4f8c82"), looks := false }, kinds := [], alts := [], laidByText := true, laidKinds := [.data], laidTests := true, laidLooks := .later }
def StealHalfUptoCardSaid : Prop := Claim7.holds Tryz.pinned (.plain (OpenSpec.upto stealHalfSpec)) stealHalfUptoCard

/-- THE SECOND FORM's CARD OF 'catafalquelaw17.StealVictims'. -/
def stealVictimsUptoCard : Claim7 := { stood := { row := stealVictimsUptoRow, standIns := [], harness := (true, "7b41747a297e692de9396e0958c7f2e39af6dea9060ef4f4f52712b45d4f8c82"), looks := false }, kinds := [], alts := [], laidByText := true, laidKinds := [.data], laidTests := true, laidLooks := .later }
def StealVictimsUptoCardSaid : Prop := Claim7.holds Tryz.pinned (.plain (OpenSpec.upto stealVictimsSpec)) stealVictimsUptoCard
end Rows
end Go.Proofs.YtdohnhdjlhaaaaaGreatDoor
