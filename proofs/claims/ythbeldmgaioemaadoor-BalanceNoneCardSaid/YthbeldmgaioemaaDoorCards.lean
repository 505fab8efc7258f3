/-
  DERIVED. GIVEN WITH THE SEED: THE CARDS: each row of YthbeldmgaioemaaDoorRows.lean that lists a variable, with what it lists TIED to the program's text (the seventh form; the later family's looks); each row that meets fmt, with fmt's text TOLD by the authors' own Lean function (tested against real Go, not proved from fmt's source: count such statements apart). THE CARD IS WHAT COUNTS. Prove the row's statement (the work); the ties are given (YthbeldmgaioemaaDoorTie.lean); close each card by the builder's one call (the guide's Derived/Test/ToyasCard.lean, 'card_holds'). Laid BY PROGRAM, IN A SANDBOX (cutbox-door.mjs). By AI agents, Wed Nov 11 2026. No macro, syntax, notation, axiom, sorry.
-/
import Derived.Test.YthbeldmgaioemaaDoorRows
import GoSem.ClaimSeven
namespace Go.Proofs.YthbeldmgaioemaaDoor
namespace Rows

/-- THE TIED CARD OF 'catafalquelaw19.BalanceTells'. -/
def balanceTellsCard : Claim7 := { stood := { row := balanceTellsRow, standIns := [], harness := (true, "47d18ff1fe0cde775a3b03c7d93bb6953d60431efeafb4cdc41059a2a5784ce7"), looks := false }, kinds := [], alts := [], laidByText := true, laidKinds := [.data], laidTests := true, laidLooks := .later }
def BalanceTellsCardSaid : Prop := Claim7.holds Tryd.pinned (.plain (OpenSpec.ofChange balanceTellsSpec)) balanceTellsCard

/-- THE TIED CARD OF 'catafalquelaw19.BalanceKeeps'. -/
def balanceKeepsCard : Claim7 := { stood := { row := balanceKeepsRow, standIns := [], harness := (true, "47d18ff1fe0cde775a3b03c7d93bb6953d60431efeafb4cdc41059a2a5784ce7"), looks := false }, kinds := [], alts := [], laidByText := true, laidKinds := [.data], laidTests := true, laidLooks := .later }
def BalanceKeepsCardSaid : Prop := Claim7.holds Tryd.pinned (.plain (OpenSpec.ofChange balanceKeepsSpec)) balanceKeepsCard

/-- THE TIED CARD OF 'catafalquelaw19.BalanceEnds'. -/
def balanceEndsCard : Claim7 := { stood := { row := balanceEndsRow, standIns := [], harness := (true, "47d18ff1fe0cde775a3b03c7d93bb6953d60431efeafb4cdc41059a2a5784ce7"), looks := false }, kinds := [], alts := [], laidByText := true, laidKinds := [.data], laidTests := true, laidLooks := .later }
def BalanceEndsCardSaid : Prop := Claim7.holds Tryd.pinned (.plain (OpenSpec.ofChange balanceEndsSpec)) balanceEndsCard

/-- THE TIED CARD OF 'catafalquelaw19.BalanceOthers'. -/
def balanceOthersCard : Claim7 := { stood := { row := balanceOthersRow, standIns := [], harness := (true, "47d18ff1fe0cde775a3b03c7d93bb6953d60431efeafb4cdc41059a2a5784ce7"), looks := false }, kinds := [], alts := [], laidByText := true, laidKinds := [.data], laidTests := true, laidLooks := .later }
def BalanceOthersCardSaid : Prop := Claim7.holds Tryd.pinned (.plain (OpenSpec.ofChange balanceOthersSpec)) balanceOthersCard

/-- THE TIED CARD OF 'catafalquelaw19.BalanceNone'. -/
def balanceNoneCard : Claim7 := { stood := { row := balanceNoneRow, standIns := [], harness := (true, "47d18ff1fe0cde775a3b03c7d93bb6953d60431efeafb4cdc41059a2a5784ce7"), looks := false }, kinds := [], alts := [], laidByText := true, laidKinds := [.data], laidTests := true, laidLooks := .later }
def BalanceNoneCardSaid : Prop := Claim7.holds Tryd.pinned (.plain (OpenSpec.ofChange balanceNoneSpec)) balanceNoneCard

/-- THE TIED CARD OF 'catafalquelaw19.BalanceRings'. -/
def balanceRingsCard : Claim7 := { stood := { row := balanceRingsRow, standIns := [], harness := (true, "47d18ff1fe0cde775a3b03c7d93bb6953d60431efeafb4cdc41059a2a5784ce7"), looks := false }, kinds := [], alts := [], laidByText := true, laidKinds := [.data], laidTests := true, laidLooks := .later }
def BalanceRingsCardSaid : Prop := Claim7.holds Tryd.pinned (.plain (OpenSpec.ofChange balanceRingsSpec)) balanceRingsCard

/-- THE SECOND FORM's CARD OF 'catafalquelaw19.BalanceTells'. -/
def balanceTellsUptoCard : Claim7 := { stood := { row := balanceTellsUptoRow, standIns := [], harness := (true, "47d18ff1fe0cde775a3b03c7d93bb6953d60431efeafb4cdc41059a2a5784ce7"), looks := false }, kinds := [], alts := [], laidByText := true, laidKinds := [.data], laidTests := true, laidLooks := .later }
def BalanceTellsUptoCardSaid : Prop := Claim7.holds Tryd.pinned (.plain (OpenSpec.upto balanceTellsSpec)) balanceTellsUptoCard

/-- THE SECOND FORM's CARD OF 'catafalquelaw19.BalanceKeeps'. -/
def balanceKeepsUptoCard : Claim7 := { stood := { row := balanceKeepsUptoRow, standIns := [], harness := (true, "47d18ff1fe0cde775a3b03c7d93bb6953d60431efeafb4cdc41059a2a5784ce7"), looks := false }, kinds := [], alts := [], laidByText := true, laidKinds := [.data], laidTests := true, laidLooks := .later }
def BalanceKeepsUptoCardSaid : Prop := Claim7.holds Tryd.pinned (.plain (OpenSpec.upto balanceKeepsSpec)) balanceKeepsUptoCard

/-- THE SECOND FORM's CARD OF 'catafalquelaw19.BalanceEnds'. -/
def balanceEndsUptoCard : Claim7 := { stood := { row := balanceEndsUptoRow, standIns := [], harness := (true, "47d18ff1fe0cde775a3b03c7d93bb6953d60431efeafb4cdc41059a2a5784ce7"), looks := false }, kinds := [], alts := [], laidByText := true, laidKinds := [.data], laidTests := true, laidLooks := .later }
def BalanceEndsUptoCardSaid : Prop := Claim7.holds Tryd.pinned (.plain (OpenSpec.upto balanceEndsSpec)) balanceEndsUptoCard

/-- THE SECOND FORM's CARD OF 'catafalquelaw19.BalanceOthers'. -/
def balanceOthersUptoCard : Claim7 := { stood := { row := balanceOthersUptoRow, standIns := [], harness := (true, "47d18ff1fe0cde775a3b03c7d93bb6953d60431efeafb4cdc41059a2a5784ce7"), looks := false }, kinds := [], alts := [], laidByText := true, laidKinds := [.data], laidTests := true, laidLooks := .later }
def BalanceOthersUptoCardSaid : Prop := Claim7.holds Tryd.pinned (.plain (OpenSpec.upto balanceOthersSpec)) balanceOthersUptoCard

/-- THE SECOND FORM's CARD OF 'catafalquelaw19.BalanceNone'. -/
def balanceNoneUptoCard : Claim7 := { stood := { row := balanceNoneUptoRow, standIns := [], harness := (true, "47d18ff1fe0cde775a3b03c7d93bb6953d60431efeafb4cdc41059a2a5784ce7"), looks := false }, kinds := [], alts := [], laidByText := true, laidKinds := [.data], laidTests := true, laidLooks := .later }
def BalanceNoneUptoCardSaid : Prop := Claim7.holds Tryd.pinned (.plain (OpenSpec.upto balanceNoneSpec)) balanceNoneUptoCard

/-- THE SECOND FORM's CARD OF 'catafalquelaw19.BalanceRings'. -/
def balanceRingsUptoCard : Claim7 := { stood := { row := balanceRingsUptoRow, standIns := [], harness := (true, "47d18ff1fe0cde775a3b03c7d93bb6953d60431efeafb4cdc41059a2a5784ce7"), looks := false }, kinds := [], alts := [], laidByText := true, laidKinds := [.data], laidTests := true, laidLooks := .later }
def BalanceRingsUptoCardSaid : Prop := Claim7.holds Tryd.pinned (.plain (OpenSpec.upto balanceRingsSpec)) balanceRingsUptoCard
end Rows
end Go.Proofs.YthbeldmgaioemaaDoor
