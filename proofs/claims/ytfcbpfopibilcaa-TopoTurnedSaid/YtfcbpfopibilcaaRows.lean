/-
  No cell of these rows narrows 'for every input' (looked for: loops, veiled, ifaces, maps, wideKeys, modest, calm, conditions, laid).
  DERIVED. THE GIVEN ROWS OF THIS SEAT. 6 by the template 'for every input the law returns true; each argument reads behind the call as it read before'; 0 by the template 'total and deterministic' (their statements: YtfcbpfopibilcaaTotals.lean).
  GIVEN WITH THE SEED: the statements are not yours to turn. If you find one false, say at which input.
  Laid BY PROGRAM, IN A SANDBOX (cutbox-rows.mjs): the forced cells as the released guide's own fill.sh prints them over the translation de87bd678c81b3fe… (all of the seat's roots in one cut). By AI agents, Wed Nov 11 2026. No macro, syntax, notation, axiom, sorry.
-/
import Derived.Test.YtfcbpfopibilcaaChecked
import GoSem.Claim
import GoSem.ClaimJoined
import GoSem.ClaimMapViews
import Derived.JoinedTies
import Derived.KernelRfl
namespace Go.Proofs.Ytfcbpfopibilcaa
/- THE CELL 'sum', in the pinned program and in every row, IS THE sha256 OF THE DUMP (.gsa) THAT YtfcbpfopibilcaaProg.lean LOADS. Nothing in Lean hashes anything: it is a label: what it is worth is what the hold of that sum in a sandbox is worth. -/
noncomputable def Try.pinned : Pinned := { name := "ytfcbpfopibilcaa", sum := "de87bd678c81b3fe4830bc675de8221b74089599918f7a9d3add6c42f98599da", checked := Try.checked }
namespace Rows
def none {H : Type} : Left H := { results := [], args := [] }

/-- 'catafalquelaw01.TopoTells': WHATEVER THE INPUT: true; the input reads as it did. -/
def topoTellsSpec : ChangeSpec := { name := "topoTells", fn := fun _ => fun
  | [d1, d2, d3] => { results := [.lit (.bool true)], args := [d1, d2, d3] }
  | _ => none }
def topoTellsRow : OpenClaim := { program := "ytfcbpfopibilcaa", sum := "de87bd678c81b3fe4830bc675de8221b74089599918f7a9d3add6c42f98599da", func := "catafalque/catafalquelaw01.TopoTells", spec := "topoTells", unfollowed := true, recurses := true, apart := false }
def TopoTellsSaid : Prop := topoTellsRow.holds Try.pinned (OpenSpec.ofChange topoTellsSpec)

/-- ITS FALSE NEIGHBOUR: 'it returns false'. Refute it at one input. -/
def topoTellsWrong : ChangeSpec := { name := "topoTells", fn := fun _ => fun
  | [d1, d2, d3] => { results := [.lit (.bool false)], args := [d1, d2, d3] }
  | _ => none }
def TopoTellsWrongFalsely : Prop := topoTellsRow.holds Try.pinned (OpenSpec.ofChange topoTellsWrong)

/-- 'catafalquelaw01.TopoAbove': WHATEVER THE INPUT: true; the input reads as it did. -/
def topoAboveSpec : ChangeSpec := { name := "topoAbove", fn := fun _ => fun
  | [d] => { results := [.lit (.bool true)], args := [d] }
  | _ => none }
def topoAboveRow : OpenClaim := { program := "ytfcbpfopibilcaa", sum := "de87bd678c81b3fe4830bc675de8221b74089599918f7a9d3add6c42f98599da", func := "catafalque/catafalquelaw01.TopoAbove", spec := "topoAbove", unfollowed := true, recurses := true, apart := false }
def TopoAboveSaid : Prop := topoAboveRow.holds Try.pinned (OpenSpec.ofChange topoAboveSpec)

/-- ITS FALSE NEIGHBOUR: 'it returns false'. Refute it at one input. -/
def topoAboveWrong : ChangeSpec := { name := "topoAbove", fn := fun _ => fun
  | [d] => { results := [.lit (.bool false)], args := [d] }
  | _ => none }
def TopoAboveWrongFalsely : Prop := topoAboveRow.holds Try.pinned (OpenSpec.ofChange topoAboveWrong)

/-- 'catafalquelaw01.TopoKids': WHATEVER THE INPUT: true; the input reads as it did. -/
def topoKidsSpec : ChangeSpec := { name := "topoKids", fn := fun _ => fun
  | [d] => { results := [.lit (.bool true)], args := [d] }
  | _ => none }
def topoKidsRow : OpenClaim := { program := "ytfcbpfopibilcaa", sum := "de87bd678c81b3fe4830bc675de8221b74089599918f7a9d3add6c42f98599da", func := "catafalque/catafalquelaw01.TopoKids", spec := "topoKids", unfollowed := true, recurses := true, apart := false }
def TopoKidsSaid : Prop := topoKidsRow.holds Try.pinned (OpenSpec.ofChange topoKidsSpec)

/-- ITS FALSE NEIGHBOUR: 'it returns false'. Refute it at one input. -/
def topoKidsWrong : ChangeSpec := { name := "topoKids", fn := fun _ => fun
  | [d] => { results := [.lit (.bool false)], args := [d] }
  | _ => none }
def TopoKidsWrongFalsely : Prop := topoKidsRow.holds Try.pinned (OpenSpec.ofChange topoKidsWrong)

/-- 'catafalquelaw01.TopoTurned': WHATEVER THE INPUT: true; the input reads as it did. -/
def topoTurnedSpec : ChangeSpec := { name := "topoTurned", fn := fun _ => fun
  | [d1, d2] => { results := [.lit (.bool true)], args := [d1, d2] }
  | _ => none }
def topoTurnedRow : OpenClaim := { program := "ytfcbpfopibilcaa", sum := "de87bd678c81b3fe4830bc675de8221b74089599918f7a9d3add6c42f98599da", func := "catafalque/catafalquelaw01.TopoTurned", spec := "topoTurned", unfollowed := true, recurses := true, apart := false }
def TopoTurnedSaid : Prop := topoTurnedRow.holds Try.pinned (OpenSpec.ofChange topoTurnedSpec)

/-- ITS FALSE NEIGHBOUR: 'it returns false'. Refute it at one input. -/
def topoTurnedWrong : ChangeSpec := { name := "topoTurned", fn := fun _ => fun
  | [d1, d2] => { results := [.lit (.bool false)], args := [d1, d2] }
  | _ => none }
def TopoTurnedWrongFalsely : Prop := topoTurnedRow.holds Try.pinned (OpenSpec.ofChange topoTurnedWrong)

/-- 'catafalquelaw01.TopoProcs': WHATEVER THE INPUT: true; the input reads as it did. -/
def topoProcsSpec : ChangeSpec := { name := "topoProcs", fn := fun _ => fun
  | [d] => { results := [.lit (.bool true)], args := [d] }
  | _ => none }
def topoProcsRow : OpenClaim := { program := "ytfcbpfopibilcaa", sum := "de87bd678c81b3fe4830bc675de8221b74089599918f7a9d3add6c42f98599da", func := "catafalque/catafalquelaw01.TopoProcs", spec := "topoProcs", unfollowed := true, recurses := true, apart := false }
def TopoProcsSaid : Prop := topoProcsRow.holds Try.pinned (OpenSpec.ofChange topoProcsSpec)

/-- ITS FALSE NEIGHBOUR: 'it returns false'. Refute it at one input. -/
def topoProcsWrong : ChangeSpec := { name := "topoProcs", fn := fun _ => fun
  | [d] => { results := [.lit (.bool false)], args := [d] }
  | _ => none }
def TopoProcsWrongFalsely : Prop := topoProcsRow.holds Try.pinned (OpenSpec.ofChange topoProcsWrong)

/-- 'catafalquelaw01.TopoBounds': WHATEVER THE INPUT: true; the input reads as it did. -/
def topoBoundsSpec : ChangeSpec := { name := "topoBounds", fn := fun _ => fun
  | [d1, d2] => { results := [.lit (.bool true)], args := [d1, d2] }
  | _ => none }
def topoBoundsRow : OpenClaim := { program := "ytfcbpfopibilcaa", sum := "de87bd678c81b3fe4830bc675de8221b74089599918f7a9d3add6c42f98599da", func := "catafalque/catafalquelaw01.TopoBounds", spec := "topoBounds", unfollowed := true, recurses := true, apart := false }
def TopoBoundsSaid : Prop := topoBoundsRow.holds Try.pinned (OpenSpec.ofChange topoBoundsSpec)

/-- ITS FALSE NEIGHBOUR: 'it returns false'. Refute it at one input. -/
def topoBoundsWrong : ChangeSpec := { name := "topoBounds", fn := fun _ => fun
  | [d1, d2] => { results := [.lit (.bool false)], args := [d1, d2] }
  | _ => none }
def TopoBoundsWrongFalsely : Prop := topoBoundsRow.holds Try.pinned (OpenSpec.ofChange topoBoundsWrong)

/- THE SECOND FORM. 'bulk': how many values and letters a reading holds, each counted each time it is reached (what is shared counts as often as it is met; a slice's spare places count too). A statement '..UptoSaid' is the law's where the arguments, and the package variables that the reading takes, are together of bulk at most 1048576: NARROWER than '..Said'. Prove '..Said' where nothing that the law and all that it calls make is longer than what came in: it says more and counts as full. Else prove '..UptoSaid'. A law counts once. -/
mutual
def uptoBulk {H : Type} : DataW H → Nat
  | .lit (.string bytes) => bytes.length + 1
  | .lit _ => 1
  | .nil => 1
  | .ptr d => uptoBulk d + 1
  | .slice elems spare => uptoBulkAll elems + uptoBulkAll spare + 1
  | .agg parts => uptoBulkAll parts + 1
  | .iface _ d => uptoBulk d + 1
  | .map entries => uptoBulkEntries entries + 1
  | .held _ => 1
def uptoBulkAll {H : Type} : List (DataW H) → Nat
  | [] => 0
  | d :: r => uptoBulk d + uptoBulkAll r
def uptoBulkEntries {H : Type} : List (Lit × DataW H) → Nat
  | [] => 0
  | x :: r => uptoBulkEntry x + uptoBulkEntries r
def uptoBulkEntry {H : Type} : Lit × DataW H → Nat
  | (.string bytes, d) => bytes.length + uptoBulk d + 1
  | (_, d) => uptoBulk d + 1
 end
def uptoSmall : (H : Type) → List (DataW H) → Bool := fun _ ds => decide (uptoBulkAll ds ≤ 1048576)
def OpenSpec.upto (s : _root_.Go.ChangeSpec) : _root_.Go.OpenSpec := { _root_.Go.OpenSpec.ofChange s with cond := some uptoSmall }

/-- 'catafalquelaw01.TopoTells', WHERE WHAT IT READS IS OF BULK AT MOST 1048576: true; the input reads as it did. -/
def topoTellsUptoRow : OpenClaim := { program := "ytfcbpfopibilcaa", sum := "de87bd678c81b3fe4830bc675de8221b74089599918f7a9d3add6c42f98599da", func := "catafalque/catafalquelaw01.TopoTells", spec := "topoTells", unfollowed := true, recurses := true, apart := false, narrowed := true }
def TopoTellsUptoSaid : Prop := topoTellsUptoRow.holds Try.pinned (OpenSpec.upto topoTellsSpec)

/-- 'catafalquelaw01.TopoAbove', WHERE WHAT IT READS IS OF BULK AT MOST 1048576: true; the input reads as it did. -/
def topoAboveUptoRow : OpenClaim := { program := "ytfcbpfopibilcaa", sum := "de87bd678c81b3fe4830bc675de8221b74089599918f7a9d3add6c42f98599da", func := "catafalque/catafalquelaw01.TopoAbove", spec := "topoAbove", unfollowed := true, recurses := true, apart := false, narrowed := true }
def TopoAboveUptoSaid : Prop := topoAboveUptoRow.holds Try.pinned (OpenSpec.upto topoAboveSpec)

/-- 'catafalquelaw01.TopoKids', WHERE WHAT IT READS IS OF BULK AT MOST 1048576: true; the input reads as it did. -/
def topoKidsUptoRow : OpenClaim := { program := "ytfcbpfopibilcaa", sum := "de87bd678c81b3fe4830bc675de8221b74089599918f7a9d3add6c42f98599da", func := "catafalque/catafalquelaw01.TopoKids", spec := "topoKids", unfollowed := true, recurses := true, apart := false, narrowed := true }
def TopoKidsUptoSaid : Prop := topoKidsUptoRow.holds Try.pinned (OpenSpec.upto topoKidsSpec)

/-- 'catafalquelaw01.TopoTurned', WHERE WHAT IT READS IS OF BULK AT MOST 1048576: true; the input reads as it did. -/
def topoTurnedUptoRow : OpenClaim := { program := "ytfcbpfopibilcaa", sum := "de87bd678c81b3fe4830bc675de8221b74089599918f7a9d3add6c42f98599da", func := "catafalque/catafalquelaw01.TopoTurned", spec := "topoTurned", unfollowed := true, recurses := true, apart := false, narrowed := true }
def TopoTurnedUptoSaid : Prop := topoTurnedUptoRow.holds Try.pinned (OpenSpec.upto topoTurnedSpec)

/-- 'catafalquelaw01.TopoProcs', WHERE WHAT IT READS IS OF BULK AT MOST 1048576: true; the input reads as it did. -/
def topoProcsUptoRow : OpenClaim := { program := "ytfcbpfopibilcaa", sum := "de87bd678c81b3fe4830bc675de8221b74089599918f7a9d3add6c42f98599da", func := "catafalque/catafalquelaw01.TopoProcs", spec := "topoProcs", unfollowed := true, recurses := true, apart := false, narrowed := true }
def TopoProcsUptoSaid : Prop := topoProcsUptoRow.holds Try.pinned (OpenSpec.upto topoProcsSpec)

/-- 'catafalquelaw01.TopoBounds', WHERE WHAT IT READS IS OF BULK AT MOST 1048576: true; the input reads as it did. -/
def topoBoundsUptoRow : OpenClaim := { program := "ytfcbpfopibilcaa", sum := "de87bd678c81b3fe4830bc675de8221b74089599918f7a9d3add6c42f98599da", func := "catafalque/catafalquelaw01.TopoBounds", spec := "topoBounds", unfollowed := true, recurses := true, apart := false, narrowed := true }
def TopoBoundsUptoSaid : Prop := topoBoundsUptoRow.holds Try.pinned (OpenSpec.upto topoBoundsSpec)

end Rows
end Go.Proofs.Ytfcbpfopibilcaa
