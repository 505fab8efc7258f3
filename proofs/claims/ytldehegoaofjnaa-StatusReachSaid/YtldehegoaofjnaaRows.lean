/-
  No cell of these rows narrows 'for every input' (looked for: loops, veiled, ifaces, maps, wideKeys, modest, calm, conditions, laid).
  DERIVED. THE GIVEN ROWS OF THIS SEAT. 6 by the template 'for every input the law returns true; each argument reads behind the call as it read before'; 0 by the template 'total and deterministic' (their statements: YtldehegoaofjnaaTotals.lean).
  GIVEN WITH THE SEED: the statements are not yours to turn. If you find one false, say at which input.
  Laid BY PROGRAM, IN A SANDBOX (cutbox-rows.mjs): the forced cells as the released guide's own fill.sh prints them over the translation 8f7fb6822e11d1f5… (all of the seat's roots in one cut). By AI agents, Wed Nov 11 2026. No macro, syntax, notation, axiom, sorry.
-/
import Derived.Test.YtldehegoaofjnaaChecked
import GoSem.Claim
import GoSem.ClaimJoined
import GoSem.ClaimMapViews
import Derived.JoinedTies
import Derived.KernelRfl
namespace Go.Proofs.Ytldehegoaofjnaa
/- THE CELL 'sum', in the pinned program and in every row, IS THE sha256 OF THE DUMP (.gsa) THAT YtldehegoaofjnaaProg.lean LOADS. Nothing in Lean hashes anything: it is a label: what it is worth is what the hold of that sum in a sandbox is worth. -/
noncomputable def Try.pinned : Pinned := { name := "ytldehegoaofjnaa", sum := "8f7fb6822e11d1f57b90f4fdb04a8ce240d42d660212b977316eb15a572537f4", checked := Try.checked }
namespace Rows
def none {H : Type} : Left H := { results := [], args := [] }

/-- 'catafalquelaw09.StatusTells': WHATEVER THE INPUT: true; the input reads as it did. -/
def statusTellsSpec : ChangeSpec := { name := "statusTells", fn := fun _ => fun
  | [d1, d2, d3] => { results := [.lit (.bool true)], args := [d1, d2, d3] }
  | _ => none }
def statusTellsRow : OpenClaim := { program := "ytldehegoaofjnaa", sum := "8f7fb6822e11d1f57b90f4fdb04a8ce240d42d660212b977316eb15a572537f4", func := "catafalque/catafalquelaw09.StatusTells", spec := "statusTells", apart := false }
def StatusTellsSaid : Prop := statusTellsRow.holds Try.pinned (OpenSpec.ofChange statusTellsSpec)

/-- ITS FALSE NEIGHBOUR: 'it returns false'. Refute it at one input. -/
def statusTellsWrong : ChangeSpec := { name := "statusTells", fn := fun _ => fun
  | [d1, d2, d3] => { results := [.lit (.bool false)], args := [d1, d2, d3] }
  | _ => none }
def StatusTellsWrongFalsely : Prop := statusTellsRow.holds Try.pinned (OpenSpec.ofChange statusTellsWrong)

/-- 'catafalquelaw09.StatusReach': WHATEVER THE INPUT: true; the input reads as it did. -/
def statusReachSpec : ChangeSpec := { name := "statusReach", fn := fun _ => fun
  | [d] => { results := [.lit (.bool true)], args := [d] }
  | _ => none }
def statusReachRow : OpenClaim := { program := "ytldehegoaofjnaa", sum := "8f7fb6822e11d1f57b90f4fdb04a8ce240d42d660212b977316eb15a572537f4", func := "catafalque/catafalquelaw09.StatusReach", spec := "statusReach", apart := false }
def StatusReachSaid : Prop := statusReachRow.holds Try.pinned (OpenSpec.ofChange statusReachSpec)

/-- ITS FALSE NEIGHBOUR: 'it returns false'. Refute it at one input. -/
def statusReachWrong : ChangeSpec := { name := "statusReach", fn := fun _ => fun
  | [d] => { results := [.lit (.bool false)], args := [d] }
  | _ => none }
def StatusReachWrongFalsely : Prop := statusReachRow.holds Try.pinned (OpenSpec.ofChange statusReachWrong)

/-- 'catafalquelaw09.StatusWalks': WHATEVER THE INPUT: true; the input reads as it did. -/
def statusWalksSpec : ChangeSpec := { name := "statusWalks", fn := fun _ => fun
  | [d1, d2] => { results := [.lit (.bool true)], args := [d1, d2] }
  | _ => none }
def statusWalksRow : OpenClaim := { program := "ytldehegoaofjnaa", sum := "8f7fb6822e11d1f57b90f4fdb04a8ce240d42d660212b977316eb15a572537f4", func := "catafalque/catafalquelaw09.StatusWalks", spec := "statusWalks", apart := false }
def StatusWalksSaid : Prop := statusWalksRow.holds Try.pinned (OpenSpec.ofChange statusWalksSpec)

/-- ITS FALSE NEIGHBOUR: 'it returns false'. Refute it at one input. -/
def statusWalksWrong : ChangeSpec := { name := "statusWalks", fn := fun _ => fun
  | [d1, d2] => { results := [.lit (.bool false)], args := [d1, d2] }
  | _ => none }
def StatusWalksWrongFalsely : Prop := statusWalksRow.holds Try.pinned (OpenSpec.ofChange statusWalksWrong)

/-- 'catafalquelaw09.StatusAble': WHATEVER THE INPUT: true; the input reads as it did. -/
def statusAbleSpec : ChangeSpec := { name := "statusAble", fn := fun _ => fun
  | [d1, d2] => { results := [.lit (.bool true)], args := [d1, d2] }
  | _ => none }
def statusAbleRow : OpenClaim := { program := "ytldehegoaofjnaa", sum := "8f7fb6822e11d1f57b90f4fdb04a8ce240d42d660212b977316eb15a572537f4", func := "catafalque/catafalquelaw09.StatusAble", spec := "statusAble", apart := false }
def StatusAbleSaid : Prop := statusAbleRow.holds Try.pinned (OpenSpec.ofChange statusAbleSpec)

/-- ITS FALSE NEIGHBOUR: 'it returns false'. Refute it at one input. -/
def statusAbleWrong : ChangeSpec := { name := "statusAble", fn := fun _ => fun
  | [d1, d2] => { results := [.lit (.bool false)], args := [d1, d2] }
  | _ => none }
def StatusAbleWrongFalsely : Prop := statusAbleRow.holds Try.pinned (OpenSpec.ofChange statusAbleWrong)

/-- 'catafalquelaw09.StatusTurned': WHATEVER THE INPUT: true; the input reads as it did. -/
def statusTurnedSpec : ChangeSpec := { name := "statusTurned", fn := fun _ => fun
  | [d1, d2, d3] => { results := [.lit (.bool true)], args := [d1, d2, d3] }
  | _ => none }
def statusTurnedRow : OpenClaim := { program := "ytldehegoaofjnaa", sum := "8f7fb6822e11d1f57b90f4fdb04a8ce240d42d660212b977316eb15a572537f4", func := "catafalque/catafalquelaw09.StatusTurned", spec := "statusTurned", apart := false }
def StatusTurnedSaid : Prop := statusTurnedRow.holds Try.pinned (OpenSpec.ofChange statusTurnedSpec)

/-- ITS FALSE NEIGHBOUR: 'it returns false'. Refute it at one input. -/
def statusTurnedWrong : ChangeSpec := { name := "statusTurned", fn := fun _ => fun
  | [d1, d2, d3] => { results := [.lit (.bool false)], args := [d1, d2, d3] }
  | _ => none }
def StatusTurnedWrongFalsely : Prop := statusTurnedRow.holds Try.pinned (OpenSpec.ofChange statusTurnedWrong)

/-- 'catafalquelaw09.StatusNames': WHATEVER THE INPUT: true; the input reads as it did. -/
def statusNamesSpec : ChangeSpec := { name := "statusNames", fn := fun _ => fun
  | [d1, d2] => { results := [.lit (.bool true)], args := [d1, d2] }
  | _ => none }
def statusNamesRow : OpenClaim := { program := "ytldehegoaofjnaa", sum := "8f7fb6822e11d1f57b90f4fdb04a8ce240d42d660212b977316eb15a572537f4", func := "catafalque/catafalquelaw09.StatusNames", spec := "statusNames", apart := false }
def StatusNamesSaid : Prop := statusNamesRow.holds Try.pinned (OpenSpec.ofChange statusNamesSpec)

/-- ITS FALSE NEIGHBOUR: 'it returns false'. Refute it at one input. -/
def statusNamesWrong : ChangeSpec := { name := "statusNames", fn := fun _ => fun
  | [d1, d2] => { results := [.lit (.bool false)], args := [d1, d2] }
  | _ => none }
def StatusNamesWrongFalsely : Prop := statusNamesRow.holds Try.pinned (OpenSpec.ofChange statusNamesWrong)

/- THE SECOND FORM. 'bulk': how many values and letters a reading holds, each counted each time it is reached (what is shared counts as often as it is met; a slice's spare places count too). A statement '..UptoSaid' is the law's where the arguments, and the package variables that the reading takes, are together of bulk at most 1048576: NARROWER than '..Said'. Prove '..Said' where nothing that the law and all that it calls make is longer than what came in: it says more and counts as full. Else prove '..UptoSaid'. A law counts once. -/
mutual
def uptoBulk {H : Type} : DataW H → Nat
  | .lit (.string bytes) => bytes.length + 1
  | .lit _ => 1
  | .nil => 1
  | .ptr d => uptoBulk d + 1
  | .slice elems spare => uptoBulkAll elems + uptoBulkAll spare + 1
  | .agg parts => uptoBulkAll parts + 1
  | .iface _ d => uptoBulk d + 1
  | .map entries => uptoBulkEntries entries + 1
  | .held _ => 1
def uptoBulkAll {H : Type} : List (DataW H) → Nat
  | [] => 0
  | d :: r => uptoBulk d + uptoBulkAll r
def uptoBulkEntries {H : Type} : List (Lit × DataW H) → Nat
  | [] => 0
  | x :: r => uptoBulkEntry x + uptoBulkEntries r
def uptoBulkEntry {H : Type} : Lit × DataW H → Nat
  | (.string bytes, d) => bytes.length + uptoBulk d + 1
  | (_, d) => uptoBulk d + 1
 end
def uptoSmall : (H : Type) → List (DataW H) → Bool := fun _ ds => decide (uptoBulkAll ds ≤ 1048576)
def OpenSpec.upto (s : _root_.Go.ChangeSpec) : _root_.Go.OpenSpec := { _root_.Go.OpenSpec.ofChange s with cond := some uptoSmall }

/-- 'catafalquelaw09.StatusTells', WHERE WHAT IT READS IS OF BULK AT MOST 1048576: true; the input reads as it did. -/
def statusTellsUptoRow : OpenClaim := { program := "ytldehegoaofjnaa", sum := "8f7fb6822e11d1f57b90f4fdb04a8ce240d42d660212b977316eb15a572537f4", func := "catafalque/catafalquelaw09.StatusTells", spec := "statusTells", apart := false, narrowed := true }
def StatusTellsUptoSaid : Prop := statusTellsUptoRow.holds Try.pinned (OpenSpec.upto statusTellsSpec)

/-- 'catafalquelaw09.StatusReach', WHERE WHAT IT READS IS OF BULK AT MOST 1048576: true; the input reads as it did. -/
def statusReachUptoRow : OpenClaim := { program := "ytldehegoaofjnaa", sum := "8f7fb6822e11d1f57b90f4fdb04a8ce240d42d660212b977316eb15a572537f4", func := "catafalque/catafalquelaw09.StatusReach", spec := "statusReach", apart := false, narrowed := true }
def StatusReachUptoSaid : Prop := statusReachUptoRow.holds Try.pinned (OpenSpec.upto statusReachSpec)

/-- 'catafalquelaw09.StatusWalks', WHERE WHAT IT READS IS OF BULK AT MOST 1048576: true; the input reads as it did. -/
def statusWalksUptoRow : OpenClaim := { program := "ytldehegoaofjnaa", sum := "8f7fb6822e11d1f57b90f4fdb04a8ce240d42d660212b977316eb15a572537f4", func := "catafalque/catafalquelaw09.StatusWalks", spec := "statusWalks", apart := false, narrowed := true }
def StatusWalksUptoSaid : Prop := statusWalksUptoRow.holds Try.pinned (OpenSpec.upto statusWalksSpec)

/-- 'catafalquelaw09.StatusAble', WHERE WHAT IT READS IS OF BULK AT MOST 1048576: true; the input reads as it did. -/
def statusAbleUptoRow : OpenClaim := { program := "ytldehegoaofjnaa", sum := "8f7fb6822e11d1f57b90f4fdb04a8ce240d42d660212b977316eb15a572537f4", func := "catafalque/catafalquelaw09.StatusAble", spec := "statusAble", apart := false, narrowed := true }
def StatusAbleUptoSaid : Prop := statusAbleUptoRow.holds Try.pinned (OpenSpec.upto statusAbleSpec)

/-- 'catafalquelaw09.StatusTurned', WHERE WHAT IT READS IS OF BULK AT MOST 1048576: true; the input reads as it did. -/
def statusTurnedUptoRow : OpenClaim := { program := "ytldehegoaofjnaa", sum := "8f7fb6822e11d1f57b90f4fdb04a8ce240d42d660212b977316eb15a572537f4", func := "catafalque/catafalquelaw09.StatusTurned", spec := "statusTurned", apart := false, narrowed := true }
def StatusTurnedUptoSaid : Prop := statusTurnedUptoRow.holds Try.pinned (OpenSpec.upto statusTurnedSpec)

/-- 'catafalquelaw09.StatusNames', WHERE WHAT IT READS IS OF BULK AT MOST 1048576: true; the input reads as it did. -/
def statusNamesUptoRow : OpenClaim := { program := "ytldehegoaofjnaa", sum := "8f7fb6822e11d1f57b90f4fdb04a8ce240d42d660212b977316eb15a572537f4", func := "catafalque/catafalquelaw09.StatusNames", spec := "statusNames", apart := false, narrowed := true }
def StatusNamesUptoSaid : Prop := statusNamesUptoRow.holds Try.pinned (OpenSpec.upto statusNamesSpec)

end Rows
end Go.Proofs.Ytldehegoaofjnaa
