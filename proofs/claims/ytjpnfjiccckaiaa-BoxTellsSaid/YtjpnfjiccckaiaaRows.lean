/-
  No cell of these rows narrows 'for every input' (looked for: loops, veiled, ifaces, maps, wideKeys, modest, calm, conditions, laid).
  DERIVED. THE GIVEN ROWS OF THIS SEAT. 5 by the template 'for every input the law returns true; each argument reads behind the call as it read before'; 0 by the template 'total and deterministic' (their statements: YtjpnfjiccckaiaaTotals.lean).
  GIVEN WITH THE SEED: the statements are not yours to turn. If you find one false, say at which input.
  Laid BY PROGRAM, IN A SANDBOX (cutbox-rows.mjs): the forced cells as the released guide's own fill.sh prints them over the translation 6ac2c1ede3b2f057… (all of the seat's roots in one cut). By AI agents, Wed Nov 11 2026. No macro, syntax, notation, axiom, sorry.
-/
import Derived.Test.YtjpnfjiccckaiaaChecked
import GoSem.Claim
import GoSem.ClaimJoined
import GoSem.ClaimMapViews
import Derived.JoinedTies
import Derived.KernelRfl
namespace Go.Proofs.Ytjpnfjiccckaiaa
/- THE CELL 'sum', in the pinned program and in every row, IS THE sha256 OF THE DUMP (.gsa) THAT YtjpnfjiccckaiaaProg.lean LOADS. Nothing in Lean hashes anything: it is a label: what it is worth is what the hold of that sum in a sandbox is worth. -/
noncomputable def Try.pinned : Pinned := { name := "ytjpnfjiccckaiaa", sum := "6ac2c1ede3b2f057b53eb922dc9c35a452772ad074f9943fcb8cda2c8e0591a3", checked := Try.checked }
namespace Rows
def none {H : Type} : Left H := { results := [], args := [] }

/-- 'catafalquelaw11.BoxTells': WHATEVER THE INPUT: true; the input reads as it did. -/
def boxTellsSpec : ChangeSpec := { name := "boxTells", fn := fun _ => fun
  | [d1, d2, d3] => { results := [.lit (.bool true)], args := [d1, d2, d3] }
  | _ => none }
def boxTellsRow : OpenClaim := { program := "ytjpnfjiccckaiaa", sum := "6ac2c1ede3b2f057b53eb922dc9c35a452772ad074f9943fcb8cda2c8e0591a3", func := "catafalque/catafalquelaw11.BoxTells", spec := "boxTells", recurses := true, apart := false }
def BoxTellsSaid : Prop := boxTellsRow.holds Try.pinned (OpenSpec.ofChange boxTellsSpec)

/-- ITS FALSE NEIGHBOUR: 'it returns false'. Refute it at one input. -/
def boxTellsWrong : ChangeSpec := { name := "boxTells", fn := fun _ => fun
  | [d1, d2, d3] => { results := [.lit (.bool false)], args := [d1, d2, d3] }
  | _ => none }
def BoxTellsWrongFalsely : Prop := boxTellsRow.holds Try.pinned (OpenSpec.ofChange boxTellsWrong)

/-- 'catafalquelaw11.BoxPlays': WHATEVER THE INPUT: true; the input reads as it did. -/
def boxPlaysSpec : ChangeSpec := { name := "boxPlays", fn := fun _ => fun
  | [d1, d2] => { results := [.lit (.bool true)], args := [d1, d2] }
  | _ => none }
def boxPlaysRow : OpenClaim := { program := "ytjpnfjiccckaiaa", sum := "6ac2c1ede3b2f057b53eb922dc9c35a452772ad074f9943fcb8cda2c8e0591a3", func := "catafalque/catafalquelaw11.BoxPlays", spec := "boxPlays", recurses := true, apart := false }
def BoxPlaysSaid : Prop := boxPlaysRow.holds Try.pinned (OpenSpec.ofChange boxPlaysSpec)

/-- ITS FALSE NEIGHBOUR: 'it returns false'. Refute it at one input. -/
def boxPlaysWrong : ChangeSpec := { name := "boxPlays", fn := fun _ => fun
  | [d1, d2] => { results := [.lit (.bool false)], args := [d1, d2] }
  | _ => none }
def BoxPlaysWrongFalsely : Prop := boxPlaysRow.holds Try.pinned (OpenSpec.ofChange boxPlaysWrong)

/-- 'catafalquelaw11.BoxWakes': WHATEVER THE INPUT: true; the input reads as it did. -/
def boxWakesSpec : ChangeSpec := { name := "boxWakes", fn := fun _ => fun
  | [d1, d2] => { results := [.lit (.bool true)], args := [d1, d2] }
  | _ => none }
def boxWakesRow : OpenClaim := { program := "ytjpnfjiccckaiaa", sum := "6ac2c1ede3b2f057b53eb922dc9c35a452772ad074f9943fcb8cda2c8e0591a3", func := "catafalque/catafalquelaw11.BoxWakes", spec := "boxWakes", apart := false }
def BoxWakesSaid : Prop := boxWakesRow.holds Try.pinned (OpenSpec.ofChange boxWakesSpec)

/-- ITS FALSE NEIGHBOUR: 'it returns false'. Refute it at one input. -/
def boxWakesWrong : ChangeSpec := { name := "boxWakes", fn := fun _ => fun
  | [d1, d2] => { results := [.lit (.bool false)], args := [d1, d2] }
  | _ => none }
def BoxWakesWrongFalsely : Prop := boxWakesRow.holds Try.pinned (OpenSpec.ofChange boxWakesWrong)

/-- 'catafalquelaw11.BoxBack': WHATEVER THE INPUT: true; the input reads as it did. -/
def boxBackSpec : ChangeSpec := { name := "boxBack", fn := fun _ => fun
  | [d1, d2] => { results := [.lit (.bool true)], args := [d1, d2] }
  | _ => none }
def boxBackRow : OpenClaim := { program := "ytjpnfjiccckaiaa", sum := "6ac2c1ede3b2f057b53eb922dc9c35a452772ad074f9943fcb8cda2c8e0591a3", func := "catafalque/catafalquelaw11.BoxBack", spec := "boxBack", apart := false }
def BoxBackSaid : Prop := boxBackRow.holds Try.pinned (OpenSpec.ofChange boxBackSpec)

/-- ITS FALSE NEIGHBOUR: 'it returns false'. Refute it at one input. -/
def boxBackWrong : ChangeSpec := { name := "boxBack", fn := fun _ => fun
  | [d1, d2] => { results := [.lit (.bool false)], args := [d1, d2] }
  | _ => none }
def BoxBackWrongFalsely : Prop := boxBackRow.holds Try.pinned (OpenSpec.ofChange boxBackWrong)

/-- 'catafalquelaw11.BoxRoomless': WHATEVER THE INPUT: true; the input reads as it did. -/
def boxRoomlessSpec : ChangeSpec := { name := "boxRoomless", fn := fun _ => fun
  | [d1, d2] => { results := [.lit (.bool true)], args := [d1, d2] }
  | _ => none }
def boxRoomlessRow : OpenClaim := { program := "ytjpnfjiccckaiaa", sum := "6ac2c1ede3b2f057b53eb922dc9c35a452772ad074f9943fcb8cda2c8e0591a3", func := "catafalque/catafalquelaw11.BoxRoomless", spec := "boxRoomless", apart := false }
def BoxRoomlessSaid : Prop := boxRoomlessRow.holds Try.pinned (OpenSpec.ofChange boxRoomlessSpec)

/-- ITS FALSE NEIGHBOUR: 'it returns false'. Refute it at one input. -/
def boxRoomlessWrong : ChangeSpec := { name := "boxRoomless", fn := fun _ => fun
  | [d1, d2] => { results := [.lit (.bool false)], args := [d1, d2] }
  | _ => none }
def BoxRoomlessWrongFalsely : Prop := boxRoomlessRow.holds Try.pinned (OpenSpec.ofChange boxRoomlessWrong)

/- THE SECOND FORM. 'bulk': how many values and letters a reading holds, each counted each time it is reached (what is shared counts as often as it is met; a slice's spare places count too). A statement '..UptoSaid' is the law's where the arguments, and the package variables that the reading takes, are together of bulk at most 1048576: NARROWER than '..Said'. Prove '..Said' where nothing that the law and all that it calls make is longer than what came in: it says more and counts as full. Else prove '..UptoSaid'. A law counts once. -/
mutual
def uptoBulk {H : Type} : DataW H → Nat
  | .lit (.string bytes) => bytes.length + 1
  | .lit _ => 1
  | .nil => 1
  | .ptr d => uptoBulk d + 1
  | .slice elems spare => uptoBulkAll elems + uptoBulkAll spare + 1
  | .agg parts => uptoBulkAll parts + 1
  | .iface _ d => uptoBulk d + 1
  | .map entries => uptoBulkEntries entries + 1
  | .held _ => 1
def uptoBulkAll {H : Type} : List (DataW H) → Nat
  | [] => 0
  | d :: r => uptoBulk d + uptoBulkAll r
def uptoBulkEntries {H : Type} : List (Lit × DataW H) → Nat
  | [] => 0
  | x :: r => uptoBulkEntry x + uptoBulkEntries r
def uptoBulkEntry {H : Type} : Lit × DataW H → Nat
  | (.string bytes, d) => bytes.length + uptoBulk d + 1
  | (_, d) => uptoBulk d + 1
 end
def uptoSmall : (H : Type) → List (DataW H) → Bool := fun _ ds => decide (uptoBulkAll ds ≤ 1048576)
def OpenSpec.upto (s : _root_.Go.ChangeSpec) : _root_.Go.OpenSpec := { _root_.Go.OpenSpec.ofChange s with cond := some uptoSmall }

/-- 'catafalquelaw11.BoxTells', WHERE WHAT IT READS IS OF BULK AT MOST 1048576: true; the input reads as it did. -/
def boxTellsUptoRow : OpenClaim := { program := "ytjpnfjiccckaiaa", sum := "6ac2c1ede3b2f057b53eb922dc9c35a452772ad074f9943fcb8cda2c8e0591a3", func := "catafalque/catafalquelaw11.BoxTells", spec := "boxTells", recurses := true, apart := false, narrowed := true }
def BoxTellsUptoSaid : Prop := boxTellsUptoRow.holds Try.pinned (OpenSpec.upto boxTellsSpec)

/-- 'catafalquelaw11.BoxPlays', WHERE WHAT IT READS IS OF BULK AT MOST 1048576: true; the input reads as it did. -/
def boxPlaysUptoRow : OpenClaim := { program := "ytjpnfjiccckaiaa", sum := "6ac2c1ede3b2f057b53eb922dc9c35a452772ad074f9943fcb8cda2c8e0591a3", func := "catafalque/catafalquelaw11.BoxPlays", spec := "boxPlays", recurses := true, apart := false, narrowed := true }
def BoxPlaysUptoSaid : Prop := boxPlaysUptoRow.holds Try.pinned (OpenSpec.upto boxPlaysSpec)

/-- 'catafalquelaw11.BoxWakes', WHERE WHAT IT READS IS OF BULK AT MOST 1048576: true; the input reads as it did. -/
def boxWakesUptoRow : OpenClaim := { program := "ytjpnfjiccckaiaa", sum := "6ac2c1ede3b2f057b53eb922dc9c35a452772ad074f9943fcb8cda2c8e0591a3", func := "catafalque/catafalquelaw11.BoxWakes", spec := "boxWakes", apart := false, narrowed := true }
def BoxWakesUptoSaid : Prop := boxWakesUptoRow.holds Try.pinned (OpenSpec.upto boxWakesSpec)

/-- 'catafalquelaw11.BoxBack', WHERE WHAT IT READS IS OF BULK AT MOST 1048576: true; the input reads as it did. -/
def boxBackUptoRow : OpenClaim := { program := "ytjpnfjiccckaiaa", sum := "6ac2c1ede3b2f057b53eb922dc9c35a452772ad074f9943fcb8cda2c8e0591a3", func := "catafalque/catafalquelaw11.BoxBack", spec := "boxBack", apart := false, narrowed := true }
def BoxBackUptoSaid : Prop := boxBackUptoRow.holds Try.pinned (OpenSpec.upto boxBackSpec)

/-- 'catafalquelaw11.BoxRoomless', WHERE WHAT IT READS IS OF BULK AT MOST 1048576: true; the input reads as it did. -/
def boxRoomlessUptoRow : OpenClaim := { program := "ytjpnfjiccckaiaa", sum := "6ac2c1ede3b2f057b53eb922dc9c35a452772ad074f9943fcb8cda2c8e0591a3", func := "catafalque/catafalquelaw11.BoxRoomless", spec := "boxRoomless", apart := false, narrowed := true }
def BoxRoomlessUptoSaid : Prop := boxRoomlessUptoRow.holds Try.pinned (OpenSpec.upto boxRoomlessSpec)

end Rows
end Go.Proofs.Ytjpnfjiccckaiaa
