/-
  No cell of these rows narrows 'for every input' (looked for: loops, veiled, ifaces, maps, wideKeys, modest, calm, conditions, laid).
  DERIVED. THE GIVEN ROWS OF THIS SEAT. 4 by the template 'for every input the law returns true; each argument reads behind the call as it read before'; 0 by the template 'total and deterministic' (their statements: YtlcgadcbeoljbaaTotals.lean).
  GIVEN WITH THE SEED: the statements are not yours to turn. If you find one false, say at which input.
  Laid BY PROGRAM, IN A SANDBOX (cutbox-rows.mjs): the forced cells as the released guide's own fill.sh prints them over the translation 421badd29f3592da… (all of the seat's roots in one cut). By AI agents, Wed Nov 11 2026. No macro, syntax, notation, axiom, sorry.
-/
import Derived.Test.YtlcgadcbeoljbaaChecked
import GoSem.Claim
import GoSem.ClaimJoined
import GoSem.ClaimMapViews
import Derived.JoinedTies
import Derived.KernelRfl
namespace Go.Proofs.Ytlcgadcbeoljbaa
/- THE CELL 'sum', in the pinned program and in every row, IS THE sha256 OF THE DUMP (.gsa) THAT YtlcgadcbeoljbaaProg.lean LOADS. Nothing in Lean hashes anything: it is a label: what it is worth is what the hold of that sum in a sandbox is worth. -/
noncomputable def Try.pinned : Pinned := { name := "ytlcgadcbeoljbaa", sum := "421badd29f3592daf11a5ebfcf29c5a71db4c11ec80cb3201d54008b328028f1", checked := Try.checked }
namespace Rows
def none {H : Type} : Left H := { results := [], args := [] }

/-- 'catafalquelaw10.SemPlays': WHATEVER THE INPUT: true; the input reads as it did. -/
def semPlaysSpec : ChangeSpec := { name := "semPlays", fn := fun _ => fun
  | [d1, d2] => { results := [.lit (.bool true)], args := [d1, d2] }
  | _ => none }
def semPlaysRow : OpenClaim := { program := "ytlcgadcbeoljbaa", sum := "421badd29f3592daf11a5ebfcf29c5a71db4c11ec80cb3201d54008b328028f1", func := "catafalque/catafalquelaw10.SemPlays", spec := "semPlays", unfollowed := true, recurses := true, apart := false }
def SemPlaysSaid : Prop := semPlaysRow.holds Try.pinned (OpenSpec.ofChange semPlaysSpec)

/-- ITS FALSE NEIGHBOUR: 'it returns false'. Refute it at one input. -/
def semPlaysWrong : ChangeSpec := { name := "semPlays", fn := fun _ => fun
  | [d1, d2] => { results := [.lit (.bool false)], args := [d1, d2] }
  | _ => none }
def SemPlaysWrongFalsely : Prop := semPlaysRow.holds Try.pinned (OpenSpec.ofChange semPlaysWrong)

/-- 'catafalquelaw10.SemBack': WHATEVER THE INPUT: true; the input reads as it did. -/
def semBackSpec : ChangeSpec := { name := "semBack", fn := fun _ => fun
  | [d1, d2] => { results := [.lit (.bool true)], args := [d1, d2] }
  | _ => none }
def semBackRow : OpenClaim := { program := "ytlcgadcbeoljbaa", sum := "421badd29f3592daf11a5ebfcf29c5a71db4c11ec80cb3201d54008b328028f1", func := "catafalque/catafalquelaw10.SemBack", spec := "semBack", unfollowed := true, recurses := true, apart := false }
def SemBackSaid : Prop := semBackRow.holds Try.pinned (OpenSpec.ofChange semBackSpec)

/-- ITS FALSE NEIGHBOUR: 'it returns false'. Refute it at one input. -/
def semBackWrong : ChangeSpec := { name := "semBack", fn := fun _ => fun
  | [d1, d2] => { results := [.lit (.bool false)], args := [d1, d2] }
  | _ => none }
def SemBackWrongFalsely : Prop := semBackRow.holds Try.pinned (OpenSpec.ofChange semBackWrong)

/-- 'catafalquelaw10.SemWakes': WHATEVER THE INPUT: true; the input reads as it did. -/
def semWakesSpec : ChangeSpec := { name := "semWakes", fn := fun _ => fun
  | [d1, d2] => { results := [.lit (.bool true)], args := [d1, d2] }
  | _ => none }
def semWakesRow : OpenClaim := { program := "ytlcgadcbeoljbaa", sum := "421badd29f3592daf11a5ebfcf29c5a71db4c11ec80cb3201d54008b328028f1", func := "catafalque/catafalquelaw10.SemWakes", spec := "semWakes", unfollowed := true, recurses := true, apart := false }
def SemWakesSaid : Prop := semWakesRow.holds Try.pinned (OpenSpec.ofChange semWakesSpec)

/-- ITS FALSE NEIGHBOUR: 'it returns false'. Refute it at one input. -/
def semWakesWrong : ChangeSpec := { name := "semWakes", fn := fun _ => fun
  | [d1, d2] => { results := [.lit (.bool false)], args := [d1, d2] }
  | _ => none }
def SemWakesWrongFalsely : Prop := semWakesRow.holds Try.pinned (OpenSpec.ofChange semWakesWrong)

/-- 'catafalquelaw10.SemFull': WHATEVER THE INPUT: true; the input reads as it did. -/
def semFullSpec : ChangeSpec := { name := "semFull", fn := fun _ => fun
  | [d1, d2] => { results := [.lit (.bool true)], args := [d1, d2] }
  | _ => none }
def semFullRow : OpenClaim := { program := "ytlcgadcbeoljbaa", sum := "421badd29f3592daf11a5ebfcf29c5a71db4c11ec80cb3201d54008b328028f1", func := "catafalque/catafalquelaw10.SemFull", spec := "semFull", unfollowed := true, recurses := true, apart := false }
def SemFullSaid : Prop := semFullRow.holds Try.pinned (OpenSpec.ofChange semFullSpec)

/-- ITS FALSE NEIGHBOUR: 'it returns false'. Refute it at one input. -/
def semFullWrong : ChangeSpec := { name := "semFull", fn := fun _ => fun
  | [d1, d2] => { results := [.lit (.bool false)], args := [d1, d2] }
  | _ => none }
def SemFullWrongFalsely : Prop := semFullRow.holds Try.pinned (OpenSpec.ofChange semFullWrong)

/- THE SECOND FORM. 'bulk': how many values and letters a reading holds, each counted each time it is reached (what is shared counts as often as it is met; a slice's spare places count too). A statement '..UptoSaid' is the law's where the arguments, and the package variables that the reading takes, are together of bulk at most 1048576: NARROWER than '..Said'. Prove '..Said' where nothing that the law and all that it calls make is longer than what came in: it says more and counts as full. Else prove '..UptoSaid'. A law counts once. -/
mutual
def uptoBulk {H : Type} : DataW H → Nat
  | .lit (.string bytes) => bytes.length + 1
  | .lit _ => 1
  | .nil => 1
  | .ptr d => uptoBulk d + 1
  | .slice elems spare => uptoBulkAll elems + uptoBulkAll spare + 1
  | .agg parts => uptoBulkAll parts + 1
  | .iface _ d => uptoBulk d + 1
  | .map entries => uptoBulkEntries entries + 1
  | .held _ => 1
def uptoBulkAll {H : Type} : List (DataW H) → Nat
  | [] => 0
  | d :: r => uptoBulk d + uptoBulkAll r
def uptoBulkEntries {H : Type} : List (Lit × DataW H) → Nat
  | [] => 0
  | x :: r => uptoBulkEntry x + uptoBulkEntries r
def uptoBulkEntry {H : Type} : Lit × DataW H → Nat
  | (.string bytes, d) => bytes.length + uptoBulk d + 1
  | (_, d) => uptoBulk d + 1
 end
def uptoSmall : (H : Type) → List (DataW H) → Bool := fun _ ds => decide (uptoBulkAll ds ≤ 1048576)
def OpenSpec.upto (s : _root_.Go.ChangeSpec) : _root_.Go.OpenSpec := { _root_.Go.OpenSpec.ofChange s with cond := some uptoSmall }

/-- 'catafalquelaw10.SemPlays', WHERE WHAT IT READS IS OF BULK AT MOST 1048576: true; the input reads as it did. -/
def semPlaysUptoRow : OpenClaim := { program := "ytlcgadcbeoljbaa", sum := "421badd29f3592daf11a5ebfcf29c5a71db4c11ec80cb3201d54008b328028f1", func := "catafalque/catafalquelaw10.SemPlays", spec := "semPlays", unfollowed := true, recurses := true, apart := false, narrowed := true }
def SemPlaysUptoSaid : Prop := semPlaysUptoRow.holds Try.pinned (OpenSpec.upto semPlaysSpec)

/-- 'catafalquelaw10.SemBack', WHERE WHAT IT READS IS OF BULK AT MOST 1048576: true; the input reads as it did. -/
def semBackUptoRow : OpenClaim := { program := "ytlcgadcbeoljbaa", sum := "421badd29f3592daf11a5ebfcf29c5a71db4c11ec80cb3201d54008b328028f1", func := "catafalque/catafalquelaw10.SemBack", spec := "semBack", unfollowed := true, recurses := true, apart := false, narrowed := true }
def SemBackUptoSaid : Prop := semBackUptoRow.holds Try.pinned (OpenSpec.upto semBackSpec)

/-- 'catafalquelaw10.SemWakes', WHERE WHAT IT READS IS OF BULK AT MOST 1048576: true; the input reads as it did. -/
def semWakesUptoRow : OpenClaim := { program := "ytlcgadcbeoljbaa", sum := "421badd29f3592daf11a5ebfcf29c5a71db4c11ec80cb3201d54008b328028f1", func := "catafalque/catafalquelaw10.SemWakes", spec := "semWakes", unfollowed := true, recurses := true, apart := false, narrowed := true }
def SemWakesUptoSaid : Prop := semWakesUptoRow.holds Try.pinned (OpenSpec.upto semWakesSpec)

/-- 'catafalquelaw10.SemFull', WHERE WHAT IT READS IS OF BULK AT MOST 1048576: true; the input reads as it did. -/
def semFullUptoRow : OpenClaim := { program := "ytlcgadcbeoljbaa", sum := "421badd29f3592daf11a5ebfcf29c5a71db4c11ec80cb3201d54008b328028f1", func := "catafalque/catafalquelaw10.SemFull", spec := "semFull", unfollowed := true, recurses := true, apart := false, narrowed := true }
def SemFullUptoSaid : Prop := semFullUptoRow.holds Try.pinned (OpenSpec.upto semFullSpec)

end Rows
end Go.Proofs.Ytlcgadcbeoljbaa
