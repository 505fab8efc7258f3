/-
  NARROWER THAN 'FOR EVERY INPUT', by the rows' own cells (each row's printed sentence says how): StealTells: laid · StealSome: laid · StealNear: laid · StealOthers: laid · StealHalf: laid · StealVictims: laid.
  DERIVED. THE GIVEN ROWS OF THIS SEAT. 6 by the template 'for every input the law returns true; each argument reads behind the call as it read before'; 0 by the template 'total and deterministic' (their statements: YtdohnhdjlhaaaaaGreatDoorTotals.lean).
  GIVEN WITH THE SEED: the statements are not yours to turn. If you find one false, say at which input.
  Laid BY PROGRAM, IN A SANDBOX (cutbox-rows.mjs): the forced cells as the released guide's own fill.sh prints them over the translation f40918e54bd50531… (all of the seat's roots in one cut). By AI agents, Wed Nov 11 2026. No macro, syntax, notation, axiom, sorry.
-/
import Derived.Test.YtdohnhdjlhaaaaaGreatDoorChecked
import GoSem.Claim
import GoSem.ClaimJoined
import GoSem.ClaimMapViews
import Derived.JoinedTies
import Derived.KernelRfl
namespace Go.Proofs.YtdohnhdjlhaaaaaGreatDoor
/- THE CELL 'sum', in the pinned program and in every row, IS THE sha256 OF THE DUMP (.gsa) THAT YtdohnhdjlhaaaaaGreatDoorProg.lean LOADS. Nothing in Lean hashes anything: it is a label: what it is worth is what the hold of that sum in a sandbox is worth. -/
noncomputable def Tryz.pinned : Pinned := { name := "ytdohnhdjlhaaaaagreatdoor", sum := "f40918e54bd50531808175b0e1f243b2d5f80a604978b1198ca471c5e498a257", checked := Tryz.checked }
namespace Rows
def none {H : Type} : Left H := { results := [], args := [] }

/- WHAT THE LISTED PACKAGE-LEVEL VARIABLES READ AS WHEN THE CALL BEGINS. Each datum BY PROGRAM (the guide's laid-datum.mjs) off the statement by which the dump's own 'gosem.cut.vars' lays the variable. In a bare row this is a premise. The card (YtdohnhdjlhaaaaaGreatDoorCards.lean) ties it to the program's text. -/
def laid_math_bits_deBruijn64tab {H : Type} : DataW H := .agg [.lit (.int .u8 0), .lit (.int .u8 1), .lit (.int .u8 56), .lit (.int .u8 2), .lit (.int .u8 57), .lit (.int .u8 49), .lit (.int .u8 28), .lit (.int .u8 3), .lit (.int .u8 61), .lit (.int .u8 58), .lit (.int .u8 42), .lit (.int .u8 50), .lit (.int .u8 38), .lit (.int .u8 29), .lit (.int .u8 17), .lit (.int .u8 4), .lit (.int .u8 62), .lit (.int .u8 47), .lit (.int .u8 59), .lit (.int .u8 36), .lit (.int .u8 45), .lit (.int .u8 43), .lit (.int .u8 51), .lit (.int .u8 22), .lit (.int .u8 53), .lit (.int .u8 39), .lit (.int .u8 33), .lit (.int .u8 30), .lit (.int .u8 24), .lit (.int .u8 18), .lit (.int .u8 12), .lit (.int .u8 5), .lit (.int .u8 63), .lit (.int .u8 55), .lit (.int .u8 48), .lit (.int .u8 27), .lit (.int .u8 60), .lit (.int .u8 41), .lit (.int .u8 37), .lit (.int .u8 16), .lit (.int .u8 46), .lit (.int .u8 35), .lit (.int .u8 44), .lit (.int .u8 21), .lit (.int .u8 52), .lit (.int .u8 32), .lit (.int .u8 23), .lit (.int .u8 11), .lit (.int .u8 54), .lit (.int .u8 26), .lit (.int .u8 40), .lit (.int .u8 15), .lit (.int .u8 34), .lit (.int .u8 20), .lit (.int .u8 31), .lit (.int .u8 10), .lit (.int .u8 25), .lit (.int .u8 14), .lit (.int .u8 19), .lit (.int .u8 9), .lit (.int .u8 13), .lit (.int .u8 8), .lit (.int .u8 7), .lit (.int .u8 6)]

/-- 'catafalquelaw17.StealTells': WHATEVER THE INPUT: true; the input reads as it did. -/
def stealTellsSpec : ChangeSpec := { name := "stealTells", fn := fun _ => fun
  | [d1, d2, d3] => { results := [.lit (.bool true)], args := [d1, d2, d3] }
  | _ => none }
def stealTellsRow : OpenClaim := { program := "ytdohnhdjlhaaaaagreatdoor", sum := "f40918e54bd50531808175b0e1f243b2d5f80a604978b1198ca471c5e498a257", func := "catafalque/catafalquelaw17.StealTells", spec := "stealTells", unfollowed := true, recurses := true, named := ["math/bits.deBruijn64tab"], apart := false, laid := [("math/bits.deBruijn64tab", laid_math_bits_deBruijn64tab)] }
def StealTellsSaid : Prop := stealTellsRow.holds Tryz.pinned (OpenSpec.ofChange stealTellsSpec)

/-- ITS FALSE NEIGHBOUR: 'it returns false'. Refute it at one input. -/
def stealTellsWrong : ChangeSpec := { name := "stealTells", fn := fun _ => fun
  | [d1, d2, d3] => { results := [.lit (.bool false)], args := [d1, d2, d3] }
  | _ => none }
def StealTellsWrongFalsely : Prop := stealTellsRow.holds Tryz.pinned (OpenSpec.ofChange stealTellsWrong)

/-- 'catafalquelaw17.StealSome': WHATEVER THE INPUT: true; the input reads as it did. -/
def stealSomeSpec : ChangeSpec := { name := "stealSome", fn := fun _ => fun
  | [d1, d2, d3] => { results := [.lit (.bool true)], args := [d1, d2, d3] }
  | _ => none }
def stealSomeRow : OpenClaim := { program := "ytdohnhdjlhaaaaagreatdoor", sum := "f40918e54bd50531808175b0e1f243b2d5f80a604978b1198ca471c5e498a257", func := "catafalque/catafalquelaw17.StealSome", spec := "stealSome", unfollowed := true, recurses := true, named := ["math/bits.deBruijn64tab"], apart := false, laid := [("math/bits.deBruijn64tab", laid_math_bits_deBruijn64tab)] }
def StealSomeSaid : Prop := stealSomeRow.holds Tryz.pinned (OpenSpec.ofChange stealSomeSpec)

/-- ITS FALSE NEIGHBOUR: 'it returns false'. Refute it at one input. -/
def stealSomeWrong : ChangeSpec := { name := "stealSome", fn := fun _ => fun
  | [d1, d2, d3] => { results := [.lit (.bool false)], args := [d1, d2, d3] }
  | _ => none }
def StealSomeWrongFalsely : Prop := stealSomeRow.holds Tryz.pinned (OpenSpec.ofChange stealSomeWrong)

/-- 'catafalquelaw17.StealNear': WHATEVER THE INPUT: true; the input reads as it did. -/
def stealNearSpec : ChangeSpec := { name := "stealNear", fn := fun _ => fun
  | [d1, d2] => { results := [.lit (.bool true)], args := [d1, d2] }
  | _ => none }
def stealNearRow : OpenClaim := { program := "ytdohnhdjlhaaaaagreatdoor", sum := "f40918e54bd50531808175b0e1f243b2d5f80a604978b1198ca471c5e498a257", func := "catafalque/catafalquelaw17.StealNear", spec := "stealNear", unfollowed := true, recurses := true, named := ["math/bits.deBruijn64tab"], apart := false, laid := [("math/bits.deBruijn64tab", laid_math_bits_deBruijn64tab)] }
def StealNearSaid : Prop := stealNearRow.holds Tryz.pinned (OpenSpec.ofChange stealNearSpec)

/-- ITS FALSE NEIGHBOUR: 'it returns false'. Refute it at one input. -/
def stealNearWrong : ChangeSpec := { name := "stealNear", fn := fun _ => fun
  | [d1, d2] => { results := [.lit (.bool false)], args := [d1, d2] }
  | _ => none }
def StealNearWrongFalsely : Prop := stealNearRow.holds Tryz.pinned (OpenSpec.ofChange stealNearWrong)

/-- 'catafalquelaw17.StealOthers': WHATEVER THE INPUT: true; the input reads as it did. -/
def stealOthersSpec : ChangeSpec := { name := "stealOthers", fn := fun _ => fun
  | [d1, d2, d3] => { results := [.lit (.bool true)], args := [d1, d2, d3] }
  | _ => none }
def stealOthersRow : OpenClaim := { program := "ytdohnhdjlhaaaaagreatdoor", sum := "f40918e54bd50531808175b0e1f243b2d5f80a604978b1198ca471c5e498a257", func := "catafalque/catafalquelaw17.StealOthers", spec := "stealOthers", unfollowed := true, recurses := true, named := ["math/bits.deBruijn64tab"], apart := false, laid := [("math/bits.deBruijn64tab", laid_math_bits_deBruijn64tab)] }
def StealOthersSaid : Prop := stealOthersRow.holds Tryz.pinned (OpenSpec.ofChange stealOthersSpec)

/-- ITS FALSE NEIGHBOUR: 'it returns false'. Refute it at one input. -/
def stealOthersWrong : ChangeSpec := { name := "stealOthers", fn := fun _ => fun
  | [d1, d2, d3] => { results := [.lit (.bool false)], args := [d1, d2, d3] }
  | _ => none }
def StealOthersWrongFalsely : Prop := stealOthersRow.holds Tryz.pinned (OpenSpec.ofChange stealOthersWrong)

/-- 'catafalquelaw17.StealHalf': WHATEVER THE INPUT: true; the input reads as it did. -/
def stealHalfSpec : ChangeSpec := { name := "stealHalf", fn := fun _ => fun
  | [d1, d2] => { results := [.lit (.bool true)], args := [d1, d2] }
  | _ => none }
def stealHalfRow : OpenClaim := { program := "ytdohnhdjlhaaaaagreatdoor", sum := "f40918e54bd50531808175b0e1f243b2d5f80a604978b1198ca471c5e498a257", func := "catafalque/catafalquelaw17.StealHalf", spec := "stealHalf", unfollowed := true, recurses := true, named := ["math/bits.deBruijn64tab"], apart := false, laid := [("math/bits.deBruijn64tab", laid_math_bits_deBruijn64tab)] }
def StealHalfSaid : Prop := stealHalfRow.holds Tryz.pinned (OpenSpec.ofChange stealHalfSpec)

/-- ITS FALSE NEIGHBOUR: 'it returns false'. Refute it at one input. -/
def stealHalfWrong : ChangeSpec := { name := "stealHalf", fn := fun _ => fun
  | [d1, d2] => { results := [.lit (.bool false)], args := [d1, d2] }
  | _ => none }
def StealHalfWrongFalsely : Prop := stealHalfRow.holds Tryz.pinned (OpenSpec.ofChange stealHalfWrong)

/-- 'catafalquelaw17.StealVictims': WHATEVER THE INPUT: true; the input reads as it did. -/
def stealVictimsSpec : ChangeSpec := { name := "stealVictims", fn := fun _ => fun
  | [d1, d2] => { results := [.lit (.bool true)], args := [d1, d2] }
  | _ => none }
def stealVictimsRow : OpenClaim := { program := "ytdohnhdjlhaaaaagreatdoor", sum := "f40918e54bd50531808175b0e1f243b2d5f80a604978b1198ca471c5e498a257", func := "catafalque/catafalquelaw17.StealVictims", spec := "stealVictims", unfollowed := true, recurses := true, named := ["math/bits.deBruijn64tab"], apart := false, laid := [("math/bits.deBruijn64tab", laid_math_bits_deBruijn64tab)] }
def StealVictimsSaid : Prop := stealVictimsRow.holds Tryz.pinned (OpenSpec.ofChange stealVictimsSpec)

/-- ITS FALSE NEIGHBOUR: 'it returns false'. Refute it at one input. -/
def stealVictimsWrong : ChangeSpec := { name := "stealVictims", fn := fun _ => fun
  | [d1, d2] => { results := [.lit (.bool false)], args := [d1, d2] }
  | _ => none }
def StealVictimsWrongFalsely : Prop := stealVictimsRow.holds Tryz.pinned (OpenSpec.ofChange stealVictimsWrong)

/- THE SECOND FORM. 'bulk': how many values and letters a reading holds, each counted each time it is reached (what is shared counts as often as it is met; a slice's spare places count too). A statement '..UptoSaid' is the law's where the arguments, and the package variables that the reading takes, are together of bulk at most 1048576: NARROWER than '..Said'. Prove '..Said' where nothing that the law and all that it calls make is longer than what came in: it says more and counts as full. Else prove '..UptoSaid'. A law counts once. -/
mutual
def uptoBulk {H : Type} : DataW H → Nat
  | .lit (.string bytes) => bytes.length + 1
  | .lit _ => 1
  | .nil => 1
  | .ptr d => uptoBulk d + 1
  | .slice elems spare => uptoBulkAll elems + uptoBulkAll spare + 1
  | .agg parts => uptoBulkAll parts + 1
  | .iface _ d => uptoBulk d + 1
  | .map entries => uptoBulkEntries entries + 1
  | .held _ => 1
def uptoBulkAll {H : Type} : List (DataW H) → Nat
  | [] => 0
  | d :: r => uptoBulk d + uptoBulkAll r
def uptoBulkEntries {H : Type} : List (Lit × DataW H) → Nat
  | [] => 0
  | x :: r => uptoBulkEntry x + uptoBulkEntries r
def uptoBulkEntry {H : Type} : Lit × DataW H → Nat
  | (.string bytes, d) => bytes.length + uptoBulk d + 1
  | (_, d) => uptoBulk d + 1
 end
def uptoSmall : (H : Type) → List (DataW H) → Bool := fun _ ds => decide (uptoBulkAll ds ≤ 1048576)
def OpenSpec.upto (s : _root_.Go.ChangeSpec) : _root_.Go.OpenSpec := { _root_.Go.OpenSpec.ofChange s with cond := some uptoSmall }

/-- 'catafalquelaw17.StealTells', WHERE WHAT IT READS IS OF BULK AT MOST 1048576: true; the input reads as it did. -/
def stealTellsUptoRow : OpenClaim := { program := "ytdohnhdjlhaaaaagreatdoor", sum := "f40918e54bd50531808175b0e1f243b2d5f80a604978b1198ca471c5e498a257", func := "catafalque/catafalquelaw17.StealTells", spec := "stealTells", unfollowed := true, recurses := true, named := ["math/bits.deBruijn64tab"], apart := false, laid := [("math/bits.deBruijn64tab", laid_math_bits_deBruijn64tab)], narrowed := true }
def StealTellsUptoSaid : Prop := stealTellsUptoRow.holds Tryz.pinned (OpenSpec.upto stealTellsSpec)

/-- 'catafalquelaw17.StealSome', WHERE WHAT IT READS IS OF BULK AT MOST 1048576: true; the input reads as it did. -/
def stealSomeUptoRow : OpenClaim := { program := "ytdohnhdjlhaaaaagreatdoor", sum := "f40918e54bd50531808175b0e1f243b2d5f80a604978b1198ca471c5e498a257", func := "catafalque/catafalquelaw17.StealSome", spec := "stealSome", unfollowed := true, recurses := true, named := ["math/bits.deBruijn64tab"], apart := false, laid := [("math/bits.deBruijn64tab", laid_math_bits_deBruijn64tab)], narrowed := true }
def StealSomeUptoSaid : Prop := stealSomeUptoRow.holds Tryz.pinned (OpenSpec.upto stealSomeSpec)

/-- 'catafalquelaw17.StealNear', WHERE WHAT IT READS IS OF BULK AT MOST 1048576: true; the input reads as it did. -/
def stealNearUptoRow : OpenClaim := { program := "ytdohnhdjlhaaaaagreatdoor", sum := "f40918e54bd50531808175b0e1f243b2d5f80a604978b1198ca471c5e498a257", func := "catafalque/catafalquelaw17.StealNear", spec := "stealNear", unfollowed := true, recurses := true, named := ["math/bits.deBruijn64tab"], apart := false, laid := [("math/bits.deBruijn64tab", laid_math_bits_deBruijn64tab)], narrowed := true }
def StealNearUptoSaid : Prop := stealNearUptoRow.holds Tryz.pinned (OpenSpec.upto stealNearSpec)

/-- 'catafalquelaw17.StealOthers', WHERE WHAT IT READS IS OF BULK AT MOST 1048576: true; the input reads as it did. -/
def stealOthersUptoRow : OpenClaim := { program := "ytdohnhdjlhaaaaagreatdoor", sum := "f40918e54bd50531808175b0e1f243b2d5f80a604978b1198ca471c5e498a257", func := "catafalque/catafalquelaw17.StealOthers", spec := "stealOthers", unfollowed := true, recurses := true, named := ["math/bits.deBruijn64tab"], apart := false, laid := [("math/bits.deBruijn64tab", laid_math_bits_deBruijn64tab)], narrowed := true }
def StealOthersUptoSaid : Prop := stealOthersUptoRow.holds Tryz.pinned (OpenSpec.upto stealOthersSpec)

/-- 'catafalquelaw17.StealHalf', WHERE WHAT IT READS IS OF BULK AT MOST 1048576: true; the input reads as it did. -/
def stealHalfUptoRow : OpenClaim := { program := "ytdohnhdjlhaaaaagreatdoor", sum := "f40918e54bd50531808175b0e1f243b2d5f80a604978b1198ca471c5e498a257", func := "catafalque/catafalquelaw17.StealHalf", spec := "stealHalf", unfollowed := true, recurses := true, named := ["math/bits.deBruijn64tab"], apart := false, laid := [("math/bits.deBruijn64tab", laid_math_bits_deBruijn64tab)], narrowed := true }
def StealHalfUptoSaid : Prop := stealHalfUptoRow.holds Tryz.pinned (OpenSpec.upto stealHalfSpec)

/-- 'catafalquelaw17.StealVictims', WHERE WHAT IT READS IS OF BULK AT MOST 1048576: true; the input reads as it did. -/
def stealVictimsUptoRow : OpenClaim := { program := "ytdohnhdjlhaaaaagreatdoor", sum := "f40918e54bd50531808175b0e1f243b2d5f80a604978b1198ca471c5e498a257", func := "catafalque/catafalquelaw17.StealVictims", spec := "stealVictims", unfollowed := true, recurses := true, named := ["math/bits.deBruijn64tab"], apart := false, laid := [("math/bits.deBruijn64tab", laid_math_bits_deBruijn64tab)], narrowed := true }
def StealVictimsUptoSaid : Prop := stealVictimsUptoRow.holds Tryz.pinned (OpenSpec.upto stealVictimsSpec)

end Rows
end Go.Proofs.YtdohnhdjlhaaaaaGreatDoor
