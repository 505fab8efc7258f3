/- dist's four calls, by contracts: they answer as the document says, and turn nothing that was there. -/
import Derived.Test.YtkjcihdejileoaaDNearWalk
namespace Go.Proofs.Ytkjcihdejileoaa
open Go.RowKit
theorem near_any (A : Option Addr) (n c : Nat) (vs : List (Int × Int)) (p : Int) (w : World)
    (hn : Hid (vs.length = n)) (hl : n ≤ 9223372036854775807) (hf : Hid (Fit vs)) (hv : VRow w w.heap.size A vs) :
    Calls Try.prog 16 #[.slice A n c, .int .i64 p] w (Made w (Dp.near vs p)) := (near_cap A n c vs p w hn hl hf hv).mono fun _ _ h => h.made
end Go.Proofs.Ytkjcihdejileoaa

