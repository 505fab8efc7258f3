/- topo.Nodes, by its contract: the numbers of the vertices of level 1, in new memory. -/
import Derived.Test.YtkjcihdejileoaaThose
namespace Go.Proofs.Ytkjcihdejileoaa
open Go.RowKit
set_option linter.unusedVariables false

theorem nodesTest (p l : Int) (w : World) :
    Calls Try.prog 40 #[.agg #[.int .i64 p, .int .i64 l]] w fun e w' => e = .returned (.bool (l == 1)) ∧ Below w.heap.size w w' := by
  go_enter Try.func40, Try.ntmps40
  go_wp2
  go_ret
  exact ⟨rfl, (Below.refl _ _).alloc (Nat.le_refl _) _⟩

theorem nodes_any (A : Option Addr) (n c : Nat) (vs : List (Int × Int)) (w : World)
    (hn : Hid (vs.length = n)) (hl : n ≤ 9223372036854775807) (hby : n * 8 ≤ 140737488351232) (hv : VRow w w.heap.size A vs) :
    Calls Try.prog 28 #[.slice A n c] w (Made w (Tp.those (levelP 1) vs)) := by
  have hT : Tests w 40 #[] (levelP 1) := fun x W _ => nodesTest x.1 x.2 W
  go_enter Try.func28, Try.ntmps28
  go_wp2_with fail
  refine (those_any A n c vs _ _ (levelP 1) _ hn hl hby hv (fun _ _ => by kernel_rfl) hT).mono ?_
  rintro e w1 ⟨u, rfl, hown, hb1⟩
  have M := made_of (Below.refl _ _) hown hb1
  clear hown
  go_wp2
  go_ret
  exact M
end Go.Proofs.Ytkjcihdejileoaa

