/- The document's examples at the head of all statements of layer 3: they are as shown. -/
import Derived.Test.YtdhcnmcfgicbjaaTText
import Derived.ChangeMaps5
import Derived.Test.YtdhcnmcfgicbjaaFrame
namespace Go.Proofs.Ytdhcnmcfgicbjaa
open Go.RowKit
set_option linter.unusedVariables false

theorem of_maxLen {n : Nat} (h : n ≤ maxLen) : n ≤ 9223372036854775807 := by unfold maxLen at h; omega
theorem eg1 : Tx.parse [109, 40, 110, 40, 99, 40, 112, 112, 41, 41, 41] = ([(-1, 0), (0, 1), (1, 2), (2, 3), (2, 3)], 0, 0) := by decide +kernel
theorem eg2 : Tx.parse [109, 40, 41] = ([], 2, 2) := by decide +kernel
theorem shown_any (w : World) : Calls Try.prog 9 #[] w fun e w' => e = .returned (.bool true) ∧ Below w.heap.size w w' := by
  go_enter Try.func9, Try.ntmps9
  go_wp2_with fail
  refine (parse_any ⟨#[109, 40, 110, 40, 99, 40, 112, 112, 41, 41, 41]⟩ _ (by decide)).mono ?_
  rintro e w1 ⟨A1, c1, rfl, _, hb1⟩
  have e1 : Tx.parse (ByteArray.mk #[109, 40, 110, 40, 99, 40, 112, 112, 41, 41, 41]).data.toList = ([(-1, 0), (0, 1), (1, 2), (2, 3), (2, 3)], 0, 0) := eg1
  rw [e1]
  clear e1
  go_wp2_with fail
  refine (parse_any ⟨#[109, 40, 41]⟩ _ (by decide)).mono ?_
  rintro e w2 ⟨A2, c2, rfl, _, hb2⟩
  have e2 : Tx.parse (ByteArray.mk #[109, 40, 41]).data.toList = ([], 2, 2) := eg2
  rw [e2]
  clear e2
  have hbe := hb1.trans (hb2.mono hb1.size)
  go_wp2_with fail
  go_ret
  exact ⟨rfl, hbe⟩
end Go.Proofs.Ytdhcnmcfgicbjaa

