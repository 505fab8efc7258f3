/- The document's example at the head of all statements: it is as shown. -/
import Derived.Test.YtceboejhdgjgoaaGSum
import Derived.Test.YtceboejhdgjgoaaGFrame
namespace Go.Proofs.Ytceboejhdgjgoaa
open Go.RowKit
set_option linter.unusedVariables false

theorem shown_any (w : World) : Calls Try.prog 8 #[] w fun e w' => e = .returned (.bool true) ∧ Below w.heap.size w w' := by
  have hb := below_new w (.cells #[.int .i64 1, .int .i64 0, .int .i64 3] 3)
  have HS := Lib.hid (sum_any (some ⟨w.heap.size, 0, none⟩) 3 3 [1, 0, 3] _ (row_lit w [1, 0, 3] (by decide)) (Lib.hid (fun z hz => by simp at hz; unfold In64; omega)))
  have HB := Lib.hid hb
  have hE : ∀ W, (binOp .eql 25 (.agg #[.int .i64 4, .int .i64 2]) (.agg #[.int .i64 4, .int .i64 2])).run Try.prog W = .ok (.bool true) W := fun W => eql_one (4, 2) W
  clear hb
  go_enter Try.func8, Try.ntmps8
  go_wp2_with fail
  refine HS.out.mono ?_
  rintro e w2 ⟨rfl, hb2⟩
  rw [show cv (Gp.sum [1, 0, 3]) = .agg #[.int .i64 4, .int .i64 2] from by rw [show Gp.sum [1, 0, 3] = (4, 2) from by decide +kernel]; rfl]
  have HE := Lib.hid (HB.out.trans (hb2.mono HB.out.size))
  clear hb2 HS HB
  go_wp2_with fail
  go_ret
  exact ⟨rfl, HE.out⟩
end Go.Proofs.Ytceboejhdgjgoaa

