/- The document's example at the head of all statements: it is as shown. -/
import Derived.Test.YtldehegoaofjnaaUWalk
import Derived.Test.YtldehegoaofjnaaRApp
namespace Go.Proofs.Ytldehegoaofjnaa
open Go.RowKit
set_option linter.unusedVariables false

theorem shown_any (w : World) : Calls Try.prog 9 #[] w fun e w' => e = .returned (.bool true) ∧ Below w.heap.size w w' := by
  have HR := Lib.hid (row_lit w [0, 1, 4] (by simp))
  have HB := Lib.hid (below_new w (.cells #[.int .i64 0, .int .i64 1, .int .i64 4] 3))
  have HV := Lib.hid (show walkV [0, 1, 4] = .tuple #[.int .i64 1, .bool false] by rfl)
  have HM := Lib.hid (show Sp.may 2 3 = true by decide)
  have HD : ((str (Sp.nm 4)).toList == [100, 101, 97, 100]) = true := by rw [str_list]; decide
  go_enter Try.func9, Try.ntmps9
  go_wp2_with fail
  refine (walk_any _ 3 3 [0, 1, 4] _ HR.out).mono ?_
  rintro e w1 ⟨rfl, rfl⟩
  rw [HV.out]
  go_wp2_with fail
  refine (name_any 4 _).mono ?_
  rintro e w2 ⟨rfl, rfl⟩
  go_wp2_with fail
  refine (may_any 2 3 _).mono ?_
  rintro e w3 ⟨rfl, rfl⟩
  rw [HM.out]
  go_wp2_with fail
  go_ret
  exact ⟨rfl, HB.out⟩
end Go.Proofs.Ytldehegoaofjnaa

