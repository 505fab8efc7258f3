/- The document's example at the head of all statements: it is as shown. -/
import Derived.Test.YtlcgadcbeoljbaaSRel
import Derived.Test.YtlcgadcbeoljbaaSSame
namespace Go.Proofs.Ytlcgadcbeoljbaa
open Go.RowKit
set_option linter.unusedVariables false

theorem shown_any (w : World) : Calls Try.prog 7 #[] w fun e w' => e = .returned (.bool true) ∧ Below w.heap.size w w' := by
  go_enter Try.func7, Try.ntmps7
  go_wp2_with fail
  refine (acq_any 1 none 0 0 [] 5 _ (Row.nothing _) (by omega) (by omega) (by omega)).mono ?_
  rintro e w1 ⟨A1, n1, c1, rfl, hr1, hf1, hb1⟩
  rw [show Sp.acq (1, []) 5 = ((0, []), true) from by decide] at hr1 ⊢
  obtain rfl : 0 = n1 := hr1.len
  obtain ⟨o1, ho1⟩ : ∃ o, o = Obj.cells #[.int .i64 0, .slice A1 0 c1] 26 := ⟨_, rfl⟩
  have B1 := Lib.hid (hb1.trans ((below_new w1 o1).mono hb1.size))
  have R1 := Lib.hid (hr1.below (below_new w1 o1))
  rw [ho1] at B1 R1
  clear hr1 hf1 hb1 ho1
  go_wp2_with fail
  refine (acq_any 0 A1 0 c1 [] 6 _ R1.out (by omega) (by omega) (by omega)).mono ?_
  rintro e w2 ⟨A2, n2, c2, rfl, hr2, hf2, hb2⟩
  rw [show Sp.acq (0, []) 6 = ((0, [6]), false) from by decide] at hr2 ⊢
  obtain rfl : 1 = n2 := hr2.len
  obtain ⟨o2, ho2⟩ : ∃ o, o = Obj.cells #[.int .i64 0, .slice A2 1 c2] 26 := ⟨_, rfl⟩
  have hbe2 := B1.out.trans (hb2.mono B1.out.size)
  have B2 := Lib.hid (hbe2.trans ((below_new w2 o2).mono hbe2.size))
  have R2 := Lib.hid (hr2.below (below_new w2 o2))
  rw [ho2] at B2 R2
  clear hr2 hf2 hb2 ho2 hbe2
  go_wp2_with fail
  refine (rel_any 0 A2 1 c2 [6] _ R2.out (by omega) (by omega) (by omega)).mono ?_
  rintro e w3 ⟨A3, n3, c3, rfl, hr3, hf3, hb3⟩
  rw [show Sp.rel (0, [6]) = ((0, []), 6) from by decide] at hr3 ⊢
  obtain rfl : 0 = n3 := hr3.len
  have hbe3 := B2.out.trans (hb3.mono B2.out.size)
  have B3 := Lib.hid (hbe3.trans ((below_new w3 (Obj.cells #[.int .i64 0, .slice A3 0 c3] 26)).mono hbe3.size))
  clear hr3 hf3 hb3 hbe3
  go_wp2_with fail
  go_ret
  exact ⟨rfl, B3.out⟩
end Go.Proofs.Ytlcgadcbeoljbaa

