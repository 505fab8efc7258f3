/- The landed status' Name, May, Able, and the document's, by their contracts. -/
import Derived.Test.YtldehegoaofjnaaRRow
import Derived.Test.YtldehegoaofjnaaStr
import Derived.Test.YtldehegoaofjnaaUPlain
namespace Go.Proofs.Ytldehegoaofjnaa
open Go.RowKit
set_option linter.unusedVariables false

set_option maxHeartbeats 4000000 in
theorem name_any (s : Int) (w : World) :
    Calls Try.prog 12 #[.int .i64 s] w fun e w' => e = .returned (.string (str (Sp.nm s))) ∧ w' = w := by
  by_cases h : 0 ≤ s ∧ s ≤ 4
  · have hc : s = 0 ∨ s = 1 ∨ s = 2 ∨ s = 3 ∨ s = 4 := by omega
    rcases hc with rfl | rfl | rfl | rfl | rfl
    all_goals
      go_enter Try.func12, Try.ntmps12
      go_wp2_with fail
      go_ret
      exact ⟨rfl, rfl⟩
  · have HN := Lib.hid (show Sp.nm s = [] from Sp.nm_out h)
    have t0 : (s == 0) = false := by rw [beq_eq_false_iff_ne]; omega
    have t1 : (s == 1) = false := by rw [beq_eq_false_iff_ne]; omega
    have t2 : (s == 2) = false := by rw [beq_eq_false_iff_ne]; omega
    have t3 : (s == 3) = false := by rw [beq_eq_false_iff_ne]; omega
    have t4 : (s == 4) = false := by rw [beq_eq_false_iff_ne]; omega
    clear h
    go_enter Try.func12, Try.ntmps12
    go_wp2_with fail
    go_ret
    exact ⟨by rw [HN.out]; rfl, rfl⟩
set_option maxHeartbeats 4000000 in
theorem may_any (a b : Int) (w : World) :
    Calls Try.prog 14 #[.int .i64 a, .int .i64 b] w fun e w' => e = .returned (.bool (Sp.may a b)) ∧ w' = w := by
  have hc : a = 0 ∨ a = 1 ∨ a = 2 ∨ a = 3 ∨ a = 4 ∨ ¬ (0 ≤ a ∧ a ≤ 4) := by omega
  rcases hc with rfl | rfl | rfl | rfl | rfl | h
  · have HM := Lib.hid (show Sp.may 0 b = (b == 1) by rw [Sp.may_eq]; simp)
    go_enter Try.func14, Try.ntmps14
    go_wp2_with fail
    go_ret
    exact ⟨ret_bool (by rw [HM.out]), rfl⟩
  · have HM := Lib.hid (show Sp.may 1 b = (b == 2) by rw [Sp.may_eq]; simp)
    go_enter Try.func14, Try.ntmps14
    go_wp2_with fail
    go_ret
    exact ⟨ret_bool (by rw [HM.out]), rfl⟩
  · by_cases h3 : b = 3
    · subst h3
      have HM := Lib.hid (show Sp.may 2 3 = true by decide)
      go_enter Try.func14, Try.ntmps14
      go_wp2_with fail
      go_ret
      exact ⟨ret_bool (by rw [HM.out]), rfl⟩
    · have t3 : (b == 3) = false := by rw [beq_eq_false_iff_ne]; omega
      by_cases h4 : b = 4
      · subst h4
        have HM := Lib.hid (show Sp.may 2 4 = true by decide)
        go_enter Try.func14, Try.ntmps14
        go_wp2_with fail
        go_ret
        exact ⟨ret_bool (by rw [HM.out]), rfl⟩
      · have t4 : (b == 4) = false := by rw [beq_eq_false_iff_ne]; omega
        have HM := Lib.hid (show Sp.may 2 b = (b == 1) by rw [Sp.may_eq, t3, t4]; simp)
        clear h3 h4
        go_enter Try.func14, Try.ntmps14
        go_wp2_with fail
        go_ret
        exact ⟨ret_bool (by rw [HM.out]), rfl⟩
  · have HM := Lib.hid (show Sp.may 3 b = (b == 1) by rw [Sp.may_eq]; simp)
    go_enter Try.func14, Try.ntmps14
    go_wp2_with fail
    go_ret
    exact ⟨ret_bool (by rw [HM.out]), rfl⟩
  · have HM := Lib.hid (show Sp.may 4 b = (b == 0) by rw [Sp.may_eq]; simp)
    go_enter Try.func14, Try.ntmps14
    go_wp2_with fail
    go_ret
    exact ⟨ret_bool (by rw [HM.out]), rfl⟩
  · have HM := Lib.hid (show Sp.may a b = false by rw [← Bool.not_eq_true]; exact fun e => h (Sp.may_ok e).1)
    have t0 : (a == 0) = false := by rw [beq_eq_false_iff_ne]; omega
    have t1 : (a == 1) = false := by rw [beq_eq_false_iff_ne]; omega
    have t2 : (a == 2) = false := by rw [beq_eq_false_iff_ne]; omega
    have t3 : (a == 3) = false := by rw [beq_eq_false_iff_ne]; omega
    have t4 : (a == 4) = false := by rw [beq_eq_false_iff_ne]; omega
    clear h
    go_enter Try.func14, Try.ntmps14
    go_wp2_with fail
    go_ret
    exact ⟨ret_bool (by rw [HM.out]), rfl⟩
set_option maxHeartbeats 4000000 in
theorem able_any (s : Int) (w : World) :
    Calls Try.prog 16 #[.int .i64 s] w fun e w' => e = .returned (.bool (Sp.able s)) ∧ w' = w := by
  by_cases h : s = 1
  · subst h
    go_enter Try.func16, Try.ntmps16
    go_wp2_with fail
    go_ret
    exact ⟨rfl, rfl⟩
  · have t1 : (s == 1) = false := by rw [beq_eq_false_iff_ne]; exact h
    have HM := Lib.hid (show Sp.able s = (s == 2) by unfold Sp.able; rw [t1]; rfl)
    clear h
    go_enter Try.func16, Try.ntmps16
    go_wp2_with fail
    go_ret
    exact ⟨ret_bool (by rw [HM.out]), rfl⟩
end Go.Proofs.Ytldehegoaofjnaa

