/- few, by its contract. -/
import Derived.Test.YtjpnfjiccckaiaaOMade
namespace Go.Proofs.Ytjpnfjiccckaiaa
open Go.RowKit
open Mp (Bo)
set_option linter.unusedVariables false

theorem few_any (x : Int) (A B C : Option Addr) (n1 n2 n3 c1 c2 c3 : Nat) (w : World) :
    Calls Try.prog 9 #[.agg #[.int .i64 x, .slice A n1 c1, .slice B n2 c2, .slice C n3 c3]] w fun e w' => e = .returned (.bool (decide (n1 ≤ 100 ∧ n2 ≤ 100 ∧ n3 ≤ 100))) ∧ Below w.heap.size w w' := by
  by_cases h1 : n1 ≤ 100
  · have t1 : decide ((n1 : Int) ≤ 100) = true := by simp; omega
    by_cases h2 : n2 ≤ 100
    · have t2 : decide ((n2 : Int) ≤ 100) = true := by simp; omega
      by_cases h3 : n3 ≤ 100
      · have t3 : decide ((n3 : Int) ≤ 100) = true := by simp; omega
        go_enter Try.func9, Try.ntmps9
        go_wp2_with fail
        go_ret
        exact ⟨ret_bool (by first | (symm; exact decide_eq_true (by omega)) | (symm; exact decide_eq_false (by omega))), below_new _ _⟩
      · have t3 : decide ((n3 : Int) ≤ 100) = false := by simp; omega
        go_enter Try.func9, Try.ntmps9
        go_wp2_with fail
        go_ret
        exact ⟨ret_bool (by first | (symm; exact decide_eq_true (by omega)) | (symm; exact decide_eq_false (by omega))), below_new _ _⟩
    · have t2 : decide ((n2 : Int) ≤ 100) = false := by simp; omega
      go_enter Try.func9, Try.ntmps9
      go_wp2_with fail
      go_ret
      exact ⟨ret_bool (by first | (symm; exact decide_eq_true (by omega)) | (symm; exact decide_eq_false (by omega))), below_new _ _⟩
  · have t1 : decide ((n1 : Int) ≤ 100) = false := by simp; omega
    go_enter Try.func9, Try.ntmps9
    go_wp2_with fail
    go_ret
    exact ⟨ret_bool (by first | (symm; exact decide_eq_true (by omega)) | (symm; exact decide_eq_false (by omega))), below_new _ _⟩
end Go.Proofs.Ytjpnfjiccckaiaa

