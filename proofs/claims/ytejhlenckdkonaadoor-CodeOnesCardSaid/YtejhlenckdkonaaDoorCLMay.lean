/- The landed mayBe, by its contract. -/
import Derived.Test.YtejhlenckdkonaaDoorCMet
import Derived.Test.YtejhlenckdkonaaDoorCChk
namespace Go.Proofs.YtejhlenckdkonaaDoor
open Go.RowKit
set_option linter.unusedVariables false
set_option maxRecDepth 100000

def MayTold (w : World) (v : Bool) (e : Ending) (w' : World) : Prop := e = .returned (.bool v) ∧ Below w.heap.size w w'
set_option maxHeartbeats 4000000 in
theorem mayBe_3 (a sems boxes progs own : Int) (w : World) :
    Calls Tryd.prog 30 #[.agg #[.int .i64 3, .int .i64 a], .agg #[.int .i64 sems, .int .i64 boxes], .int .i64 progs, .int .i64 own] w (MayTold w (Cp.may (3, a) sems boxes progs own)) := by
  have HM := Lib.hid (show Cp.may (3, a) sems boxes progs own = (decide (0 ≤ a) && decide (a < progs)) by
    unfold Cp.may
    by_cases h : a < 0
    · have h2 : ¬ 0 ≤ a := by omega
      simp [h, h2]
    · have h2 : 0 ≤ a := by omega
      simp [h, h2])
  go_enter Tryd.func30, Tryd.ntmps30
  go_wp2_with fail
  refine (isBelow_any a progs _).mono ?_
  rintro e w1 ⟨rfl, rfl⟩
  go_wp2_with fail
  go_ret
  exact ⟨ret_bool (by rw [HM.out]; try rfl), (below_new _ _).alloc (by simp) _⟩
set_option maxHeartbeats 4000000 in
theorem mayBe_4 (a sems boxes progs own : Int) (w : World) :
    Calls Tryd.prog 30 #[.agg #[.int .i64 4, .int .i64 a], .agg #[.int .i64 sems, .int .i64 boxes], .int .i64 progs, .int .i64 own] w (MayTold w (Cp.may (4, a) sems boxes progs own)) := by
  have HM := Lib.hid (show Cp.may (4, a) sems boxes progs own = (decide (0 ≤ a) && decide (a < sems)) by
    unfold Cp.may
    by_cases h : a < 0
    · have h2 : ¬ 0 ≤ a := by omega
      simp [h, h2]
    · have h2 : 0 ≤ a := by omega
      simp [h, h2])
  go_enter Tryd.func30, Tryd.ntmps30
  go_wp2_with fail
  refine (isBelow_any a sems _).mono ?_
  rintro e w1 ⟨rfl, rfl⟩
  go_wp2_with fail
  go_ret
  exact ⟨ret_bool (by rw [HM.out]; try rfl), (below_new _ _).alloc (by simp) _⟩
set_option maxHeartbeats 4000000 in
theorem mayBe_5 (a sems boxes progs own : Int) (w : World) :
    Calls Tryd.prog 30 #[.agg #[.int .i64 5, .int .i64 a], .agg #[.int .i64 sems, .int .i64 boxes], .int .i64 progs, .int .i64 own] w (MayTold w (Cp.may (5, a) sems boxes progs own)) := by
  have HM := Lib.hid (show Cp.may (5, a) sems boxes progs own = (decide (0 ≤ a) && decide (a < sems)) by
    unfold Cp.may
    by_cases h : a < 0
    · have h2 : ¬ 0 ≤ a := by omega
      simp [h, h2]
    · have h2 : 0 ≤ a := by omega
      simp [h, h2])
  go_enter Tryd.func30, Tryd.ntmps30
  go_wp2_with fail
  refine (isBelow_any a sems _).mono ?_
  rintro e w1 ⟨rfl, rfl⟩
  go_wp2_with fail
  go_ret
  exact ⟨ret_bool (by rw [HM.out]; try rfl), (below_new _ _).alloc (by simp) _⟩
set_option maxHeartbeats 4000000 in
theorem mayBe_6 (a sems boxes progs own : Int) (w : World) :
    Calls Tryd.prog 30 #[.agg #[.int .i64 6, .int .i64 a], .agg #[.int .i64 sems, .int .i64 boxes], .int .i64 progs, .int .i64 own] w (MayTold w (Cp.may (6, a) sems boxes progs own)) := by
  have HM := Lib.hid (show Cp.may (6, a) sems boxes progs own = (decide (0 ≤ a) && decide (a < boxes)) by
    unfold Cp.may
    by_cases h : a < 0
    · have h2 : ¬ 0 ≤ a := by omega
      simp [h, h2]
    · have h2 : 0 ≤ a := by omega
      simp [h, h2])
  go_enter Tryd.func30, Tryd.ntmps30
  go_wp2_with fail
  refine (isBelow_any a boxes _).mono ?_
  rintro e w1 ⟨rfl, rfl⟩
  go_wp2_with fail
  go_ret
  exact ⟨ret_bool (by rw [HM.out]; try rfl), (below_new _ _).alloc (by simp) _⟩
set_option maxHeartbeats 4000000 in
theorem mayBe_7 (a sems boxes progs own : Int) (w : World) :
    Calls Tryd.prog 30 #[.agg #[.int .i64 7, .int .i64 a], .agg #[.int .i64 sems, .int .i64 boxes], .int .i64 progs, .int .i64 own] w (MayTold w (Cp.may (7, a) sems boxes progs own)) := by
  have HM := Lib.hid (show Cp.may (7, a) sems boxes progs own = (decide (0 ≤ a) && decide (a < boxes)) by
    unfold Cp.may
    by_cases h : a < 0
    · have h2 : ¬ 0 ≤ a := by omega
      simp [h, h2]
    · have h2 : 0 ≤ a := by omega
      simp [h, h2])
  go_enter Tryd.func30, Tryd.ntmps30
  go_wp2_with fail
  refine (isBelow_any a boxes _).mono ?_
  rintro e w1 ⟨rfl, rfl⟩
  go_wp2_with fail
  go_ret
  exact ⟨ret_bool (by rw [HM.out]; try rfl), (below_new _ _).alloc (by simp) _⟩
set_option maxHeartbeats 4000000 in
theorem mayBe_9 (a sems boxes progs own : Int) (w : World) :
    Calls Tryd.prog 30 #[.agg #[.int .i64 9, .int .i64 a], .agg #[.int .i64 sems, .int .i64 boxes], .int .i64 progs, .int .i64 own] w (MayTold w (Cp.may (9, a) sems boxes progs own)) := by
  have HM := Lib.hid (show Cp.may (9, a) sems boxes progs own = (decide (0 ≤ a) && decide (a < own)) by
    unfold Cp.may
    by_cases h : a < 0
    · have h2 : ¬ 0 ≤ a := by omega
      simp [h, h2]
    · have h2 : 0 ≤ a := by omega
      simp [h, h2])
  go_enter Tryd.func30, Tryd.ntmps30
  go_wp2_with fail
  refine (isBelow_any a own _).mono ?_
  rintro e w1 ⟨rfl, rfl⟩
  go_wp2_with fail
  go_ret
  exact ⟨ret_bool (by rw [HM.out]; try rfl), (below_new _ _).alloc (by simp) _⟩
set_option maxHeartbeats 4000000 in
theorem mayBe_2 (a sems boxes progs own : Int) (w : World) :
    Calls Tryd.prog 30 #[.agg #[.int .i64 2, .int .i64 a], .agg #[.int .i64 sems, .int .i64 boxes], .int .i64 progs, .int .i64 own] w (MayTold w (Cp.may (2, a) sems boxes progs own)) := by
  have HM := Lib.hid (show Cp.may (2, a) sems boxes progs own = (a == 0) by
    unfold Cp.may
    by_cases h : a < 0
    · have h2 : ¬ a = 0 := by omega
      simp [h, h2]
    · simp [h])
  go_enter Tryd.func30, Tryd.ntmps30
  go_wp2_with fail
  go_ret
  exact ⟨ret_bool (by rw [HM.out]; try rfl), (below_new _ _).alloc (by simp) _⟩
set_option maxHeartbeats 4000000 in
theorem mayBe_10 (a sems boxes progs own : Int) (w : World) :
    Calls Tryd.prog 30 #[.agg #[.int .i64 10, .int .i64 a], .agg #[.int .i64 sems, .int .i64 boxes], .int .i64 progs, .int .i64 own] w (MayTold w (Cp.may (10, a) sems boxes progs own)) := by
  have HM := Lib.hid (show Cp.may (10, a) sems boxes progs own = (a == 0) by
    unfold Cp.may
    by_cases h : a < 0
    · have h2 : ¬ a = 0 := by omega
      simp [h, h2]
    · simp [h])
  go_enter Tryd.func30, Tryd.ntmps30
  go_wp2_with fail
  go_ret
  exact ⟨ret_bool (by rw [HM.out]; try rfl), (below_new _ _).alloc (by simp) _⟩
set_option maxHeartbeats 4000000 in
theorem mayBe_1 (a sems boxes progs own : Int) (w : World) :
    Calls Tryd.prog 30 #[.agg #[.int .i64 1, .int .i64 a], .agg #[.int .i64 sems, .int .i64 boxes], .int .i64 progs, .int .i64 own] w (MayTold w (Cp.may (1, a) sems boxes progs own)) := by
  by_cases h1 : (-1000) ≤ a
  · by_cases h2 : a ≤ 1000
    · have HM := Lib.hid (show Cp.may (1, a) sems boxes progs own = true by unfold Cp.may; simp; omega)
      go_enter Tryd.func30, Tryd.ntmps30
      go_wp2_with fail
      go_ret
      exact ⟨ret_bool (by rw [HM.out]; try rfl), (below_new _ _).alloc (by simp) _⟩
    · have HM := Lib.hid (show Cp.may (1, a) sems boxes progs own = false by unfold Cp.may; simp; omega)
      go_enter Tryd.func30, Tryd.ntmps30
      go_wp2_with fail
      go_ret
      exact ⟨ret_bool (by rw [HM.out]; try rfl), (below_new _ _).alloc (by simp) _⟩
  · have HM := Lib.hid (show Cp.may (1, a) sems boxes progs own = false by unfold Cp.may; simp; omega)
    go_enter Tryd.func30, Tryd.ntmps30
    go_wp2_with fail
    go_ret
    exact ⟨ret_bool (by rw [HM.out]; try rfl), (below_new _ _).alloc (by simp) _⟩
set_option maxHeartbeats 4000000 in
theorem mayBe_8 (a sems boxes progs own : Int) (w : World) :
    Calls Tryd.prog 30 #[.agg #[.int .i64 8, .int .i64 a], .agg #[.int .i64 sems, .int .i64 boxes], .int .i64 progs, .int .i64 own] w (MayTold w (Cp.may (8, a) sems boxes progs own)) := by
  by_cases h1 : 1 ≤ a
  · by_cases h2 : a ≤ 1000
    · have HM := Lib.hid (show Cp.may (8, a) sems boxes progs own = true by unfold Cp.may; simp; omega)
      go_enter Tryd.func30, Tryd.ntmps30
      go_wp2_with fail
      go_ret
      exact ⟨ret_bool (by rw [HM.out]; try rfl), (below_new _ _).alloc (by simp) _⟩
    · have HM := Lib.hid (show Cp.may (8, a) sems boxes progs own = false by unfold Cp.may; simp; omega)
      go_enter Tryd.func30, Tryd.ntmps30
      go_wp2_with fail
      go_ret
      exact ⟨ret_bool (by rw [HM.out]; try rfl), (below_new _ _).alloc (by simp) _⟩
  · have HM := Lib.hid (show Cp.may (8, a) sems boxes progs own = false by unfold Cp.may; simp; omega)
    go_enter Tryd.func30, Tryd.ntmps30
    go_wp2_with fail
    go_ret
    exact ⟨ret_bool (by rw [HM.out]; try rfl), (below_new _ _).alloc (by simp) _⟩
set_option maxHeartbeats 4000000 in
theorem mayBe_out (op a sems boxes progs own : Int) (w : World) (h : ¬ (1 ≤ op ∧ op ≤ 10)) :
    Calls Tryd.prog 30 #[.agg #[.int .i64 op, .int .i64 a], .agg #[.int .i64 sems, .int .i64 boxes], .int .i64 progs, .int .i64 own] w (MayTold w (Cp.may (op, a) sems boxes progs own)) := by
  have f1 : (op == 1) = false := by rw [beq_eq_false_iff_ne]; omega
  have f2 : (op == 2) = false := by rw [beq_eq_false_iff_ne]; omega
  have f3 : (op == 3) = false := by rw [beq_eq_false_iff_ne]; omega
  have f4 : (op == 4) = false := by rw [beq_eq_false_iff_ne]; omega
  have f5 : (op == 5) = false := by rw [beq_eq_false_iff_ne]; omega
  have f6 : (op == 6) = false := by rw [beq_eq_false_iff_ne]; omega
  have f7 : (op == 7) = false := by rw [beq_eq_false_iff_ne]; omega
  have f8 : (op == 8) = false := by rw [beq_eq_false_iff_ne]; omega
  have f9 : (op == 9) = false := by rw [beq_eq_false_iff_ne]; omega
  have f10 : (op == 10) = false := by rw [beq_eq_false_iff_ne]; omega
  have HM := Lib.hid (show Cp.may (op, a) sems boxes progs own = false by
    unfold Cp.may
    simp only
    rw [if_neg (by omega), if_neg (by omega)]
    by_cases h0 : a < 0
    · rw [if_pos h0]
    · rw [if_neg h0, if_neg (by omega), if_neg (by omega), if_neg (by omega), if_neg (by omega), if_neg (by omega), if_neg (by omega), if_neg (by omega), if_neg (by omega)])
  clear h
  go_enter Tryd.func30, Tryd.ntmps30
  go_wp2_with fail
  go_ret
  exact ⟨ret_bool (by rw [HM.out]; try rfl), (below_new _ _).alloc (by simp) _⟩
theorem mayBe_any (op a sems boxes progs own : Int) (w : World) :
    Calls Tryd.prog 30 #[.agg #[.int .i64 op, .int .i64 a], .agg #[.int .i64 sems, .int .i64 boxes], .int .i64 progs, .int .i64 own] w (MayTold w (Cp.may (op, a) sems boxes progs own)) := by
  by_cases h : 1 ≤ op ∧ op ≤ 10
  · have hc : op = 1 ∨ op = 2 ∨ op = 3 ∨ op = 4 ∨ op = 5 ∨ op = 6 ∨ op = 7 ∨ op = 8 ∨ op = 9 ∨ op = 10 := by omega
    rcases hc with rfl | rfl | rfl | rfl | rfl | rfl | rfl | rfl | rfl | rfl
    · exact mayBe_1 a sems boxes progs own w
    · exact mayBe_2 a sems boxes progs own w
    · exact mayBe_3 a sems boxes progs own w
    · exact mayBe_4 a sems boxes progs own w
    · exact mayBe_5 a sems boxes progs own w
    · exact mayBe_6 a sems boxes progs own w
    · exact mayBe_7 a sems boxes progs own w
    · exact mayBe_8 a sems boxes progs own w
    · exact mayBe_9 a sems boxes progs own w
    · exact mayBe_10 a sems boxes progs own w
  · exact mayBe_out op a sems boxes progs own w h
end Go.Proofs.YtejhlenckdkonaaDoor

