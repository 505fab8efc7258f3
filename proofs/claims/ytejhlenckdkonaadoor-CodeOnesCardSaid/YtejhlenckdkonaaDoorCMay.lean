/- The document's May, by its contract. -/
import Derived.Test.YtejhlenckdkonaaDoorCLine
import Derived.Test.YtejhlenckdkonaaDoorCCheck
namespace Go.Proofs.YtejhlenckdkonaaDoor
open Go.RowKit
set_option linter.unusedVariables false

set_option maxHeartbeats 4000000 in
theorem refMay_2 (a sems boxes progs size : Int) (w : World) :
    Calls Tryd.prog 21 #[.agg #[.int .i64 2, .int .i64 a], .int .i64 sems, .int .i64 boxes, .int .i64 progs, .int .i64 size] w fun e w' => e = .returned (.bool (Cp.may (2, a) sems boxes progs size)) ∧ Below w.heap.size w w' := by
  by_cases h0 : a < 0
  · have HM := Lib.hid (show Cp.may (2, a) sems boxes progs size = false by unfold Cp.may; simp [h0])
    go_enter Tryd.func21, Tryd.ntmps21
    go_wp2_with fail
    go_ret
    exact ⟨ret_bool (by rw [HM.out]; try rfl), below_new _ _⟩
  · have HM := Lib.hid (show Cp.may (2, a) sems boxes progs size = (a == 0) by unfold Cp.may; simp [h0])
    go_enter Tryd.func21, Tryd.ntmps21
    go_wp2_with fail
    go_ret
    exact ⟨ret_bool (by rw [HM.out]; try rfl), below_new _ _⟩
set_option maxHeartbeats 4000000 in
theorem refMay_10 (a sems boxes progs size : Int) (w : World) :
    Calls Tryd.prog 21 #[.agg #[.int .i64 10, .int .i64 a], .int .i64 sems, .int .i64 boxes, .int .i64 progs, .int .i64 size] w fun e w' => e = .returned (.bool (Cp.may (10, a) sems boxes progs size)) ∧ Below w.heap.size w w' := by
  by_cases h0 : a < 0
  · have HM := Lib.hid (show Cp.may (10, a) sems boxes progs size = false by unfold Cp.may; simp [h0])
    go_enter Tryd.func21, Tryd.ntmps21
    go_wp2_with fail
    go_ret
    exact ⟨ret_bool (by rw [HM.out]; try rfl), below_new _ _⟩
  · have HM := Lib.hid (show Cp.may (10, a) sems boxes progs size = (a == 0) by unfold Cp.may; simp [h0])
    go_enter Tryd.func21, Tryd.ntmps21
    go_wp2_with fail
    go_ret
    exact ⟨ret_bool (by rw [HM.out]; try rfl), below_new _ _⟩
set_option maxHeartbeats 4000000 in
theorem refMay_3 (a sems boxes progs size : Int) (w : World) :
    Calls Tryd.prog 21 #[.agg #[.int .i64 3, .int .i64 a], .int .i64 sems, .int .i64 boxes, .int .i64 progs, .int .i64 size] w fun e w' => e = .returned (.bool (Cp.may (3, a) sems boxes progs size)) ∧ Below w.heap.size w w' := by
  by_cases h0 : a < 0
  · have HM := Lib.hid (show Cp.may (3, a) sems boxes progs size = false by unfold Cp.may; simp [h0])
    go_enter Tryd.func21, Tryd.ntmps21
    go_wp2_with fail
    go_ret
    exact ⟨ret_bool (by rw [HM.out]; try rfl), below_new _ _⟩
  · have HM := Lib.hid (show Cp.may (3, a) sems boxes progs size = (decide (a < progs)) by unfold Cp.may; simp [h0])
    go_enter Tryd.func21, Tryd.ntmps21
    go_wp2_with fail
    go_ret
    exact ⟨ret_bool (by rw [HM.out]; try rfl), below_new _ _⟩
set_option maxHeartbeats 4000000 in
theorem refMay_4 (a sems boxes progs size : Int) (w : World) :
    Calls Tryd.prog 21 #[.agg #[.int .i64 4, .int .i64 a], .int .i64 sems, .int .i64 boxes, .int .i64 progs, .int .i64 size] w fun e w' => e = .returned (.bool (Cp.may (4, a) sems boxes progs size)) ∧ Below w.heap.size w w' := by
  by_cases h0 : a < 0
  · have HM := Lib.hid (show Cp.may (4, a) sems boxes progs size = false by unfold Cp.may; simp [h0])
    go_enter Tryd.func21, Tryd.ntmps21
    go_wp2_with fail
    go_ret
    exact ⟨ret_bool (by rw [HM.out]; try rfl), below_new _ _⟩
  · have HM := Lib.hid (show Cp.may (4, a) sems boxes progs size = (decide (a < sems)) by unfold Cp.may; simp [h0])
    go_enter Tryd.func21, Tryd.ntmps21
    go_wp2_with fail
    go_ret
    exact ⟨ret_bool (by rw [HM.out]; try rfl), below_new _ _⟩
set_option maxHeartbeats 4000000 in
theorem refMay_5 (a sems boxes progs size : Int) (w : World) :
    Calls Tryd.prog 21 #[.agg #[.int .i64 5, .int .i64 a], .int .i64 sems, .int .i64 boxes, .int .i64 progs, .int .i64 size] w fun e w' => e = .returned (.bool (Cp.may (5, a) sems boxes progs size)) ∧ Below w.heap.size w w' := by
  by_cases h0 : a < 0
  · have HM := Lib.hid (show Cp.may (5, a) sems boxes progs size = false by unfold Cp.may; simp [h0])
    go_enter Tryd.func21, Tryd.ntmps21
    go_wp2_with fail
    go_ret
    exact ⟨ret_bool (by rw [HM.out]; try rfl), below_new _ _⟩
  · have HM := Lib.hid (show Cp.may (5, a) sems boxes progs size = (decide (a < sems)) by unfold Cp.may; simp [h0])
    go_enter Tryd.func21, Tryd.ntmps21
    go_wp2_with fail
    go_ret
    exact ⟨ret_bool (by rw [HM.out]; try rfl), below_new _ _⟩
set_option maxHeartbeats 4000000 in
theorem refMay_6 (a sems boxes progs size : Int) (w : World) :
    Calls Tryd.prog 21 #[.agg #[.int .i64 6, .int .i64 a], .int .i64 sems, .int .i64 boxes, .int .i64 progs, .int .i64 size] w fun e w' => e = .returned (.bool (Cp.may (6, a) sems boxes progs size)) ∧ Below w.heap.size w w' := by
  by_cases h0 : a < 0
  · have HM := Lib.hid (show Cp.may (6, a) sems boxes progs size = false by unfold Cp.may; simp [h0])
    go_enter Tryd.func21, Tryd.ntmps21
    go_wp2_with fail
    go_ret
    exact ⟨ret_bool (by rw [HM.out]; try rfl), below_new _ _⟩
  · have HM := Lib.hid (show Cp.may (6, a) sems boxes progs size = (decide (a < boxes)) by unfold Cp.may; simp [h0])
    go_enter Tryd.func21, Tryd.ntmps21
    go_wp2_with fail
    go_ret
    exact ⟨ret_bool (by rw [HM.out]; try rfl), below_new _ _⟩
set_option maxHeartbeats 4000000 in
theorem refMay_7 (a sems boxes progs size : Int) (w : World) :
    Calls Tryd.prog 21 #[.agg #[.int .i64 7, .int .i64 a], .int .i64 sems, .int .i64 boxes, .int .i64 progs, .int .i64 size] w fun e w' => e = .returned (.bool (Cp.may (7, a) sems boxes progs size)) ∧ Below w.heap.size w w' := by
  by_cases h0 : a < 0
  · have HM := Lib.hid (show Cp.may (7, a) sems boxes progs size = false by unfold Cp.may; simp [h0])
    go_enter Tryd.func21, Tryd.ntmps21
    go_wp2_with fail
    go_ret
    exact ⟨ret_bool (by rw [HM.out]; try rfl), below_new _ _⟩
  · have HM := Lib.hid (show Cp.may (7, a) sems boxes progs size = (decide (a < boxes)) by unfold Cp.may; simp [h0])
    go_enter Tryd.func21, Tryd.ntmps21
    go_wp2_with fail
    go_ret
    exact ⟨ret_bool (by rw [HM.out]; try rfl), below_new _ _⟩
set_option maxHeartbeats 4000000 in
theorem refMay_9 (a sems boxes progs size : Int) (w : World) :
    Calls Tryd.prog 21 #[.agg #[.int .i64 9, .int .i64 a], .int .i64 sems, .int .i64 boxes, .int .i64 progs, .int .i64 size] w fun e w' => e = .returned (.bool (Cp.may (9, a) sems boxes progs size)) ∧ Below w.heap.size w w' := by
  by_cases h0 : a < 0
  · have HM := Lib.hid (show Cp.may (9, a) sems boxes progs size = false by unfold Cp.may; simp [h0])
    go_enter Tryd.func21, Tryd.ntmps21
    go_wp2_with fail
    go_ret
    exact ⟨ret_bool (by rw [HM.out]; try rfl), below_new _ _⟩
  · have HM := Lib.hid (show Cp.may (9, a) sems boxes progs size = (decide (a < size)) by unfold Cp.may; simp [h0])
    go_enter Tryd.func21, Tryd.ntmps21
    go_wp2_with fail
    go_ret
    exact ⟨ret_bool (by rw [HM.out]; try rfl), below_new _ _⟩
set_option maxHeartbeats 4000000 in
theorem refMay_1 (a sems boxes progs size : Int) (w : World) :
    Calls Tryd.prog 21 #[.agg #[.int .i64 1, .int .i64 a], .int .i64 sems, .int .i64 boxes, .int .i64 progs, .int .i64 size] w fun e w' => e = .returned (.bool (Cp.may (1, a) sems boxes progs size)) ∧ Below w.heap.size w w' := by
  by_cases h0 : -1000 ≤ a
  · have HM := Lib.hid (show Cp.may (1, a) sems boxes progs size = decide (a ≤ 1000) by unfold Cp.may; simp [h0])
    go_enter Tryd.func21, Tryd.ntmps21
    go_wp2_with fail
    go_ret
    exact ⟨ret_bool (by rw [HM.out]; try rfl), below_new _ _⟩
  · have HM := Lib.hid (show Cp.may (1, a) sems boxes progs size = false by unfold Cp.may; simp [h0])
    go_enter Tryd.func21, Tryd.ntmps21
    go_wp2_with fail
    go_ret
    exact ⟨ret_bool (by rw [HM.out]; try rfl), below_new _ _⟩
set_option maxHeartbeats 4000000 in
theorem refMay_8 (a sems boxes progs size : Int) (w : World) :
    Calls Tryd.prog 21 #[.agg #[.int .i64 8, .int .i64 a], .int .i64 sems, .int .i64 boxes, .int .i64 progs, .int .i64 size] w fun e w' => e = .returned (.bool (Cp.may (8, a) sems boxes progs size)) ∧ Below w.heap.size w w' := by
  by_cases h0 : 0 < a
  · have HM := Lib.hid (show Cp.may (8, a) sems boxes progs size = decide (a ≤ 1000) by unfold Cp.may; simp [h0])
    go_enter Tryd.func21, Tryd.ntmps21
    go_wp2_with fail
    go_ret
    exact ⟨ret_bool (by rw [HM.out]; try rfl), below_new _ _⟩
  · have HM := Lib.hid (show Cp.may (8, a) sems boxes progs size = false by unfold Cp.may; simp [h0])
    go_enter Tryd.func21, Tryd.ntmps21
    go_wp2_with fail
    go_ret
    exact ⟨ret_bool (by rw [HM.out]; try rfl), below_new _ _⟩
set_option maxHeartbeats 4000000 in
theorem refMay_none (op a sems boxes progs size : Int) (w : World) (h : op < 1 ∨ 10 < op) :
    Calls Tryd.prog 21 #[.agg #[.int .i64 op, .int .i64 a], .int .i64 sems, .int .i64 boxes, .int .i64 progs, .int .i64 size] w fun e w' => e = .returned (.bool (Cp.may (op, a) sems boxes progs size)) ∧ Below w.heap.size w w' := by
  have n1 : ¬ op = 1 := by omega
  have n2 : ¬ op = 2 := by omega
  have n3 : ¬ op = 3 := by omega
  have n4 : ¬ op = 4 := by omega
  have n5 : ¬ op = 5 := by omega
  have n6 : ¬ op = 6 := by omega
  have n7 : ¬ op = 7 := by omega
  have n8 : ¬ op = 8 := by omega
  have n9 : ¬ op = 9 := by omega
  have n10 : ¬ op = 10 := by omega
  have HM := Lib.hid (show Cp.may (op, a) sems boxes progs size = false by unfold Cp.may; simp [*])
  have t1 : (op == 1) = false := by rw [beq_eq_false_iff_ne]; exact n1
  have t2 : (op == 2) = false := by rw [beq_eq_false_iff_ne]; exact n2
  have t3 : (op == 3) = false := by rw [beq_eq_false_iff_ne]; exact n3
  have t4 : (op == 4) = false := by rw [beq_eq_false_iff_ne]; exact n4
  have t5 : (op == 5) = false := by rw [beq_eq_false_iff_ne]; exact n5
  have t6 : (op == 6) = false := by rw [beq_eq_false_iff_ne]; exact n6
  have t7 : (op == 7) = false := by rw [beq_eq_false_iff_ne]; exact n7
  have t8 : (op == 8) = false := by rw [beq_eq_false_iff_ne]; exact n8
  have t9 : (op == 9) = false := by rw [beq_eq_false_iff_ne]; exact n9
  have t10 : (op == 10) = false := by rw [beq_eq_false_iff_ne]; exact n10
  clear n1 n2 n3 n4 n5 n6 n7 n8 n9 n10 h
  by_cases h0 : a < 0
  · clear HM
    have HM := Lib.hid (show Cp.may (op, a) sems boxes progs size = false by unfold Cp.may; simp_all)
    go_enter Tryd.func21, Tryd.ntmps21
    go_wp2_with fail
    go_ret
    exact ⟨ret_bool (by rw [HM.out]; try rfl), below_new _ _⟩
  · skip
    go_enter Tryd.func21, Tryd.ntmps21
    go_wp2_with fail
    go_ret
    exact ⟨ret_bool (by rw [HM.out]; try rfl), below_new _ _⟩
theorem refMay_any (op a sems boxes progs size : Int) (w : World) :
    Calls Tryd.prog 21 #[.agg #[.int .i64 op, .int .i64 a], .int .i64 sems, .int .i64 boxes, .int .i64 progs, .int .i64 size] w fun e w' => e = .returned (.bool (Cp.may (op, a) sems boxes progs size)) ∧ Below w.heap.size w w' := by
  have hc : op = 1 ∨ op = 2 ∨ op = 3 ∨ op = 4 ∨ op = 5 ∨ op = 6 ∨ op = 7 ∨ op = 8 ∨ op = 9 ∨ op = 10 ∨ (op < 1 ∨ 10 < op) := by omega
  rcases hc with rfl | rfl | rfl | rfl | rfl | rfl | rfl | rfl | rfl | rfl | h
  · exact refMay_1 a sems boxes progs size w
  · exact refMay_2 a sems boxes progs size w
  · exact refMay_3 a sems boxes progs size w
  · exact refMay_4 a sems boxes progs size w
  · exact refMay_5 a sems boxes progs size w
  · exact refMay_6 a sems boxes progs size w
  · exact refMay_7 a sems boxes progs size w
  · exact refMay_8 a sems boxes progs size w
  · exact refMay_9 a sems boxes progs size w
  · exact refMay_10 a sems boxes progs size w
  · exact refMay_none op a sems boxes progs size w h
end Go.Proofs.YtejhlenckdkonaaDoor

