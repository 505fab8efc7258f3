/- The document's example at the head of all statements of layer 2: it is as shown. -/
import Derived.Test.YtkjcihdejileoaaDist
namespace Go.Proofs.Ytkjcihdejileoaa
open Go.RowKit
set_option linter.unusedVariables false

def vs0 : List (Int × Int) := [(-1, 0), (0, 1), (1, 2), (2, 3), (2, 3), (0, 1), (5, 2), (6, 3), (6, 3)]
theorem below1' (w : World) (o : Obj) : Below w.heap.size w (w.alloc o) := (Below.refl _ _).alloc (Nat.le_refl _) o
theorem fit0 : Fit vs0 := by
  intro x hx
  simp only [vs0, List.mem_cons, List.not_mem_nil, or_false] at hx
  rcases hx with rfl | rfl | rfl | rfl | rfl | rfl | rfl | rfl | rfl <;> exact ⟨⟨by decide, by decide⟩, ⟨by decide, by decide⟩⟩
theorem far01 : Dp.far vs0 0 1 = 1 := by decide +kernel
theorem far02 : Dp.far vs0 0 2 = 3 := by decide +kernel
theorem near3 : Dp.near vs0 3 = [2, 0, 1] := by decide +kernel
theorem node2 : Dp.node vs0 2 = 1 := by decide +kernel

theorem two_any (w : World) : Calls Try.prog 23 #[] w fun e w' => ∃ A, e = .returned (.slice A 9 9) ∧ VRow w' w'.heap.size A vs0 ∧ Below w.heap.size w w' := by
  go_enter Try.func23, Try.ntmps23
  go_wp2
  go_ret
  refine ⟨_, rfl, ?_, below1' _ _⟩
  intro i x hi
  have hl : i < 9 := (List.getElem?_eq_some_iff.1 hi).1
  refine ⟨_, _, rfl, by simp, ?_, ?_⟩ <;> rw [World.cell?_alloc_at _ _ _ _ rfl] <;>
    (match i, hl, hi with
     | 0, _, hi | 1, _, hi | 2, _, hi | 3, _, hi | 4, _, hi | 5, _, hi | 6, _, hi | 7, _, hi | 8, _, hi => injection hi with hi; subst hi; rfl)
theorem three_row (w : World) : IRow (w.alloc (.cells #[.int .i64 2, .int .i64 0, .int .i64 1] 3)) (w.heap.size + 1) (some ⟨w.heap.size, 0, none⟩) [2, 0, 1] := by
  intro i x hi
  have hl : i < 3 := (List.getElem?_eq_some_iff.1 hi).1
  refine ⟨_, _, rfl, by omega, ?_⟩
  rw [World.cell?_alloc_at _ _ _ _ rfl]
  match i, hl, hi with
  | 0, _, hi | 1, _, hi | 2, _, hi => injection hi with hi; subst hi; rfl
theorem shown_any (w : World) : Calls Try.prog 10 #[] w fun e w' => e = .returned (.bool true) ∧ Below w.heap.size w w' := by
  have hf := Lib.hid fit0
  go_enter Try.func10, Try.ntmps10
  go_wp2_with fail
  refine (two_any _).mono ?_
  rintro e w1 ⟨A, rfl, hr1, hb1⟩
  go_wp2_with fail
  refine (far_any _ 9 9 vs0 0 1 _ (Lib.hid rfl) (by omega) hf hr1).mono ?_
  rintro e w2 ⟨he, hb2⟩
  rw [far01] at he
  subst he
  have hbe2 := hb1.trans (hb2.mono hb1.size)
  have hr2 := (hr1.below hb2).more hb2.size
  clear hr1 hb1 hb2
  go_wp2_with fail
  refine (far_any _ 9 9 vs0 0 2 _ (Lib.hid rfl) (by omega) hf hr2).mono ?_
  rintro e w3 ⟨he, hb3⟩
  rw [far02] at he
  subst he
  have hbe3 := hbe2.trans (hb3.mono hbe2.size)
  have hr3 := (hr2.below hb3).more hb3.size
  clear hr2 hbe2 hb3
  go_wp2_with fail
  refine (near_any _ 9 9 vs0 3 _ (Lib.hid rfl) (by omega) hf hr3).mono ?_
  rintro e w4 ⟨A4, c4, he, hI, hb4⟩
  rw [near3] at he hI
  subst he
  have hbe4 := hbe3.trans (hb4.mono hbe3.size)
  have hr4 := (hr3.below hb4).more hb4.size
  clear hr3 hbe3 hb4
  have hp := three_row w4
  have hI' : IRow (w4.alloc (.cells #[.int .i64 2, .int .i64 0, .int .i64 1] 3)) w4.heap.size A4 [2, 0, 1] := hI.below (below1' _ _)
  go_wp2_with fail
  refine (ints_same A4 _ 3 c4 3 [2, 0, 1] _ (Lib.hid rfl) (by omega) (hI'.more (by simp)) (by simpa using hp)).mono ?_
  rintro e w5 ⟨rfl, hb5⟩
  have hb6 : Below w4.heap.size w4 w5 := (below1' _ _).trans (hb5.mono (by simp))
  have hbe5 := hbe4.trans (hb6.mono hbe4.size)
  have hr5 := (hr4.below hb6).more hb6.size
  clear hr4 hI hI' hp hb5 hb6 hbe4
  go_wp2_with fail
  refine (node_any _ 9 9 vs0 2 _ (Lib.hid rfl) (by omega) hf hr5).mono ?_
  rintro e w6 ⟨he, hb6⟩
  rw [node2] at he
  subst he
  have hbe6 := hbe5.trans (hb6.mono hbe5.size)
  go_wp2_with fail
  go_ret
  exact ⟨rfl, hbe6⟩
end Go.Proofs.Ytkjcihdejileoaa

