/- The document's example at the head of all statements: it is as shown. -/
import Derived.Test.YtfcbpfopibilcaaCheck
import Derived.Test.YtfcbpfopibilcaaRefs
import Derived.Test.YtfcbpfopibilcaaUp
namespace Go.Proofs.Ytfcbpfopibilcaa
open Go.RowKit
set_option linter.unusedVariables false

def vs0 : List (Int × Int) := [(-1, 0), (0, 1), (1, 2), (2, 3), (2, 3)]
theorem row0 (w : World) : VRow (w.alloc (.cells #[.int .i64 (-1), .int .i64 0, .int .i64 0, .int .i64 1, .int .i64 1, .int .i64 2, .int .i64 2, .int .i64 3, .int .i64 2, .int .i64 3] 34)) (w.heap.size + 1) (some ⟨w.heap.size, 0, none⟩) vs0 := by
  intro i x hi
  have hl : i < 5 := (List.getElem?_eq_some_iff.1 hi).1
  refine ⟨_, _, rfl, by omega, ?_, ?_⟩ <;> rw [World.cell?_alloc_at _ _ _ _ rfl] <;>
    (match i, hl, hi with
     | 0, _, hi | 1, _, hi | 2, _, hi | 3, _, hi | 4, _, hi => injection hi with hi; subst hi; rfl)
theorem pair_row (w : World) : IRow (w.alloc (.cells #[.int .i64 3, .int .i64 4] 3)) (w.heap.size + 1) (some ⟨w.heap.size, 0, none⟩) [3, 4] := by
  intro i x hi
  have hl : i < 2 := (List.getElem?_eq_some_iff.1 hi).1
  refine ⟨_, _, rfl, by omega, ?_⟩
  rw [World.cell?_alloc_at _ _ _ _ rfl]
  match i, hl, hi with
  | 0, _, hi | 1, _, hi => injection hi with hi; subst hi; rfl
theorem fit0 : Fit vs0 := by
  intro x hx
  simp only [vs0, List.mem_cons, List.not_mem_nil, or_false] at hx
  rcases hx with rfl | rfl | rfl | rfl | rfl <;> exact ⟨⟨by decide, by decide⟩, ⟨by decide, by decide⟩⟩
theorem may0 : Tp.errno (Tp.may vs0) = 0 := by decide
theorem procs0 : Tp.those (levelP 3) vs0 = [3, 4] := by decide
theorem up0 : Tp.up vs0 1 5 4 = 1 := by decide

theorem shown_any (w : World) : Calls Try.prog 9 #[] w fun e w' => e = .returned (.bool true) ∧ Below w.heap.size w w' := by
  have hr := row0 w
  have hf := Lib.hid fit0
  have hb0 := below1 w (.cells #[.int .i64 (-1), .int .i64 0, .int .i64 0, .int .i64 1, .int .i64 1, .int .i64 2, .int .i64 2, .int .i64 3, .int .i64 2, .int .i64 3] 34)
  go_enter Try.func9, Try.ntmps9
  go_wp2_with fail
  refine (check_any _ 5 5 vs0 _ (Lib.hid rfl) (by omega) hf (by simpa using hr)).mono ?_
  rintro e w1 ⟨he, hb1⟩
  rw [may0] at he
  subst he
  have hbe1 := hb0.trans (hb1.mono (by simp))
  have hr1 : VRow w1 (w.heap.size + 1) (some ⟨w.heap.size, 0, none⟩) vs0 := hr.below (hb1.mono (by simp))
  have hs1 : w.heap.size + 1 ≤ w1.heap.size := by have := hb1.size; simpa using this
  clear hr hb0 hb1
  go_wp2_with fail
  refine (procs_any _ 5 5 vs0 _ (Lib.hid rfl) (by omega) (by omega) (hr1.more hs1)).mono ?_
  rintro e w2 ⟨A2, c2, he, hI, hb2⟩
  rw [procs0] at he hI
  subst he
  have hbe2 := hbe1.trans (hb2.mono hbe1.size)
  have hr2 := hr1.below (hb2.mono hs1)
  have hs2 := Nat.le_trans hs1 hb2.size
  clear hr1 hb2 hs1
  have hp := pair_row w2
  have hI' : IRow (w2.alloc (.cells #[.int .i64 3, .int .i64 4] 3)) w2.heap.size A2 [3, 4] := hI.below (below1 _ _)
  go_wp2_with fail
  refine (ints_same A2 _ 2 c2 2 [3, 4] _ (Lib.hid rfl) (by omega) (hI'.more (by simp)) (by simpa using hp)).mono ?_
  rintro e w3 ⟨rfl, hb3⟩
  have hb4 : Below w2.heap.size w2 w3 := (below1 _ _).trans (hb3.mono (by simp))
  have hbe3 := hbe2.trans (hb4.mono hbe2.size)
  have hr3 := hr2.below (hb4.mono hs2)
  have hs3 := Nat.le_trans hs2 hb4.size
  clear hr2 hI hI' hp hb3 hb4
  go_wp2_with fail
  refine (up_any _ 5 5 vs0 4 1 _ (Lib.hid rfl) (by omega) (hr3.more hs3)).mono ?_
  rintro e w4 ⟨he, hb4⟩
  rw [up0] at he
  subst he
  have hbe4 := hbe3.trans (hb4.mono hbe3.size)
  go_wp2_with fail
  go_ret
  exact ⟨rfl, hbe4⟩
end Go.Proofs.Ytfcbpfopibilcaa

