/- Arguments that came in, opened: a slice of numbers; a semaphore. -/
import Derived.Test.YtlcgadcbeoljbaaFrame
import Derived.Test.YtlcgadcbeoljbaaRRow
import Derived.ChangeSlices
import Derived.Lib.SmallJoins
namespace Go.Proofs.Ytlcgadcbeoljbaa
open Go.ChangeShapes Go.WideShapes Go.ChangeAt Go.RowKit
set_option linter.unusedVariables false

theorem open_row {H : Type} {enc : TypeId × Value → H} {W : World} {base : Nat} {spare : Nat → Bool} {held : Bool} {v : Value} {x : DataW H × List MemPlace} {fuel : Nat}
    (h : DataW.trod enc Try.prog W base spare held fuel 24 [v] = some x) : ∃ A n c zs, v = .slice A n c ∧ Row W A n c zs ∧ ∀ z ∈ zs, In64 z := by
  rcases open_ints Try.underlying24 Try.underlying3 (by kernel_rfl) h with ⟨hcs, _⟩ | ⟨a, len, cap, zs, hcs, _, hl, hm, hz, _, hcell, hw⟩
  · simp at hcs
    subst hcs
    exact ⟨none, 0, 0, [], rfl, Row.nothing _, fun z hz => by simp at hz⟩
  · simp only [List.cons.injEq, and_true] at hcs
    subst hcs
    have hzl : len ≤ zs.length := by rw [hz]; split <;> omega
    refine ⟨some a, len, cap, zs.take len, rfl, ⟨by rw [List.length_take]; omega, hl, by unfold maxLen at hm; omega, (fun e => by cases e), fun i z hi => ?_⟩, fun z hz => in64_of_wf (hw z (List.mem_of_mem_take hz))⟩
    have hil : i < len := by have := (List.getElem?_eq_some_iff.1 hi).1; rw [List.length_take] at this; omega
    rw [List.getElem?_take, if_pos hil] at hi
    have hc := hcell i (by omega)
    rw [show zs.getD i 0 = z by rw [List.getD, hi]; rfl] at hc
    obtain ⟨ab, ao, sp⟩ := a
    have hs : sp = none := by
      have := World.cell?_spot (hcell 0 (by omega))
      simpa [Addr.add] using this
    subst hs
    rw [add_lit'] at hc
    exact ⟨ab, ao, rfl, World.block_lt_of_cell? _ _ hc, hc⟩
/-- A semaphore that came in: its two parts. -/
theorem open_sem {H : Type} {enc : TypeId × Value → H} {W : World} {base b0 : Nat} {spare : Nat → Bool} {held : Bool} {v : Value} {d : DataW H} {p : List MemPlace}
    (hv : Value.okWide Try.prog W .any b0 34 v) (h : DataW.Trod enc Try.prog W base spare held 34 v d p) : ∃ x A n c zs, v = .agg #[.int .i64 x, .slice A n c] ∧ Row W A n c zs := by
  obtain ⟨c0, c1, y0, y1, m, rfl, rfl, rfl, hy0, hy1⟩ := Go.Joins.open_agg2 Try.underlying34 (by kernel_rfl) (by kernel_rfl) hv h
  obtain ⟨x, e0, _, w0⟩ := DataW.trod_int Try.underlying3 hy0
  injection e0 with e0 _
  subst e0
  obtain ⟨A, n, c, zs, rfl, hr, _⟩ := open_row hy1
  exact ⟨x, A, n, c, zs, rfl, hr⟩
end Go.Proofs.Ytlcgadcbeoljbaa

