/- Arguments that came in, opened: a slice of bytes. -/
import Derived.Test.YtgknbjiocgcmdaaFrame
import Derived.Test.YtgknbjiocgcmdaaRRow
import Derived.ChangeSlices
import Derived.Lib.SmallJoins
namespace Go.Proofs.Ytgknbjiocgcmdaa
open Go.ChangeShapes Go.WideShapes Go.ChangeAt Go.RowKit
set_option linter.unusedVariables false

/-- The bytes behind a slice's address. -/
def BRow (w : World) (A : Option Addr) (zs : List Int) : Prop :=
  ∀ i z, zs[i]? = some z → ∃ b off, A = some ⟨b, off, none⟩ ∧ b < w.heap.size ∧ w.cell? ⟨b, off + i, none⟩ = some (.int .u8 z) ∧ 0 ≤ z ∧ z ≤ 255
theorem BRow.below {w w' : World} {A : Option Addr} {zs : List Int} (h : BRow w A zs) (hb : Below w.heap.size w w') : BRow w' A zs := by
  intro i z hi
  obtain ⟨b, off, e, hlt, hc, h0, h1⟩ := h i z hi
  exact ⟨b, off, e, Nat.lt_of_lt_of_le hlt hb.size, keepcell hb hc, h0, h1⟩
theorem open_bytes {H : Type} {enc : TypeId × Value → H} {W : World} {base : Nat} {spare : Nat → Bool} {held : Bool} {v : Value} {x : DataW H × List MemPlace} {fuel : Nat}
    (h : DataW.trod enc Try.prog W base spare held fuel 52 [v] = some x) : ∃ A n c zs, v = .slice A n c ∧ (zs.length = n ∧ n ≤ 9223372036854775807) ∧ BRow W A zs := by
  rcases open_ints Try.underlying52 Try.underlying5 (by kernel_rfl) h with ⟨hcs, _⟩ | ⟨a, len, cap, zs, hcs, _, hl, hm, hz, _, hcell, hw⟩
  · simp at hcs
    subst hcs
    exact ⟨none, 0, 0, [], rfl, ⟨rfl, by omega⟩, fun i z hz => by simp at hz⟩
  · simp only [List.cons.injEq, and_true] at hcs
    subst hcs
    have hzl : len ≤ zs.length := by rw [hz]; split <;> omega
    refine ⟨some a, len, cap, zs.take len, rfl, ⟨by rw [List.length_take]; omega, by unfold maxLen at hm; omega⟩, fun i z hi => ?_⟩
    have hil : i < len := by have := (List.getElem?_eq_some_iff.1 hi).1; rw [List.length_take] at this; omega
    rw [List.getElem?_take, if_pos hil] at hi
    have hwf := hw z (List.mem_of_getElem? hi)
    have hu : 0 ≤ z ∧ z ≤ 255 := by simpa [Lit.wf, IntKind.min, IntKind.max, IntKind.signed, IntKind.bits] using hwf
    have hc := hcell i (by omega)
    rw [show zs.getD i 0 = z by rw [List.getD, hi]; rfl] at hc
    obtain ⟨ab, ao, sp⟩ := a
    have hs : sp = none := by
      have := World.cell?_spot (hcell 0 (by omega))
      simpa [Addr.add] using this
    subst hs
    rw [add_lit'] at hc
    exact ⟨ab, ao, rfl, World.block_lt_of_cell? _ _ hc, hc, hu.1, hu.2⟩
end Go.Proofs.Ytgknbjiocgcmdaa

