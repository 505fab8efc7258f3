/- Arguments that came in, opened: a slice of 16-bit numbers, a cost of the document's. -/
import Derived.Test.YtceboejhdgjgoaaFrame
import Derived.Test.YtceboejhdgjgoaaRRow
import Derived.Test.YtceboejhdgjgoaaGRef
import Derived.ChangeSlices
import Derived.Lib.SmallJoins
import Derived.Laws.StructEq
namespace Go.Proofs.Ytceboejhdgjgoaa
open Go.ChangeShapes Go.WideShapes Go.ChangeAt Go.RowKit
set_option linter.unusedVariables false

/-- The 16-bit numbers behind a slice's address. -/
def WRow (w : World) (A : Option Addr) (zs : List Int) : Prop :=
  ∀ i z, zs[i]? = some z → ∃ b off, A = some ⟨b, off, none⟩ ∧ b < w.heap.size ∧ w.cell? ⟨b, off + i, none⟩ = some (.int .u16 z) ∧ 0 ≤ z ∧ z ≤ 65535
theorem WRow.below {w w' : World} {A : Option Addr} {zs : List Int} (h : WRow w A zs) (hb : Below w.heap.size w w') : WRow w' A zs := by
  intro i z hi
  obtain ⟨b, off, e, hlt, hc, h0, h1⟩ := h i z hi
  exact ⟨b, off, e, Nat.lt_of_lt_of_le hlt hb.size, keepcell hb hc, h0, h1⟩
theorem WRow.at {w : World} {b off : Nat} {zs : List Int} (h : WRow w (some ⟨b, off, none⟩) zs) {i : Nat} {z : Int} (hi : zs[i]? = some z) : w.cell? ⟨b, off + i, none⟩ = some (.int .u16 z) := by
  obtain ⟨b', off', e, _, hc, _⟩ := h i z hi
  injection e with e
  injection e with e1 e2
  subst e1 e2
  exact hc
theorem WRow.words {w : World} {A : Option Addr} {zs : List Int} (h : WRow w A zs) : ∀ z ∈ zs, 0 ≤ z ∧ z ≤ 65535 := fun z hz => by
  obtain ⟨i, hi⟩ := List.mem_iff_getElem?.1 hz
  obtain ⟨_, _, _, _, _, h0, h1⟩ := h i z hi
  exact ⟨h0, h1⟩
theorem open_words {H : Type} {enc : TypeId × Value → H} {W : World} {base : Nat} {spare : Nat → Bool} {held : Bool} {v : Value} {x : DataW H × List MemPlace} {fuel : Nat}
    (h : DataW.trod enc Try.prog W base spare held fuel 34 [v] = some x) : ∃ A n c zs, v = .slice A n c ∧ (zs.length = n ∧ n ≤ 9223372036854775807) ∧ WRow W A zs := by
  rcases open_ints Try.underlying34 Try.underlying36 (by kernel_rfl) h with ⟨hcs, _⟩ | ⟨a, len, cap, zs, hcs, _, hl, hm, hz, _, hcell, hw⟩
  · simp at hcs
    subst hcs
    exact ⟨none, 0, 0, [], rfl, ⟨rfl, by omega⟩, fun i z hz => by simp at hz⟩
  · simp only [List.cons.injEq, and_true] at hcs
    subst hcs
    have hzl : len ≤ zs.length := by rw [hz]; split <;> omega
    refine ⟨some a, len, cap, zs.take len, rfl, ⟨by rw [List.length_take]; omega, by unfold maxLen at hm; omega⟩, fun i z hi => ?_⟩
    have hil : i < len := by have := (List.getElem?_eq_some_iff.1 hi).1; rw [List.length_take] at this; omega
    rw [List.getElem?_take, if_pos hil] at hi
    have hwf := hw z (List.mem_of_getElem? hi)
    have hu : 0 ≤ z ∧ z ≤ 65535 := by simpa [Lit.wf, IntKind.min, IntKind.max, IntKind.signed, IntKind.bits] using hwf
    have hc := hcell i (by omega)
    rw [show zs.getD i 0 = z by rw [List.getD, hi]; rfl] at hc
    obtain ⟨ab, ao, sp⟩ := a
    have hs : sp = none := by
      have := World.cell?_spot (hcell 0 (by omega))
      simpa [Addr.add] using this
    subst hs
    rw [add_lit'] at hc
    exact ⟨ab, ao, rfl, World.block_lt_of_cell? _ _ hc, hc, hu.1, hu.2⟩
/-- A cost that came in. -/
theorem open_cost {H : Type} {enc : TypeId × Value → H} {W : World} {base b0 : Nat} {spare : Nat → Bool} {held : Bool} {v : Value} {d : DataW H} {p : List MemPlace}
    (hv : Value.okWide Try.prog W .any b0 23 v) (h : DataW.Trod enc Try.prog W base spare held 23 v d p) : ∃ x y, v = .agg #[.int .i64 x, .int .i64 y] ∧ In64 x ∧ In64 y := by
  obtain ⟨c0, c1, y0, y1, m, rfl, rfl, rfl, hy0, hy1⟩ := Go.Joins.open_agg2 Try.underlying23 (by kernel_rfl) (by kernel_rfl) hv h
  obtain ⟨x, e0, _, w0⟩ := DataW.trod_int Try.underlying3 hy0
  obtain ⟨y, e1, _, w1⟩ := DataW.trod_int Try.underlying3 hy1
  injection e0 with e0 _
  injection e1 with e1 _
  subst e0 e1
  exact ⟨x, y, rfl, in64_of_wf w0, in64_of_wf w1⟩
theorem eql_cost (x y u v : Int) (W : World) : (binOp .eql 25 (.agg #[.int .i64 x, .int .i64 y]) (.agg #[.int .i64 u, .int .i64 v])).run Try.prog W = .ok (.bool (decide ((x, y) = (u, v)))) W := by
  simp [binOp, Op.equal, Op.maxDepth, go_sem]
  by_cases h1 : x = u <;> by_cases h2 : y = v <;> simp [h1, h2]
theorem eql_one (c : Gp.Cst) (W : World) : (binOp .eql 25 (.agg #[.int .i64 c.1, .int .i64 c.2]) (.agg #[.int .i64 c.1, .int .i64 c.2])).run Try.prog W = .ok (.bool true) W := by
  rw [eql_cost]
  simp
end Go.Proofs.Ytceboejhdgjgoaa

