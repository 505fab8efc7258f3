/- Arguments that came in, opened: a slice of deeds, structs of three numbers, the last one of 64 bits. -/
import Derived.Test.YtgknbjiocgcmdaaBFrame
import Derived.Deep.SlicePairs
namespace Go.Proofs.Ytgknbjiocgcmdaa
open Go.ChangeShapes Go.WideShapes Go.ChangeAt Go.RowKit
set_option linter.unusedVariables false

/-- The deeds behind a slice's address: three cells each. -/
def DRow (w : World) (A : Option Addr) (ds : List (Int × Int × Int)) : Prop :=
  ∀ i x, ds[i]? = some x → ∃ b off, A = some ⟨b, off, none⟩ ∧ b < w.heap.size ∧ w.cell? ⟨b, off + i * 3, none⟩ = some (.int .i64 x.1) ∧ w.cell? ⟨b, off + i * 3 + 1, none⟩ = some (.int .i64 x.2.1) ∧ w.cell? ⟨b, off + i * 3 + 2, none⟩ = some (.int .i64 x.2.2)
def Fit3 (ds : List (Int × Int × Int)) : Prop := ∀ x ∈ ds, In64 x.1 ∧ In64 x.2.1 ∧ In64 x.2.2
theorem DRow.below {w w' : World} {A : Option Addr} {ds : List (Int × Int × Int)} (h : DRow w A ds) (hb : Below w.heap.size w w') : DRow w' A ds := by
  intro i z hi
  obtain ⟨b, off, e, hlt, hc0, hc1, hc2⟩ := h i z hi
  exact ⟨b, off, e, Nat.lt_of_lt_of_le hlt hb.size, keepcell hb hc0, keepcell hb hc1, keepcell hb hc2⟩
set_option maxRecDepth 100000 in
theorem open_deeds {H : Type} {enc : TypeId × Value → H} {W : World} {base : Nat} {spare : Nat → Bool} {held : Bool} {v : Value} {x : DataW H × List MemPlace} {fuel : Nat}
    (h : DataW.trod enc Try.prog W base spare held fuel 22 [v] = some x) : ∃ A n c ds, v = .slice A n c ∧ (ds.length = n ∧ n ≤ 9223372036854775807) ∧ Fit3 ds ∧ DRow W A ds := by
  rcases Go.Deep.open_slice Try.underlying22 h with ⟨hcs, _⟩ | ⟨a, len, cap, m, n, D, Pl, hcs, hb, hl, hm, hmm, rfl, hx⟩
  · simp at hcs
    subst hcs
    exact ⟨none, 0, 0, [], rfl, ⟨rfl, by omega⟩, fun x hx => by simp at hx, fun i z hz => by simp at hz⟩
  · simp only [List.cons.injEq, and_true] at hcs
    subst hcs
    have hlm : len ≤ m := by rw [hmm]; split <;> omega
    have each : ∀ i, i < len → ∃ q : Int × Int × Int, W.cell? (a.add (i * 3)) = some (.int .i64 q.1) ∧ W.cell? (a.add (i * 3 + 1)) = some (.int .i64 q.2.1) ∧ W.cell? (a.add (i * 3 + 2)) = some (.int .i64 q.2.2) ∧ In64 q.1 ∧ In64 q.2.1 ∧ In64 q.2.2 := by
      intro i hi
      obtain ⟨cs', h1, h2⟩ := hx i (by omega)
      rw [show Try.prog.cellsOf 34 = 3 from by kernel_rfl] at h1
      obtain ⟨_, hlen, hcell⟩ := World.cells?_some h1
      obtain ⟨xs, k, hk, hxy, _, hxl, hf⟩ := DataW.trod_struct Try.underlying34 h2
      match xs, hxl, cs', hlen with
      | [y0, y1, y2], _, [v0, v1, v2], _ =>
        have g0 := hf 0 _ rfl
        have g1 := hf 1 _ rfl
        have g2 := hf 2 _ rfl
        have c3 : Try.prog.cellsOf 3 = 1 := by kernel_rfl
        have c4 : Try.prog.cellsOf 2 = 1 := by kernel_rfl
        simp [c3, c4] at g0 g1 g2
        obtain ⟨p0, e0, _, w0⟩ := DataW.trod_int Try.underlying3 g0
        obtain ⟨p1, e1, _, w1⟩ := DataW.trod_int Try.underlying3 g1
        obtain ⟨p2, e2, _, w2⟩ := DataW.trod_int Try.underlying2 g2
        simp only [List.cons.injEq, and_true] at e0 e1 e2
        subst e0 e1 e2
        have k0 := hcell 0 (by omega)
        have k1 := hcell 1 (by omega)
        have k2 := hcell 2 (by omega)
        rw [Go.Deep.add_add] at k0 k1 k2
        exact ⟨(p0, p1, p2), k0, k1, k2, in64_of_wf w0, in64_of_wf w1, in64_of_wf w2⟩
    obtain ⟨f, hf⟩ := Go.Deep.choose_lt each
    refine ⟨some a, len, cap, (List.range len).map f, rfl, ⟨by simp, by unfold maxLen at hm; omega⟩, ?_, ?_⟩
    · intro x hx
      obtain ⟨i, hir, rfl⟩ := List.mem_map.1 hx
      exact (hf i (List.mem_range.1 hir)).2.2.2
    · intro i x hx
      have hil : i < len := by have := (List.getElem?_eq_some_iff.1 hx).1; simpa using this
      have e : f i = x := by
        rw [List.getElem?_map, List.getElem?_range hil] at hx
        injection hx
      obtain ⟨h0, h1, h2, _⟩ := hf i hil
      rw [e] at h0 h1 h2
      obtain ⟨ab, ao, sp⟩ := a
      have hs : sp = none := by
        have := World.cell?_spot (hf 0 (by omega)).1
        simpa [Addr.add] using this
      subst hs
      rw [add_lit'] at h0 h1 h2
      exact ⟨ab, ao, rfl, World.block_lt_of_cell? (a := ⟨ab, ao + i * 3, none⟩) _ h0, h0, h1, h2⟩
end Go.Proofs.Ytgknbjiocgcmdaa

