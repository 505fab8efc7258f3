/- Arguments that came in, opened: timers, slices of timers, slices of deeds (a number and a timer). -/
import Derived.Test.YtjcljdehhckaeaaFrame
import Derived.Test.YtjcljdehhckaeaaHRow
import Derived.ChangeSlices
import Derived.Lib.SmallJoins
import Derived.Deep.SlicePairs
namespace Go.Proofs.Ytjcljdehhckaeaa
open Go.ChangeShapes Go.WideShapes Go.ChangeAt Go.RowKit
set_option linter.unusedVariables false

theorem open_tm {H : Type} {enc : TypeId × Value → H} {W : World} {base : Nat} {spare : Nat → Bool} {held : Bool} {fuel : Nat} {v0 v1 v2 : Value} {x : DataW H × List MemPlace}
    (h : DataW.trod enc Try.prog W base spare held fuel 30 [v0, v1, v2] = some x) : ∃ q : Hp.Tm, v0 = .int .i64 q.1 ∧ v1 = .int .i64 q.2.1 ∧ v2 = .int .i64 q.2.2 ∧ In64 q.2.2 := by
  obtain ⟨xs, k, hk, hxy, _, hxl, hf⟩ := DataW.trod_struct Try.underlying30 h
  match xs, hxl with
  | [y0, y1, y2], _ =>
    have g0 := hf 0 _ rfl
    have g1 := hf 1 _ rfl
    have g2 := hf 2 _ rfl
    have c2 : Try.prog.cellsOf 2 = 1 := by kernel_rfl
    have c3 : Try.prog.cellsOf 3 = 1 := by kernel_rfl
    simp [c2, c3] at g0 g1 g2
    obtain ⟨p0, e0, _, w0⟩ := DataW.trod_int Try.underlying2 g0
    obtain ⟨p1, e1, _, w1⟩ := DataW.trod_int Try.underlying2 g1
    obtain ⟨p2, e2, _, w2⟩ := DataW.trod_int Try.underlying3 g2
    simp only [List.cons.injEq, and_true] at e0 e1 e2
    exact ⟨(p0, p1, p2), e0, e1, e2, in64_of_wf w2⟩
/-- A timer that came in. -/
theorem open_timer {H : Type} {enc : TypeId × Value → H} {W : World} {base b0 : Nat} {spare : Nat → Bool} {held : Bool} {v : Value} {d : DataW H} {p : List MemPlace}
    (hv : Value.okWide Try.prog W .any b0 30 v) (h : DataW.Trod enc Try.prog W base spare held 30 v d p) : ∃ x y z, v = .agg #[.int .i64 x, .int .i64 y, .int .i64 z] := by
  obtain ⟨c0, c1, c2, y0, y1, y2, m, rfl, rfl, rfl, hy0, hy1, hy2⟩ := Go.Joins.open_agg3 Try.underlying30 (by kernel_rfl) (by kernel_rfl) hv h
  obtain ⟨x, e0, _, w0⟩ := DataW.trod_int Try.underlying2 hy0
  obtain ⟨y, e1, _, w1⟩ := DataW.trod_int Try.underlying2 hy1
  obtain ⟨z, e2, _, w2⟩ := DataW.trod_int Try.underlying3 hy2
  injection e0 with e0 _
  injection e1 with e1 _
  injection e2 with e2 _
  subst e0 e1 e2
  exact ⟨x, y, z, rfl⟩
theorem open_timers {H : Type} {enc : TypeId × Value → H} {W : World} {base : Nat} {spare : Nat → Bool} {held : Bool} {v : Value} {x : DataW H × List MemPlace} {fuel : Nat}
    (h : DataW.trod enc Try.prog W base spare held fuel 25 [v] = some x) : ∃ A n c ts, v = .slice A n c ∧ TR W A n c ts ∧ ∀ z ∈ ts, In64 z.2.2 := by
  rcases Go.Deep.open_slice Try.underlying25 h with ⟨hcs, _⟩ | ⟨a, len, cap, m, n, D, Pl, hcs, hb, hl, hm, hmm, rfl, hx⟩
  · simp at hcs
    subst hcs
    exact ⟨none, 0, 0, [], rfl, TR.nothing _, fun z hz => by simp at hz⟩
  · simp only [List.cons.injEq, and_true] at hcs
    subst hcs
    have hlm : len ≤ m := by rw [hmm]; split <;> omega
    have each : ∀ i, i < len → ∃ q : Hp.Tm, W.cell? (a.add (i * 3)) = some (.int .i64 q.1) ∧ W.cell? (a.add (i * 3 + 1)) = some (.int .i64 q.2.1) ∧ W.cell? (a.add (i * 3 + 2)) = some (.int .i64 q.2.2) ∧ In64 q.2.2 := by
      intro i hi
      obtain ⟨cs', h1, h2⟩ := hx i (by omega)
      rw [show Try.prog.cellsOf 30 = 3 from by kernel_rfl] at h1
      obtain ⟨_, hlen, hcell⟩ := World.cells?_some h1
      match cs', hlen with
      | [v0, v1, v2], _ =>
        obtain ⟨q, e0, e1, e2, w2⟩ := open_tm h2
        subst e0 e1 e2
        have k0 := hcell 0 (by omega)
        have k1 := hcell 1 (by omega)
        have k2 := hcell 2 (by omega)
        rw [Go.Deep.add_add] at k0 k1 k2
        exact ⟨q, k0, k1, k2, w2⟩
    obtain ⟨f, hf⟩ := Go.Deep.choose_lt each
    refine ⟨some a, len, cap, (List.range len).map f, rfl, ⟨by simp, hl, by unfold maxLen at hm; omega, (fun e => by cases e), ?_⟩, ?_⟩
    · intro i x hx
      have hil : i < len := by have := (List.getElem?_eq_some_iff.1 hx).1; simpa using this
      have e : f i = x := by
        rw [List.getElem?_map, List.getElem?_range hil] at hx
        injection hx
      obtain ⟨h0, h1, h2, _⟩ := hf i hil
      rw [e] at h0 h1 h2
      obtain ⟨ab, ao, sp⟩ := a
      have hs : sp = none := by
        have := World.cell?_spot (hf 0 (by omega)).1
        simpa [Addr.add] using this
      subst hs
      rw [add_lit'] at h0 h1 h2
      exact ⟨ab, ao, rfl, World.block_lt_of_cell? (a := ⟨ab, ao + i * 3, none⟩) _ h0, h0, h1, h2⟩
    · intro z hz
      obtain ⟨i, hir, rfl⟩ := List.mem_map.1 hz
      exact (hf i (List.mem_range.1 hir)).2.2.2
/-- The deeds behind a slice's address: four cells each. -/
def ZRow (w : World) (A : Option Addr) (n : Nat) (ds : List (Int × Hp.Tm)) : Prop :=
  ds.length = n ∧ n ≤ 9223372036854775807 ∧ ∀ i x, ds[i]? = some x → ∃ b off, A = some ⟨b, off, none⟩ ∧ b < w.heap.size ∧ w.cell? ⟨b, off + i * 4, none⟩ = some (.int .i64 x.1) ∧ w.cell? ⟨b, off + i * 4 + 1, none⟩ = some (.int .i64 x.2.1) ∧ w.cell? ⟨b, off + i * 4 + 2, none⟩ = some (.int .i64 x.2.2.1) ∧ w.cell? ⟨b, off + i * 4 + 3, none⟩ = some (.int .i64 x.2.2.2)
theorem open_hdeeds {H : Type} {enc : TypeId × Value → H} {W : World} {base : Nat} {spare : Nat → Bool} {held : Bool} {v : Value} {x : DataW H × List MemPlace} {fuel : Nat}
    (h : DataW.trod enc Try.prog W base spare held fuel 22 [v] = some x) : ∃ A n c ds, v = .slice A n c ∧ ZRow W A n ds := by
  rcases Go.Deep.open_slice Try.underlying22 h with ⟨hcs, _⟩ | ⟨a, len, cap, m, n, D, Pl, hcs, hb, hl, hm, hmm, rfl, hx⟩
  · simp at hcs
    subst hcs
    exact ⟨none, 0, 0, [], rfl, rfl, by omega, fun i z hz => by simp at hz⟩
  · simp only [List.cons.injEq, and_true] at hcs
    subst hcs
    have hlm : len ≤ m := by rw [hmm]; split <;> omega
    have each : ∀ i, i < len → ∃ q : Int × Hp.Tm, W.cell? (a.add (i * 4)) = some (.int .i64 q.1) ∧ W.cell? (a.add (i * 4 + 1)) = some (.int .i64 q.2.1) ∧ W.cell? (a.add (i * 4 + 2)) = some (.int .i64 q.2.2.1) ∧ W.cell? (a.add (i * 4 + 3)) = some (.int .i64 q.2.2.2) := by
      intro i hi
      obtain ⟨cs', h1, h2⟩ := hx i (by omega)
      rw [show Try.prog.cellsOf 32 = 4 from by kernel_rfl] at h1
      obtain ⟨_, hlen, hcell⟩ := World.cells?_some h1
      obtain ⟨xs, k, hk, hxy, _, hxl, hf⟩ := DataW.trod_struct Try.underlying32 h2
      match xs, hxl, cs', hlen with
      | [y0, y1], _, [v0, v1, v2, v3], _ =>
        have g0 := hf 0 _ rfl
        have g1 := hf 1 _ rfl
        have c3 : Try.prog.cellsOf 3 = 1 := by kernel_rfl
        have c4 : Try.prog.cellsOf 30 = 3 := by kernel_rfl
        simp [c3, c4] at g0 g1
        obtain ⟨p0, e0, _, w0⟩ := DataW.trod_int Try.underlying3 g0
        simp only [List.cons.injEq, and_true] at e0
        subst e0
        obtain ⟨q, e1, e2, e3, _⟩ := open_tm g1
        subst e1 e2 e3
        have k0 := hcell 0 (by omega)
        have k1 := hcell 1 (by omega)
        have k2 := hcell 2 (by omega)
        have k3 := hcell 3 (by omega)
        rw [Go.Deep.add_add] at k0 k1 k2 k3
        exact ⟨(p0, q), k0, k1, k2, k3⟩
    obtain ⟨f, hf⟩ := Go.Deep.choose_lt each
    refine ⟨some a, len, cap, (List.range len).map f, rfl, by simp, by unfold maxLen at hm; omega, ?_⟩
    · intro i x hx
      have hil : i < len := by have := (List.getElem?_eq_some_iff.1 hx).1; simpa using this
      have e : f i = x := by
        rw [List.getElem?_map, List.getElem?_range hil] at hx
        injection hx
      obtain ⟨h0, h1, h2, h3⟩ := hf i hil
      rw [e] at h0 h1 h2 h3
      obtain ⟨ab, ao, sp⟩ := a
      have hs : sp = none := by
        have := World.cell?_spot (hf 0 (by omega)).1
        simpa [Addr.add] using this
      subst hs
      rw [add_lit'] at h0 h1 h2 h3
      exact ⟨ab, ao, rfl, World.block_lt_of_cell? (a := ⟨ab, ao + i * 4, none⟩) _ h0, h0, h1, h2, h3⟩
end Go.Proofs.Ytjcljdehhckaeaa

