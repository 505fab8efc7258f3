/- Instructions that came in, opened: a slice of them; a slice of such slices. -/
import Derived.Test.YtejhlenckdkonaaDoorFrame
import Derived.Test.YtejhlenckdkonaaDoorCChk
import Derived.Test.YtejhlenckdkonaaDoorCText
import Derived.Deep.SlicePairs
namespace Go.Proofs.YtejhlenckdkonaaDoor
open Go.ChangeShapes Go.WideShapes Go.ChangeAt Go.RowKit
set_option linter.unusedVariables false

theorem open_ins {H : Type} {enc : TypeId × Value → H} {W : World} {base : Nat} {spare : Nat → Bool} {held : Bool} {a0 : Option Addr} {len cap : Nat} {x : DataW H × List MemPlace} {fuel : Nat}
    (h : DataW.trod enc Tryd.prog W base spare held fuel 24 [.slice a0 len cap] = some x) :
    len ≤ 9223372036854775807 ∧ (len ≤ cap ∧ cap ≤ 9223372036854775807) ∧ (a0 = none → cap = 0) ∧ ∃ vs : List (Int × Int), vs.length = len ∧ Fit vs ∧ VRow W W.heap.size a0 vs := by
  rcases Go.Deep.open_slice_pairs Tryd.underlying24 Tryd.underlying42 (by kernel_rfl) rfl rfl (by kernel_rfl) (by kernel_rfl) h with ⟨hcs, _⟩ | ⟨a, l, c, m, n, V0, V1, D0, D1, P0, P1, hcs, _, hl, hm, hmm, _, hi⟩
  · simp at hcs
    obtain ⟨rfl, rfl, rfl⟩ := hcs
    exact ⟨by omega, ⟨by omega, by omega⟩, fun _ => rfl, [], rfl, fun x hx => by simp at hx, fun i x hi => by simp at hi⟩
  · simp only [List.cons.injEq, Value.slice.injEq, and_true] at hcs
    obtain ⟨rfl, rfl, rfl⟩ := hcs
    have hlm : len ≤ m := by rw [hmm]; split <;> omega
    have each : ∀ i, i < len → ∃ q : Int × Int, W.cell? (a.add (i * 2)) = some (.int .i64 q.1) ∧ W.cell? (a.add (i * 2 + 1)) = some (.int .i64 q.2) ∧ In64 q.1 ∧ In64 q.2 := by
      intro i hil
      obtain ⟨h0, h1, t0, t1⟩ := hi i (by omega)
      obtain ⟨p, e0, _, w0⟩ := DataW.trod_int Tryd.underlying3 t0
      obtain ⟨q, e1, _, w1⟩ := DataW.trod_int Tryd.underlying3 t1
      injection e0 with e0 _
      injection e1 with e1 _
      exact ⟨(p, q), by rw [h0, e0], by rw [h1, e1], in64_of_wf w0, in64_of_wf w1⟩
    obtain ⟨f, hf⟩ := Go.Deep.choose_lt each
    refine ⟨by unfold maxLen at hm; omega, ⟨hl, by unfold maxLen at hm; omega⟩, (fun e => by cases e), (List.range len).map f, by simp, ?_, ?_⟩
    · intro x hx
      obtain ⟨i, hir, rfl⟩ := List.mem_map.1 hx
      exact (hf i (List.mem_range.1 hir)).2.2
    · intro i x hx
      have hil : i < len := by have := (List.getElem?_eq_some_iff.1 hx).1; simpa using this
      have e : f i = x := by
        rw [List.getElem?_map, List.getElem?_range hil] at hx
        injection hx
      obtain ⟨h0, h1, _, _⟩ := hf i hil
      rw [e] at h0 h1
      obtain ⟨ab, ao, sp⟩ := a
      have hs : sp = none := by
        have := World.cell?_spot (hf 0 (by omega)).1
        simpa [Addr.add] using this
      subst hs
      rw [add_lit'] at h0 h1
      exact ⟨ab, ao, rfl, World.block_lt_of_cell? (a := ⟨ab, ao + i * 2, none⟩) _ h0, h0, by rw [← Nat.add_assoc] at h1; exact h1⟩
theorem one_of_cells {W : World} {base : Nat} {a : Addr} {cs : List Value} (h : W.cells? base a 1 = some cs) : ∃ c, cs = [c] ∧ W.cell? a = some c := by
  unfold World.cells? at h
  split at h
  · have e0 : a.add 0 = a := by simp [Addr.add]
    simp only [List.range_succ, List.range_zero, List.nil_append, List.mapM_cons, List.mapM_nil, e0] at h
    cases hc : W.cell? a with
    | none => simp [hc] at h
    | some c => simp [hc] at h; exact ⟨c, h.symm, rfl⟩
  · cases h
theorem slice_of_trod {H : Type} {enc : TypeId × Value → H} {W : World} {base : Nat} {spare : Nat → Bool} {held : Bool} {v : Value} {x : DataW H × List MemPlace} {fuel : Nat}
    (h : DataW.trod enc Tryd.prog W base spare held fuel 24 [v] = some x) : ∃ A n c, v = .slice A n c := by
  rcases DataW.trod_slice Tryd.underlying24 h with ⟨hcs, _⟩ | ⟨a, len, cap, _, _, _, _, hcs, _⟩
  · injection hcs with hcs _; exact ⟨_, _, _, hcs⟩
  · injection hcs with hcs _; exact ⟨_, _, _, hcs⟩
/-- A slice of programs that came in. -/
theorem open_progs {H : Type} {enc : TypeId × Value → H} {W : World} {base : Nat} {spare : Nat → Bool} {held : Bool} {v : Value} {x : DataW H × List MemPlace} {fuel : Nat}
    (h : DataW.trod enc Tryd.prog W base spare held fuel 22 [v] = some x) : ∃ A n c ps, v = .slice A n c ∧ PRow W A n c ps := by
  have hc1 : Tryd.prog.cellsOf 24 = 1 := by kernel_rfl
  rcases DataW.trod_slice Tryd.underlying22 h with ⟨hcs, _⟩ | ⟨a, len, cap, elems, rest, m, _, hcs, _, _, hl, hm, hel, hE, _⟩
  · injection hcs with hcs _
    exact ⟨none, 0, 0, [], hcs, rfl, Nat.le_refl _, by omega, fun _ => rfl, fun i l hi => by simp at hi⟩
  · injection hcs with hcs _
    have each : ∀ i, i < len → ∃ q : (Option Addr × Nat × List (Int × Int)), W.cell? (a.add i) = some (.slice q.1 q.2.2.length q.2.1) ∧ VRow W W.heap.size q.1 q.2.2 ∧ q.2.2.length ≤ q.2.1 ∧ q.2.1 ≤ 9223372036854775807 := by
      intro i hi
      have he := hE i hi
      rw [hc1, Nat.mul_one] at he
      obtain ⟨y, hy⟩ : ∃ y, elems[i]? = some y := ⟨_, List.getElem?_eq_getElem (by omega)⟩
      rw [hy] at he
      obtain ⟨cs, h1, h2⟩ := Option.bind_eq_some_iff.1 he
      obtain ⟨c, rfl, h3⟩ := one_of_cells h1
      obtain ⟨A, n, c', rfl⟩ := slice_of_trod h2
      obtain ⟨_, ⟨h4, h5⟩, _, vs, h6, _, h7⟩ := open_ins h2
      subst h6
      exact ⟨(A, c', vs), h3, h7, h4, h5⟩
    obtain ⟨f, hf⟩ := Go.Deep.choose_lt each
    refine ⟨some a, len, cap, (List.range len).map fun i => (f i).2.2, hcs, by simp, hl, by unfold maxLen at hm; omega, (fun e => by cases e), fun i l hi => ?_⟩
    have hil : i < len := by have := (List.getElem?_eq_some_iff.1 hi).1; simpa using this
    have e : (f i).2.2 = l := by
      rw [List.getElem?_map, List.getElem?_range hil] at hi
      injection hi
    obtain ⟨h0, h1, h2, h3⟩ := hf i hil
    rw [e] at h0 h1 h2
    obtain ⟨ab, ao, sp⟩ := a
    have hs : sp = none := by
      have := World.cell?_spot (hf 0 (by omega)).1
      simpa [Addr.add] using this
    subst hs
    rw [add_lit'] at h0
    exact ⟨ab, ao, _, _, rfl, World.block_lt_of_cell? (a := ⟨ab, ao + i, none⟩) _ h0, h0, h1, h2, h3⟩
theorem Fit.two {vs : List (Int × Int)} (h : Fit vs) : Fit2 vs := fun x hx => (h x hx).2
end Go.Proofs.YtejhlenckdkonaaDoor

