/- Runs that came in, opened: a tree, a number, rings, rows, a set. -/
import Derived.Test.YtdohnhdjlhaaaaaGreatDoorM0
import Derived.Test.YtdohnhdjlhaaaaaGreatDoorM1
import Derived.Test.YtdohnhdjlhaaaaaGreatDoorM5
import Derived.Test.YtdohnhdjlhaaaaaGreatDoorM9
import Derived.Lib.SmallJoins
namespace Go.Proofs.YtdohnhdjlhaaaaaGreatDoor
open Go.ChangeShapes Go.WideShapes Go.ChangeAt Go.RowKit
set_option linter.unusedVariables false

theorem one_of_cells {W : World} {base : Nat} {a : Addr} {cs : List Value} (h : W.cells? base a 1 = some cs) : ∃ c, cs = [c] ∧ W.cell? a = some c := by
  unfold World.cells? at h
  split at h
  · have e0 : a.add 0 = a := by simp [Addr.add]
    simp only [List.range_succ, List.range_zero, List.nil_append, List.mapM_cons, List.mapM_nil, e0] at h
    cases hc : W.cell? a with
    | none => simp [hc] at h
    | some c => simp [hc] at h; exact ⟨c, h.symm, rfl⟩
  · cases h
theorem two_of_cells {W : World} {base : Nat} {a : Addr} {cs : List Value} (h : W.cells? base a 2 = some cs) : ∃ c d, cs = [c, d] ∧ W.cell? a = some c ∧ W.cell? (a.add 1) = some d := by
  unfold World.cells? at h
  split at h
  · have e0 : a.add 0 = a := by simp [Addr.add]
    simp only [List.range_succ, List.range_zero, List.nil_append, List.cons_append, List.mapM_cons, List.mapM_nil, e0] at h
    cases hc : W.cell? a with
    | none => simp [hc] at h
    | some c =>
      cases hd : W.cell? (a.add 1) with
      | none => simp [hc, hd] at h
      | some d => simp [hc, hd] at h; exact ⟨c, d, h.symm, rfl, rfl⟩
  · cases h
theorem row_block' {w : World} {A : Option Addr} {n c : Nat} {zs : List Int} (h : Row w A n c zs) (hne : zs ≠ []) {ad : Addr} (hA : A = some ad) : ad.block < w.heap.size := by
  have h4 : 0 < n := by rw [← h.len]; exact List.length_pos_iff.2 hne
  obtain ⟨b, off, e3, hb, _⟩ := h.cells h4
  rw [hA] at e3
  injection e3 with e3
  subst e3
  exact hb
instance : Inhabited El := ⟨⟨0, [], none, 0, 0⟩⟩
/-- A struct's cells, each read by itself. -/
theorem trod_two {H : Type} {enc : TypeId × Value → H} {P : Program} {W : World} {base : Nat} {spare : Nat → Bool} {held : Bool} {t : TypeId} {f0 f1 : Field} {c0 c1 : Value} {x : DataW H × List MemPlace} {fuel : Nat} (hs : P.underlying t = some (.struct #[f0, f1])) (hone : Go.Deep.oneCellFields P #[f0, f1] = true)
    (h : DataW.trod enc P W base spare held fuel t [c0, c1] = some x) : ∃ y0 y1 n, DataW.trod enc P W base spare held n f0.type [c0] = some y0 ∧ DataW.trod enc P W base spare held n f1.type [c1] = some y1 := by
  obtain ⟨xs, n, _, rfl, _, hlen, hf⟩ := DataW.trod_struct hs h
  obtain ⟨o0, k0⟩ := Go.Deep.hone_of hone 0 f0 rfl
  obtain ⟨o1, k1⟩ := Go.Deep.hone_of hone 1 f1 rfl
  match xs, hlen with
  | [y0, y1], _ => exact ⟨y0, y1, n, by simpa [o0, k0] using hf 0 f0 rfl, by simpa [o1, k1] using hf 1 f1 rfl⟩
theorem trod_five {H : Type} {enc : TypeId × Value → H} {P : Program} {W : World} {base : Nat} {spare : Nat → Bool} {held : Bool} {t : TypeId} {f0 f1 f2 f3 f4 : Field} {c0 c1 c2 c3 c4 : Value} {x : DataW H × List MemPlace} {fuel : Nat} (hs : P.underlying t = some (.struct #[f0, f1, f2, f3, f4])) (hone : Go.Deep.oneCellFields P #[f0, f1, f2, f3, f4] = true)
    (h : DataW.trod enc P W base spare held fuel t [c0, c1, c2, c3, c4] = some x) : ∃ y0 y1 y2 y3 y4 n, DataW.trod enc P W base spare held n f0.type [c0] = some y0 ∧ DataW.trod enc P W base spare held n f1.type [c1] = some y1 ∧ DataW.trod enc P W base spare held n f2.type [c2] = some y2 ∧ DataW.trod enc P W base spare held n f3.type [c3] = some y3 ∧ DataW.trod enc P W base spare held n f4.type [c4] = some y4 := by
  obtain ⟨xs, n, _, rfl, _, hlen, hf⟩ := DataW.trod_struct hs h
  obtain ⟨o0, k0⟩ := Go.Deep.hone_of hone 0 f0 rfl
  obtain ⟨o1, k1⟩ := Go.Deep.hone_of hone 1 f1 rfl
  obtain ⟨o2, k2⟩ := Go.Deep.hone_of hone 2 f2 rfl
  obtain ⟨o3, k3⟩ := Go.Deep.hone_of hone 3 f3 rfl
  obtain ⟨o4, k4⟩ := Go.Deep.hone_of hone 4 f4 rfl
  match xs, hlen with
  | [y0, y1, y2, y3, y4], _ => exact ⟨y0, y1, y2, y3, y4, n, by simpa [o0, k0] using hf 0 f0 rfl, by simpa [o1, k1] using hf 1 f1 rfl, by simpa [o2, k2] using hf 2 f2 rfl, by simpa [o3, k3] using hf 3 f3 rfl, by simpa [o4, k4] using hf 4 f4 rfl⟩
theorem array5 {α : Type} {cs : Array α} (h : cs.size = 5) : ∃ c0 c1 c2 c3 c4, cs = #[c0, c1, c2, c3, c4] := by
  obtain ⟨l⟩ := cs
  match l, h with
  | [c0, c1, c2, c3, c4], _ => exact ⟨c0, c1, c2, c3, c4, rfl⟩
/-- A ring's two cells. -/
theorem open_ring2 {H : Type} {enc : TypeId × Value → H} {W : World} {base : Nat} {spare : Nat → Bool} {held : Bool} {c d : Value} {x : DataW H × List MemPlace} {fuel : Nat}
    (h : DataW.trod enc Tryz.prog W base spare held fuel 58 [c, d] = some x) : ∃ z A n k zs, c = .int .i64 z ∧ d = .slice A n k ∧ Row W A n k zs ∧ ∀ x ∈ Rp.all (z, zs), In64 x := by
  obtain ⟨y0, y1, m, h0, h1⟩ := trod_two Tryz.underlying58 (by kernel_rfl) h
  obtain ⟨z, e0, _, wz⟩ := DataW.trod_int Tryz.underlying3 h0
  obtain ⟨A, n, k, zs, e1, hr, wr⟩ := open_row h1
  injection e0 with e0 _
  refine ⟨z, A, n, k, zs, e0, e1, hr, fun x hx => ?_⟩
  unfold Rp.all at hx
  split at hx
  · exact wr x hx
  · rcases List.mem_cons.1 hx with rfl | hx
    · exact in64_of_wf wz
    · exact wr x hx
theorem open_rings {H : Type} {enc : TypeId × Value → H} {W : World} {base : Nat} {spare : Nat → Bool} {held : Bool} {v : Value} {x : DataW H × List MemPlace} {fuel : Nat}
    (h : DataW.trod enc Tryz.prog W base spare held fuel 23 [v] = some x) : ∃ A n c es, v = .slice A n c ∧ XR csG 2 W A n c es ∧ LieE (fun b => b < W.heap.size) A es ∧ ∀ e ∈ es, ∀ x ∈ Rp.all (elG e), In64 x := by
  have hc1 : Tryz.prog.cellsOf 58 = 2 := by kernel_rfl
  rcases DataW.trod_slice Tryz.underlying23 h with ⟨hcs, _⟩ | ⟨a, len, cap, elems, rest, m, _, hcs, _, _, hl, hm, hel, hE, _⟩
  · injection hcs with hcs _
    exact ⟨none, 0, 0, [], hcs, XR.nothing W, ⟨fun h => absurd rfl h, fun e he => by simp at he⟩, fun e he => by simp at he⟩
  · injection hcs with hcs _
    have each : ∀ i, i < len → ∃ e : El, W.cell? (a.add (i * 2)) = some (.int .i64 e.x) ∧ W.cell? ((a.add (i * 2)).add 1) = some (.slice e.A e.n e.c) ∧ Row W e.A e.n e.c e.l ∧ ∀ x ∈ Rp.all (elG e), In64 x := by
      intro i hi
      have he := hE i hi
      rw [hc1] at he
      obtain ⟨y, hy⟩ : ∃ y, elems[i]? = some y := ⟨_, List.getElem?_eq_getElem (by omega)⟩
      rw [hy] at he
      obtain ⟨cs, h1, h2⟩ := Option.bind_eq_some_iff.1 he
      obtain ⟨c, d, rfl, h3, h4⟩ := two_of_cells h1
      obtain ⟨z, A, n, k, zs, rfl, rfl, hr, wx⟩ := open_ring2 h2
      exact ⟨⟨z, zs, A, n, k⟩, h3, h4, hr, wx⟩
    obtain ⟨f, hf⟩ := Go.Deep.choose_lt each
    refine ⟨some a, len, cap, (List.range len).map f, hcs, ⟨by simp, hl, by unfold maxLen at hm; omega, (fun e => by cases e), fun i e hi => ?_, fun e he => ?_⟩, ⟨fun hne ad hA => ?_, fun e he hne ad hA => ?_⟩, fun e he => ?_⟩
    · have hil : i < len := by have := (List.getElem?_eq_some_iff.1 hi).1; simpa using this
      have e1 : f i = e := by
        rw [List.getElem?_map, List.getElem?_range hil] at hi
        injection hi
      obtain ⟨h0, h1, _⟩ := hf i hil
      rw [e1] at h0 h1
      obtain ⟨ab, ao, sp⟩ := a
      have hs : sp = none := by
        have := World.cell?_spot (hf 0 (by omega)).1
        simpa [Addr.add] using this
      subst hs
      rw [add_lit', add_lit'] at h1
      rw [add_lit'] at h0
      refine ⟨ab, ao, rfl, World.block_lt_of_cell? (a := ⟨ab, ao + i * 2, none⟩) _ h0, fun j u hj => ?_⟩
      match j, hj with
      | 0, hj => simp [csG] at hj; subst hj; exact h0
      | 1, hj => simp [csG] at hj; subst hj; exact h1
    · obtain ⟨i, hir, rfl⟩ := List.mem_map.1 he
      exact (hf i (List.mem_range.1 hir)).2.2.1
    · injection hA with hA
      subst hA
      have hl0 : 0 < len := by
        rcases Nat.eq_zero_or_pos len with h0 | h0
        · subst h0; simp at hne
        · exact h0
      have := World.block_lt_of_cell? _ _ (hf 0 hl0).1
      simpa [Addr.add] using this
    · obtain ⟨i, hir, rfl⟩ := List.mem_map.1 he
      exact row_block' (hf i (List.mem_range.1 hir)).2.2.1 hne hA
    · obtain ⟨i, hir, rfl⟩ := List.mem_map.1 he
      exact (hf i (List.mem_range.1 hir)).2.2.2
theorem open_lists {H : Type} {enc : TypeId × Value → H} {W : World} {base : Nat} {spare : Nat → Bool} {held : Bool} {v : Value} {x : DataW H × List MemPlace} {fuel : Nat}
    (h : DataW.trod enc Tryz.prog W base spare held fuel 24 [v] = some x) : ∃ A n c es, v = .slice A n c ∧ XR csL 1 W A n c es ∧ LieE (fun b => b < W.heap.size) A es ∧ ∀ e ∈ es, ∀ x ∈ elL e, In64 x := by
  have hc1 : Tryz.prog.cellsOf 42 = 1 := by kernel_rfl
  rcases DataW.trod_slice Tryz.underlying24 h with ⟨hcs, _⟩ | ⟨a, len, cap, elems, rest, m, _, hcs, _, _, hl, hm, hel, hE, _⟩
  · injection hcs with hcs _
    exact ⟨none, 0, 0, [], hcs, XR.nothing W, ⟨fun h => absurd rfl h, fun e he => by simp at he⟩, fun e he => by simp at he⟩
  · injection hcs with hcs _
    have each : ∀ i, i < len → ∃ e : El, W.cell? (a.add i) = some (.slice e.A e.n e.c) ∧ Row W e.A e.n e.c e.l ∧ ∀ x ∈ elL e, In64 x := by
      intro i hi
      have he := hE i hi
      rw [hc1, Nat.mul_one] at he
      obtain ⟨y, hy⟩ : ∃ y, elems[i]? = some y := ⟨_, List.getElem?_eq_getElem (by omega)⟩
      rw [hy] at he
      obtain ⟨cs, h1, h2⟩ := Option.bind_eq_some_iff.1 he
      obtain ⟨c, rfl, h3⟩ := one_of_cells h1
      obtain ⟨A, n, k, zs, rfl, hr, wx⟩ := open_row h2
      exact ⟨⟨0, zs, A, n, k⟩, h3, hr, wx⟩
    obtain ⟨f, hf⟩ := Go.Deep.choose_lt each
    refine ⟨some a, len, cap, (List.range len).map f, hcs, ⟨by simp, hl, by unfold maxLen at hm; omega, (fun e => by cases e), fun i e hi => ?_, fun e he => ?_⟩, ⟨fun hne ad hA => ?_, fun e he hne ad hA => ?_⟩, fun e he => ?_⟩
    · have hil : i < len := by have := (List.getElem?_eq_some_iff.1 hi).1; simpa using this
      have e1 : f i = e := by
        rw [List.getElem?_map, List.getElem?_range hil] at hi
        injection hi
      obtain ⟨h0, _⟩ := hf i hil
      rw [e1] at h0
      obtain ⟨ab, ao, sp⟩ := a
      have hs : sp = none := by
        have := World.cell?_spot (hf 0 (by omega)).1
        simpa [Addr.add] using this
      subst hs
      rw [add_lit'] at h0
      refine ⟨ab, ao, rfl, World.block_lt_of_cell? (a := ⟨ab, ao + i, none⟩) _ h0, fun j u hj => ?_⟩
      match j, hj with
      | 0, hj => simp [csL] at hj; subst hj; rw [Nat.mul_one]; exact h0
    · obtain ⟨i, hir, rfl⟩ := List.mem_map.1 he
      exact (hf i (List.mem_range.1 hir)).2.1
    · injection hA with hA
      subst hA
      have hl0 : 0 < len := by
        rcases Nat.eq_zero_or_pos len with h0 | h0
        · subst h0; simp at hne
        · exact h0
      have := World.block_lt_of_cell? _ _ (hf 0 hl0).1
      simpa [Addr.add] using this
    · obtain ⟨i, hir, rfl⟩ := List.mem_map.1 he
      exact row_block' (hf i (List.mem_range.1 hir)).2.1 hne hA
    · obtain ⟨i, hir, rfl⟩ := List.mem_map.1 he
      exact (hf i (List.mem_range.1 hir)).2.2
set_option maxRecDepth 100000 in
/-- Runs that came in. -/
theorem open_runs {H : Type} {enc : TypeId × Value → H} {W : World} {base b0 : Nat} {spare : Nat → Bool} {held : Bool} {v : Value} {d : DataW H} {p : List MemPlace}
    (hv : Value.okWide Tryz.prog W .any b0 27 v) (h : DataW.Trod enc Tryz.prog W base spare held 27 v d p) :
    ∃ (a : Ad) (r : Jp.Rn), v = jv a r ∧ RMI (fun b => b < W.heap.size) W a r := by
  obtain ⟨cs, rfl, hsz⟩ := okWide_struct Tryz.underlying27 hv
  obtain ⟨c0, c1, c2, c3, c4, rfl⟩ := array5 (hsz.trans (by kernel_rfl : Tryz.prog.cellsOf 27 = 5))
  obtain ⟨fuel, hf⟩ := h
  simp only [Value.cells] at hf
  obtain ⟨y0, y1, y2, y3, y4, m, h0, h1, h2, h3, h4⟩ := trod_five Tryz.underlying27 (by kernel_rfl) hf
  obtain ⟨T, nt, ct, e0⟩ := Go.Joins.slice_form Tryz.underlying22 h0
  injection e0 with e0 _
  subst e0
  obtain ⟨ht1, ht2, vs, ht3, ht4, ht5⟩ := open_vs h0
  obtain ⟨z, e1, _, w1⟩ := DataW.trod_int Tryz.underlying3 h1
  injection e1 with e1 _
  subst e1
  obtain ⟨R, nr, cr, gs, rfl, hgs, hgl, wg⟩ := open_rings h2
  obtain ⟨S, ns, cs, ls, rfl, hls, hll, wl⟩ := open_lists h3
  obtain ⟨o, e4, _, w4⟩ := DataW.trod_int Tryz.underlying25 h4
  injection e4 with e4 _
  subst e4
  obtain ⟨on, rfl, hon⟩ := of_wf64 w4
  refine ⟨⟨T, nt, ct, R, nr, cr, S, ns, cs⟩, ⟨vs, z, gs.map elG, ls.map elL, on⟩, rfl, ⟨ht3, ht1, ht4, ht5, fun hne ad hA => ?_, ⟨gs, hgs, rfl, hgl⟩, ⟨ls, hls, rfl, hll⟩, hon, in64_of_wf w1⟩, fun z hz => ?_⟩
  · obtain ⟨x0, hx0⟩ : ∃ x, vs[0]? = some x := ⟨_, List.getElem?_eq_getElem (List.length_pos_iff.2 hne)⟩
    obtain ⟨b, off, e5, hb, _⟩ := ht5 0 x0 hx0
    simp only at hA
    rw [hA] at e5
    injection e5 with e5
    subst e5
    exact hb
  · rcases Jp.mem_all.1 hz with ⟨y, hy, hz⟩ | ⟨l, hl, hz⟩
    · obtain ⟨e, he, rfl⟩ := List.mem_map.1 hy
      exact wg e he z hz
    · obtain ⟨e, he, rfl⟩ := List.mem_map.1 hl
      exact wl e he z hz
end Go.Proofs.YtdohnhdjlhaaaaaGreatDoor

