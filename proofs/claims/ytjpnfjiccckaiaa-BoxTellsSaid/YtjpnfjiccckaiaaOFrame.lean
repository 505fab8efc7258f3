/- A mailbox that came in, opened: a number, a row of 64-bit numbers, a row of pairs, a row of numbers. -/
import Derived.Test.YtjpnfjiccckaiaaFrame
import Derived.Test.YtjpnfjiccckaiaaOBox
import Derived.ChangeSlices
import Derived.Lib.SmallJoins
import Derived.Deep.SlicePairs
namespace Go.Proofs.Ytjpnfjiccckaiaa
open Go.ChangeShapes Go.WideShapes Go.ChangeAt Go.RowKit
open Mp (Bo)
set_option linter.unusedVariables false

theorem open_row {H : Type} {enc : TypeId × Value → H} {W : World} {base : Nat} {spare : Nat → Bool} {held : Bool} {v : Value} {x : DataW H × List MemPlace} {fuel : Nat}
    (h : DataW.trod enc Try.prog W base spare held fuel 24 [v] = some x) : ∃ A n c zs, v = .slice A n c ∧ Row W A n c zs ∧ ∀ z ∈ zs, In64 z := by
  rcases open_ints Try.underlying24 Try.underlying3 (by kernel_rfl) h with ⟨hcs, _⟩ | ⟨a, len, cap, zs, hcs, _, hl, hm, hz, _, hcell, hw⟩
  · simp at hcs
    subst hcs
    exact ⟨none, 0, 0, [], rfl, Row.nothing _, fun z hz => by simp at hz⟩
  · simp only [List.cons.injEq, and_true] at hcs
    subst hcs
    have hzl : len ≤ zs.length := by rw [hz]; split <;> omega
    refine ⟨some a, len, cap, zs.take len, rfl, ⟨by rw [List.length_take]; omega, hl, by unfold maxLen at hm; omega, (fun e => by cases e), fun i z hi => ?_⟩, fun z hz => in64_of_wf (hw z (List.mem_of_mem_take hz))⟩
    have hil : i < len := by have := (List.getElem?_eq_some_iff.1 hi).1; rw [List.length_take] at this; omega
    rw [List.getElem?_take, if_pos hil] at hi
    have hc := hcell i (by omega)
    rw [show zs.getD i 0 = z by rw [List.getD, hi]; rfl] at hc
    obtain ⟨ab, ao, sp⟩ := a
    have hs : sp = none := by
      have := World.cell?_spot (hcell 0 (by omega))
      simpa [Addr.add] using this
    subst hs
    rw [add_lit'] at hc
    exact ⟨ab, ao, rfl, World.block_lt_of_cell? _ _ hc, hc⟩
theorem open_row64 {H : Type} {enc : TypeId × Value → H} {W : World} {base : Nat} {spare : Nat → Bool} {held : Bool} {v : Value} {x : DataW H × List MemPlace} {fuel : Nat}
    (h : DataW.trod enc Try.prog W base spare held fuel 22 [v] = some x) : ∃ A n c zs, v = .slice A n c ∧ Row W A n c zs ∧ ∀ z ∈ zs, In64 z := by
  rcases open_ints Try.underlying22 Try.underlying2 (by kernel_rfl) h with ⟨hcs, _⟩ | ⟨a, len, cap, zs, hcs, _, hl, hm, hz, _, hcell, hw⟩
  · simp at hcs
    subst hcs
    exact ⟨none, 0, 0, [], rfl, Row.nothing _, fun z hz => by simp at hz⟩
  · simp only [List.cons.injEq, and_true] at hcs
    subst hcs
    have hzl : len ≤ zs.length := by rw [hz]; split <;> omega
    refine ⟨some a, len, cap, zs.take len, rfl, ⟨by rw [List.length_take]; omega, hl, by unfold maxLen at hm; omega, (fun e => by cases e), fun i z hi => ?_⟩, fun z hz => in64_of_wf (hw z (List.mem_of_mem_take hz))⟩
    have hil : i < len := by have := (List.getElem?_eq_some_iff.1 hi).1; rw [List.length_take] at this; omega
    rw [List.getElem?_take, if_pos hil] at hi
    have hc := hcell i (by omega)
    rw [show zs.getD i 0 = z by rw [List.getD, hi]; rfl] at hc
    obtain ⟨ab, ao, sp⟩ := a
    have hs : sp = none := by
      have := World.cell?_spot (hcell 0 (by omega))
      simpa [Addr.add] using this
    subst hs
    rw [add_lit'] at hc
    exact ⟨ab, ao, rfl, World.block_lt_of_cell? _ _ hc, hc⟩
theorem open_mails {H : Type} {enc : TypeId × Value → H} {W : World} {base : Nat} {spare : Nat → Bool} {held : Bool} {a0 : Option Addr} {len cap : Nat} {x : DataW H × List MemPlace} {fuel : Nat}
    (h : DataW.trod enc Try.prog W base spare held fuel 23 [.slice a0 len cap] = some x) :
    len ≤ 9223372036854775807 ∧ (len ≤ cap ∧ cap ≤ 9223372036854775807) ∧ (a0 = none → cap = 0) ∧ ∃ vs : List (Int × Int), vs.length = len ∧ Fit vs ∧ VRow W W.heap.size a0 vs := by
  rcases Go.Deep.open_slice_pairs Try.underlying23 Try.underlying51 (by kernel_rfl) rfl rfl (by kernel_rfl) (by kernel_rfl) h with ⟨hcs, _⟩ | ⟨a, l, c, m, n, V0, V1, D0, D1, P0, P1, hcs, _, hl, hm, hmm, _, hi⟩
  · simp at hcs
    obtain ⟨rfl, rfl, rfl⟩ := hcs
    exact ⟨by omega, ⟨by omega, by omega⟩, fun _ => rfl, [], rfl, fun x hx => by simp at hx, fun i x hi => by simp at hi⟩
  · simp only [List.cons.injEq, Value.slice.injEq, and_true] at hcs
    obtain ⟨rfl, rfl, rfl⟩ := hcs
    have hlm : len ≤ m := by rw [hmm]; split <;> omega
    have each : ∀ i, i < len → ∃ q : Int × Int, W.cell? (a.add (i * 2)) = some (.int .i64 q.1) ∧ W.cell? (a.add (i * 2 + 1)) = some (.int .i64 q.2) ∧ In64 q.1 ∧ In64 q.2 := by
      intro i hil
      obtain ⟨h0, h1, t0, t1⟩ := hi i (by omega)
      obtain ⟨p, e0, _, w0⟩ := DataW.trod_int Try.underlying3 t0
      obtain ⟨q, e1, _, w1⟩ := DataW.trod_int Try.underlying2 t1
      injection e0 with e0 _
      injection e1 with e1 _
      exact ⟨(p, q), by rw [h0, e0], by rw [h1, e1], in64_of_wf w0, in64_of_wf w1⟩
    obtain ⟨f, hf⟩ := Go.Deep.choose_lt each
    refine ⟨by unfold maxLen at hm; omega, ⟨hl, by unfold maxLen at hm; omega⟩, (fun e => by cases e), (List.range len).map f, by simp, ?_, ?_⟩
    · intro x hx
      obtain ⟨i, hir, rfl⟩ := List.mem_map.1 hx
      exact (hf i (List.mem_range.1 hir)).2.2
    · intro i x hx
      have hil : i < len := by have := (List.getElem?_eq_some_iff.1 hx).1; simpa using this
      have e : f i = x := by
        rw [List.getElem?_map, List.getElem?_range hil] at hx
        injection hx
      obtain ⟨h0, h1, _, _⟩ := hf i hil
      rw [e] at h0 h1
      obtain ⟨ab, ao, sp⟩ := a
      have hs : sp = none := by
        have := World.cell?_spot (hf 0 (by omega)).1
        simpa [Addr.add] using this
      subst hs
      rw [add_lit'] at h0 h1
      exact ⟨ab, ao, rfl, World.block_lt_of_cell? (a := ⟨ab, ao + i * 2, none⟩) _ h0, h0, by rw [← Nat.add_assoc] at h1; exact h1⟩
theorem slice_of_mails {H : Type} {enc : TypeId × Value → H} {W : World} {base : Nat} {spare : Nat → Bool} {held : Bool} {v : Value} {x : DataW H × List MemPlace} {fuel : Nat}
    (h : DataW.trod enc Try.prog W base spare held fuel 23 [v] = some x) : ∃ A n c, v = .slice A n c := by
  rcases DataW.trod_slice Try.underlying23 h with ⟨hcs, _⟩ | ⟨a, len, cap, _, _, _, _, hcs, _⟩
  · injection hcs with hcs _; exact ⟨_, _, _, hcs⟩
  · injection hcs with hcs _; exact ⟨_, _, _, hcs⟩
/-- A mailbox that came in: its four parts. -/
theorem open_box {H : Type} {enc : TypeId × Value → H} {W : World} {base b0 : Nat} {spare : Nat → Bool} {held : Bool} {v : Value} {d : DataW H} {p : List MemPlace}
    (hv : Value.okWide Try.prog W .any b0 26 v) (h : DataW.Trod enc Try.prog W base spare held 26 v d p) :
    ∃ (x : Bo) (A1 : Option Addr) (n1 c1 : Nat) (A2 : Option Addr) (n2 c2 : Nat) (A3 : Option Addr) (n3 c3 : Nat), v = .agg #[.int .i64 x.room, .slice A1 n1 c1, .slice A2 n2 c2, .slice A3 n3 c3] ∧ Tri W A1 n1 c1 A2 n2 c2 A3 n3 c3 x := by
  obtain ⟨c0, c1, c2, c3, y0, y1, y2, y3, m, rfl, rfl, rfl, hy0, hy1, hy2, hy3⟩ := Go.Joins.open_agg4 Try.underlying26 (by kernel_rfl) (by kernel_rfl) hv h
  obtain ⟨x, e0, _, w0⟩ := DataW.trod_int Try.underlying3 hy0
  injection e0 with e0 _
  subst e0
  obtain ⟨A1, n1, d1, ms, rfl, hr1, _⟩ := open_row64 hy1
  obtain ⟨A2, n2, d2, rfl⟩ := slice_of_mails hy2
  obtain ⟨hl, hc, hnil, vs, hlen, _, hr2⟩ := open_mails hy2
  obtain ⟨A3, n3, d3, rs, rfl, hr3, _⟩ := open_row hy3
  exact ⟨⟨x, ms, vs, rs⟩, A1, n1, d1, A2, n2, d2, A3, n3, d3, rfl, ⟨hr1, ⟨hlen, hc.1, hc.2, hnil, hr2⟩, hr3⟩⟩
end Go.Proofs.Ytjpnfjiccckaiaa

