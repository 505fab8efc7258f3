/- A slice of vertices that came in as an argument, opened: its address leads to the cells of a list of vertices, each number an int. -/
import Derived.Test.YtdhcnmcfgicbjaaBase
import Derived.ProofKit
import Derived.OpenShut
import Derived.ChangeOld
import Derived.Deep.SlicePairs
namespace Go.Proofs.Ytdhcnmcfgicbjaa
open Go.ChangeShapes Go.WideShapes Go.ChangeAt Go.RowKit
set_option linter.unusedVariables false

theorem own : ownKnob Try.prog.godebug = none := by kernel_rfl
theorem laidOut : laidOutB Try.prog = true := by kernel_rfl
theorem in64_of_wf {n : Int} (h : (Lit.int .i64 n).wf = true) : In64 n := by
  have : -9223372036854775808 ≤ n ∧ n ≤ 9223372036854775807 := by simpa [Lit.wf, IntKind.min, IntKind.max, IntKind.signed, IntKind.bits] using h
  exact this

theorem open_vs {H : Type} {enc : TypeId × Value → H} {W : World} {base : Nat} {spare : Nat → Bool} {held : Bool} {a0 : Option Addr} {len cap : Nat} {x : DataW H × List MemPlace} {fuel : Nat}
    (h : DataW.trod enc Try.prog W base spare held fuel 22 [.slice a0 len cap] = some x) :
    len ≤ 9223372036854775807 ∧ (len ≤ cap ∧ cap ≤ 9223372036854775807) ∧ ∃ vs : List (Int × Int), vs.length = len ∧ Fit vs ∧ VRow W W.heap.size a0 vs := by
  rcases Go.Deep.open_slice_pairs Try.underlying22 Try.underlying42 (by kernel_rfl) rfl rfl (by kernel_rfl) (by kernel_rfl) h with ⟨hcs, _⟩ | ⟨a, l, c, m, n, V0, V1, D0, D1, P0, P1, hcs, _, hl, hm, hmm, _, hi⟩
  · simp at hcs
    obtain ⟨rfl, rfl, rfl⟩ := hcs
    exact ⟨by omega, ⟨by omega, by omega⟩, [], rfl, fun x hx => by simp at hx, fun i x hi => by simp at hi⟩
  · simp only [List.cons.injEq, Value.slice.injEq, and_true] at hcs
    obtain ⟨rfl, rfl, rfl⟩ := hcs
    have hlm : len ≤ m := by rw [hmm]; split <;> omega
    have each : ∀ i, i < len → ∃ q : Int × Int, W.cell? (a.add (i * 2)) = some (.int .i64 q.1) ∧ W.cell? (a.add (i * 2 + 1)) = some (.int .i64 q.2) ∧ In64 q.1 ∧ In64 q.2 := by
      intro i hil
      obtain ⟨h0, h1, t0, t1⟩ := hi i (by omega)
      obtain ⟨p, e0, _, w0⟩ := DataW.trod_int Try.underlying3 t0
      obtain ⟨q, e1, _, w1⟩ := DataW.trod_int Try.underlying3 t1
      injection e0 with e0 _
      injection e1 with e1 _
      exact ⟨(p, q), by rw [h0, e0], by rw [h1, e1], in64_of_wf w0, in64_of_wf w1⟩
    obtain ⟨f, hf⟩ := Go.Deep.choose_lt each
    refine ⟨by unfold maxLen at hm; omega, ⟨hl, by unfold maxLen at hm; omega⟩, (List.range len).map f, by simp, ?_, ?_⟩
    · intro x hx
      obtain ⟨i, hir, rfl⟩ := List.mem_map.1 hx
      exact (hf i (List.mem_range.1 hir)).2.2
    · intro i x hx
      have hil : i < len := by have := (List.getElem?_eq_some_iff.1 hx).1; simpa using this
      have e : f i = x := by
        rw [List.getElem?_map, List.getElem?_range hil] at hx
        injection hx
      obtain ⟨h0, h1, _, _⟩ := hf i hil
      rw [e] at h0 h1
      have hs : a.spot = none := by
        obtain ⟨ab, ao, sp⟩ := a
        have := World.cell?_spot (hf 0 (by omega)).1
        simpa [Addr.add] using this
      obtain ⟨ab, ao, sp⟩ := a
      simp only at hs
      subst hs
      have e0 : ((⟨ab, ao, none⟩ : Addr).add (i * 2)) = ⟨ab, ao + i * 2, none⟩ := by
        unfold Addr.add
        split
        · rename_i hz; rw [show i * 2 = 0 by simpa using hz]; rfl
        · rfl
      have e1 : ((⟨ab, ao, none⟩ : Addr).add (i * 2 + 1)) = ⟨ab, ao + i * 2 + 1, none⟩ := by
        unfold Addr.add
        rw [if_neg (by simp)]
        simp [Nat.add_assoc]
      rw [e0] at h0
      rw [e1] at h1
      exact ⟨ab, ao, rfl, World.block_lt_of_cell? (a := ⟨ab, ao + i * 2, none⟩) _ h0, h0, h1⟩
end Go.Proofs.Ytdhcnmcfgicbjaa

