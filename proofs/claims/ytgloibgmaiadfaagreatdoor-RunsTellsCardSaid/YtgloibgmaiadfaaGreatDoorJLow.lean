/- What is few stays short behind a put, and behind a push. -/
import Derived.Test.YtgloibgmaiadfaaGreatDoorJShown
namespace Go.Proofs.YtgloibgmaiadfaaGreatDoor
open Go.RowKit
set_option linter.unusedVariables false

theorem mem_set_or {α : Type} {l : List α} {k : Nat} {a x : α} (h : x ∈ l.set k a) : x ∈ l ∨ x = a := List.mem_or_eq_of_mem_set h
theorem low_done {r : Jp.Rn} {m : Nat} (hm : m ≤ 150) (h1 : r.rings.length ≤ 64) (h2 : r.rows.length ≤ 64) (h3 : ∀ g ∈ r.rings, g.2.length ≤ m) (h4 : ∀ l ∈ r.rows, l.length ≤ m) (h5 : r.tree.length ≤ 64) (k : Nat) (g : Int) (h6 : InA (Jp.done r k g)) : Low (Jp.done r k g) := by
  have hra : (Jp.ringAt r k).2.length ≤ m := by
    unfold Jp.ringAt
    cases e : r.rings[k]? with
    | none => simp
    | some x => exact h3 x (List.mem_of_getElem? e)
  have hro : (Jp.rowAt r (Jp.nodeOf r k)).length ≤ m := by
    unfold Jp.rowAt
    cases e : r.rows[Jp.nodeOf r k]? with
    | none => simp
    | some x => exact h4 x (List.mem_of_getElem? e)
  have hsp := Jp.put_spill (Jp.ringAt r k) g r.size
  have h6' := h6
  unfold Jp.done Jp.rowed Jp.ringed at h6' ⊢
  refine ⟨by simp only [List.length_set]; omega, by simp only [List.length_set]; omega, fun y hy => ?_, fun y hy => ?_, h5, h6'⟩
  · rcases mem_set_or hy with h | rfl
    · have := h3 y h; omega
    · omega
  · rcases mem_set_or hy with h | rfl
    · have := h4 y h; omega
    · rw [List.length_append]; omega
theorem low_pushed {r : Jp.Rn} {m : Nat} (hm : m ≤ 150) (h1 : r.rings.length ≤ 64) (h2 : r.rows.length ≤ 64) (h3 : ∀ g ∈ r.rings, g.2.length ≤ m) (h4 : ∀ l ∈ r.rows, l.length ≤ m) (h5 : r.tree.length ≤ 64) (k : Nat) (g : Int) (h6 : InA (Jp.pushed r k g)) : Low (Jp.pushed r k g) := by
  have hro : (Jp.rowAt r k).length ≤ m := by
    unfold Jp.rowAt
    cases e : r.rows[k]? with
    | none => simp
    | some x => exact h4 x (List.mem_of_getElem? e)
  have h6' := h6
  unfold Jp.pushed Jp.rowed at h6' ⊢
  refine ⟨by simp only; omega, by simp only [List.length_set]; omega, fun y hy => by have := h3 y hy; omega, fun y hy => ?_, h5, h6'⟩
  rcases mem_set_or hy with h | rfl
  · have := h4 y h; omega
  · rw [List.length_append, List.length_singleton]; omega
theorem ina_done {r : Jp.Rn} {k : Nat} {g : Int} (hM : Jp.May r) (hk : k < r.rings.length) (hg : 1 ≤ g) (hi : InA r) (h : In64 g) : InA (Jp.done r k g) := by
  obtain ⟨m, e1, e2⟩ := Jp.node_at hM.tree (k := k) (by rw [← hM.rings]; exact hk)
  have hn : Jp.nodeOf r k < r.rows.length := by unfold Jp.nodeOf; rw [e1, hM.rows]; simpa using e2
  intro z hz
  rcases List.mem_append.1 ((Jp.perm_done (by omega) hk hn).mem_iff.1 hz) with h' | h'
  · exact hi z h'
  · rw [List.mem_singleton.1 h']; exact h
theorem ina_pushed {r : Jp.Rn} {k : Nat} {g : Int} (hk : k < r.rows.length) (hi : InA r) (h : In64 g) : InA (Jp.pushed r k g) := by
  intro z hz
  rcases List.mem_append.1 ((Jp.perm_pushed hk g).mem_iff.1 hz) with h' | h'
  · exact hi z h'
  · rw [List.mem_singleton.1 h']; exact h
theorem low_put {r : Jp.Rn} (h : FewP r) (p g : Int) (hg : In64 g) : Low (Jp.put r p g).1 := by
  by_cases h0 : (Jp.put r p g).2 = 0
  · obtain ⟨k, _, hk, h1, _, _, hM, e⟩ := Jp.put_ok h0
    rw [e]
    exact low_done (m := 40) (by omega) (by have := h.rings; omega) (by have := h.rows; omega) h.ring h.row h.tree k g (ina_done hM hk h1 h.fit hg)
  · rw [Jp.put_no h0]
    exact h.low
theorem low_push {r : Jp.Rn} (h : FewP r) (p g : Int) (hg : In64 g) : Low (Jp.push r p g).1 := by
  by_cases h0 : (Jp.push r p g).2 = 0
  · obtain ⟨k, _, hk, _, _, _, e⟩ := Jp.push_ok h0
    rw [e]
    exact low_pushed (m := 40) (by omega) (by have := h.rings; omega) (by have := h.rows; omega) h.ring h.row h.tree k g (ina_pushed hk h.fit hg)
  · rw [Jp.push_no h0]
    exact h.low
end Go.Proofs.YtgloibgmaiadfaaGreatDoor

