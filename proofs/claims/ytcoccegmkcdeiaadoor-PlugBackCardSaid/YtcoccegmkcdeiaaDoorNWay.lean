/- What stays short behind a plug. -/
import Derived.Test.YtcoccegmkcdeiaaDoorM8
import Derived.Test.YtcoccegmkcdeiaaDoorJFew
namespace Go.Proofs.YtcoccegmkcdeiaaDoor
open Go.RowKit
set_option linter.unusedVariables false

theorem low_plugged {r : Jp.Rn} (h : Low r) (p : Int) : Low (Jp.plugged r p) := ⟨h.rings, h.rows, h.ring, h.row, h.tree, h.fit⟩
theorem low_on {r : Jp.Rn} (h : Low r) (x : Nat) : Low { r with on := x } := ⟨h.rings, h.rows, h.ring, h.row, h.tree, h.fit⟩
theorem low_gone {r : Jp.Rn} (h : FewP r) (hm : Jp.May r) {p : Nat} (hp : p < r.rings.length) {cur : Int} (hc : In64 cur) : Low (Jp.gone r p cur) := by
  have h1 := h.rings
  have h2 := h.rows
  have hpm := Jp.perm_gone (cur := cur) hp (Jp.node_lt hm hp)
  obtain ⟨x, hx⟩ : ∃ x, r.rings[p]? = some x := ⟨_, List.getElem?_eq_getElem hp⟩
  obtain ⟨l, hl⟩ : ∃ l, r.rows[Jp.nodeOf r p]? = some l := ⟨_, List.getElem?_eq_getElem (Jp.node_lt hm hp)⟩
  have h3 := h.ring x (List.mem_of_getElem? hx)
  have h4 := h.row l (List.mem_of_getElem? hl)
  have h5 : (Rp.all x).length ≤ x.2.length + 1 := by unfold Rp.all; split <;> simp
  refine ⟨by rw [Jp.gone_rings, List.length_set]; omega, by rw [Jp.gone_rows, List.length_set]; omega, fun g hg => ?_, fun q hq => ?_, h.tree, fun z hz => ?_⟩
  · rw [Jp.gone_rings] at hg
    rcases List.mem_or_eq_of_mem_set hg with hg | rfl
    · have := h.ring g hg; omega
    · simp
  · rw [Jp.gone_rows] at hq
    rcases List.mem_or_eq_of_mem_set hq with hq | rfl
    · have := h.row q hq; omega
    · rw [Jp.rowAt_some hl]
      unfold Jp.left
      rw [Jp.ringAt_some hx, List.length_append, List.length_append]
      have : (if cur = 0 then ([] : List Int) else [cur]).length ≤ 1 := by split <;> simp
      omega
  · rcases List.mem_append.1 (hpm.mem_iff.1 hz) with hz | hz
    · exact h.fit z hz
    · by_cases e : cur = 0
      · rw [if_pos e] at hz; cases hz
      · rw [if_neg e] at hz
        rw [List.mem_singleton.1 hz]
        exact hc
end Go.Proofs.YtcoccegmkcdeiaaDoor

