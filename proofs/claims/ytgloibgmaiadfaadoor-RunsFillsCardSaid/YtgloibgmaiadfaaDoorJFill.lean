/- One processor's ring filled, one by one, in plain mathematics. -/
import Derived.Test.YtgloibgmaiadfaaDoorJLow
namespace Go.Proofs.YtgloibgmaiadfaaDoor.Jp
set_option linter.unusedVariables false

structure Fill (r : Rn) (s : Int) (m q n : Nat) : Prop where
  may : May r
  size : r.size = s
  few : r.rings.length = m
  at' : q < m
  on : onP r q = true
  mem : ∀ z : Int, z ∈ all r ↔ 1 ≤ z ∧ z ≤ n
  len : (all r).length = n
  other : ∀ (j : Nat) x, r.rings[j]? = some x → j ≠ q → Rp.all x = []
  rings : r.rings.length ≤ 64
  rows : r.rows.length ≤ 64
  tree : r.tree.length ≤ 64
theorem Fill.low {r : Rn} {s : Int} {m q n : Nat} (h : Fill r s m q n) (hn : n ≤ 100) : Low r :=
  ⟨h.rings, h.rows, fun g hg => by
    have h1 := ((sub_flatten (List.mem_map.2 ⟨g, hg, rfl⟩ : Rp.all g ∈ r.rings.map Rp.all)).trans (List.sublist_append_left _ r.rows.flatten)).length_le
    have h2 : g.2.length ≤ (Rp.all g).length := by unfold Rp.all; split <;> simp
    have h3 : (all r).length = n := h.len
    unfold all at h3
    omega, fun l hl => by
    have h1 := ((sub_flatten hl).trans (List.sublist_append_right (r.rings.map Rp.all).flatten _)).length_le
    have h3 : (all r).length = n := h.len
    unfold all at h3
    omega, h.tree, fun z hz => by have := (h.mem z).1 hz; unfold In64; omega⟩
theorem fill_zero {vs : List (Int × Int)} {size : Int} (h : May (made vs size)) (hn : vs.length ≤ 64) {q : Nat} (hq : q < (made vs size).rings.length) : Fill (made vs size) size (made vs size).rings.length q 0 := by
  have h1 := Tp.those_le (fun x => x.2 == 3) vs vs.length
  have h2 := Tp.those_le (fun x => x.2 == 1) vs vs.length
  rw [List.take_length] at h1 h2
  have hl : (made vs size).rings.length = (Dp.procs vs).length := by unfold made; simp
  refine ⟨h, rfl, rfl, hq, ?_, fun z => ?_, by rw [made_all]; rfl, fun j x hx _ => ?_, by unfold made Dp.procs; simp only [List.length_replicate]; omega, by unfold made Dp.nodes; simp only [List.length_replicate]; omega, by unfold made; exact hn⟩
  · unfold onP
    rw [has_iff]
    exact (mem_ones (n := (Dp.procs vs).length) (by unfold Dp.procs; omega) _).2 ⟨by omega, by omega⟩
  · rw [made_all]
    constructor
    · intro hz; simp at hz
    · intro hz; omega
  · have hx' : (List.replicate (Dp.procs vs).length ((0 : Int), ([] : List Int)))[j]? = some x := hx
    rw [List.eq_of_mem_replicate (List.mem_of_getElem? hx')]
    rfl
theorem Fill.step {r : Rn} {s : Int} {m q n : Nat} (h : Fill r s m q n) (hn : n ≤ 100) : put r q ((n : Int) + 1) = (done r q ((n : Int) + 1), 0) ∧ Fill (done r q ((n : Int) + 1)) s m q (n + 1) := by
  have hq : q < r.rings.length := by rw [h.few]; exact h.at'
  have hno : ((n : Int) + 1) ∉ all r := fun hc => by have := (h.mem _).1 hc; omega
  have hnd := node_lt h.may hq
  have hp := perm_done (r := r) (p := q) (g := (n : Int) + 1) (by omega) hq hnd
  have hmay := done_may h.may hq (g := (n : Int) + 1) (by omega) hno h.on
  have hrl : (done r q ((n : Int) + 1)).rings.length = r.rings.length := by unfold done rowed ringed; simp
  have hsl : (done r q ((n : Int) + 1)).rows.length = r.rows.length := by unfold done rowed ringed; simp
  refine ⟨put_done (by rintro (h1 | h1 | h1 | h1); exact h1 h.may; all_goals omega) (has_no.2 hno) h.on, hmay, h.size, by rw [hrl, h.few], h.at', h.on, fun z => ?_, by rw [hp.length_eq, List.length_append, h.len]; rfl, fun j x hx hj => ?_, by rw [hrl]; exact h.rings, by rw [hsl]; exact h.rows, h.tree⟩
  · rw [hp.mem_iff, List.mem_append, List.mem_singleton, h.mem]
    omega
  · have hx' : (r.rings.set q (Rp.put (ringAt r q) ((n : Int) + 1) r.size).1)[j]? = some x := hx
    rw [List.getElem?_set_ne (fun e => hj e.symm)] at hx'
    exact h.other j x hx' hj
theorem Fill.next {r : Rn} {s : Int} {m q n : Nat} (h : Fill r s m q n) (hn : n ≤ 100) : ∃ l, (done r q ((n : Int) + 1)).rings[q]? = some ((n : Int) + 1, l) ∧ (l.length : Int) ≤ s := by
  have hq : q < r.rings.length := by rw [h.few]; exact h.at'
  obtain ⟨l, hl⟩ := done_next hq ((n : Int) + 1)
  have F := (h.step hn).2
  have h1 := may_size F.may.low (F.may.ring q _ hl).1
  simp only at h1
  have h2 := F.size
  have h3 := F.may.low
  exact ⟨l, hl, by omega⟩
theorem Fill.where' {r : Rn} {s : Int} {m q n : Nat} (h : Fill r s m q n) {g : Nat} (h1 : 1 ≤ g) (h2 : g ≤ n) : whr r g = ((q : Int), -1) ∨ ∃ k : Nat, whr r g = (-1, (k : Int)) := by
  have hin := (h.mem (g : Int)).2 ⟨by omega, by omega⟩
  have hq : q < r.rings.length := by rw [h.few]; exact h.at'
  obtain ⟨x, hx⟩ : ∃ x, r.rings[q]? = some x := ⟨_, List.getElem?_eq_getElem hq⟩
  by_cases hg : (g : Int) ∈ Rp.all x
  · refine .inl (whr_ring hx (has_iff.2 hg) (fun j hj y hy => ?_))
    rw [h.other j y hy (by omega)]
    rfl
  · refine .inr ?_
    have hn : ∀ y ∈ r.rings, Tp.has (Rp.all y) (g : Int) = false := fun y hy => by
      obtain ⟨j, hj, e⟩ := List.mem_iff_getElem.1 hy
      have hy' : r.rings[j]? = some y := by rw [List.getElem?_eq_getElem hj, e]
      by_cases hjq : j = q
      · subst hjq
        rw [hx] at hy'
        injection hy' with hy'
        subst hy'
        exact has_no.2 hg
      · rw [h.other j y hy' hjq]
        rfl
    have hs : ∃ l ∈ r.rows, (g : Int) ∈ l := by
      rcases mem_all.1 hin with ⟨y, hy, hgy⟩ | h3
      · exact absurd hgy (has_no.1 (hn y hy))
      · exact h3
    obtain ⟨l, hl, hgl⟩ := hs
    have hs : (r.rows.findIdx? (fun x => Tp.has x (g : Int))).isSome := by rw [List.findIdx?_isSome]; exact List.any_eq_true.2 ⟨l, hl, has_iff.2 hgl⟩
    obtain ⟨p, hp⟩ := Option.isSome_iff_exists.1 hs
    exact ⟨p, by unfold whr; rw [findIdx?_no hn, hp]⟩
end Go.Proofs.YtgloibgmaiadfaaDoor.Jp

