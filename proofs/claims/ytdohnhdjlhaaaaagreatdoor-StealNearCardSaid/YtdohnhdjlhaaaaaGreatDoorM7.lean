/- Contracts and plain mathematics, put together by program (wip/merge.py) out of: YPlain WPlain WKeeps WLoc YTell YWay WWay ZOf. -/
import Derived.Test.YtdohnhdjlhaaaaaGreatDoorM6
import Derived.Test.YtdohnhdjlhaaaaaGreatDoorM3
import Derived.Test.YtdohnhdjlhaaaaaGreatDoorM5
import Derived.Test.YtdohnhdjlhaaaaaGreatDoorM0
import Derived.Test.YtdohnhdjlhaaaaaGreatDoorM4
/- Who runs next on a processor, of its own: in plain mathematics. -/
namespace Go.Proofs.YtdohnhdjlhaaaaaGreatDoor.Jp
set_option linter.unusedVariables false

/-- Of a processor that is plugged, of Runs that may be. -/
def locOn (r : Rn) (p : Nat) (tick : Int) : Rn × Int × Int :=
  if rowAt r (nodeOf r p) ≠ [] ∧ (tick.tmod 61 = 0 ∨ ((ringAt r p).1 = 0 ∧ (ringAt r p).2 = [])) then (rowed r (nodeOf r p) (rowAt r (nodeOf r p)).tail, (rowAt r (nodeOf r p)).headD 0, 3)
  else if (ringAt r p).1 ≠ 0 then (ringed r p (0, (ringAt r p).2), (ringAt r p).1, 1)
  else if (ringAt r p).2 ≠ [] then (ringed r p (0, (ringAt r p).2.tail), (ringAt r p).2.headD 0, 2)
  else (r, 0, 0)
open Classical in
noncomputable def loc (r : Rn) (p tick : Int) : Rn × Int × Int := if ¬ May r ∨ onP r p = false then (r, 0, 0) else locOn r p.toNat tick
theorem loc_no {r : Rn} {p tick : Int} (h : ¬ May r ∨ onP r p = false) : loc r p tick = (r, 0, 0) := by unfold loc; rw [if_pos h]
theorem loc_on {r : Rn} {p : Nat} {tick : Int} (h : May r) (ho : onP r p = true) : loc r p tick = locOn r p tick := by
  unfold loc
  rw [if_neg (by rw [ho]; simp [h])]
  rfl
theorem onP_lt {r : Rn} (h : May r) {p : Int} (ho : onP r p = true) : ∃ k : Nat, p = k ∧ k < r.rings.length := by
  have hm := has_iff.1 ho
  have h1 := Zp.mem_in hm
  have h2 := h.few p hm
  exact ⟨p.toNat, by omega, by omega⟩
/-- How a processor finds. -/
inductive Way (r : Rn) (p : Nat) (tick : Int) : Rn → Int → Int → Prop
  | row (g : Int) (t : List Int) (hl : r.rows[nodeOf r p]? = some (g :: t)) (hc : tick.tmod 61 = 0 ∨ ringAt r p = (0, [])) : Way r p tick (rowed r (nodeOf r p) t) g 3
  | next (g : Int) (t : List Int) (hx : r.rings[p]? = some (g, t)) (hg : g ≠ 0) (hc : rowAt r (nodeOf r p) = [] ∨ tick.tmod 61 ≠ 0) : Way r p tick (ringed r p (0, t)) g 1
  | ring (g : Int) (t : List Int) (hx : r.rings[p]? = some (0, g :: t)) (hc : rowAt r (nodeOf r p) = [] ∨ tick.tmod 61 ≠ 0) : Way r p tick (ringed r p (0, t)) g 2
  | none (hx : r.rings[p]? = some (0, [])) (hl : r.rows[nodeOf r p]? = some []) : Way r p tick r 0 0
theorem way {r : Rn} (h : May r) {p : Nat} (hp : p < r.rings.length) (tick : Int) : Way r p tick (locOn r p tick).1 (locOn r p tick).2.1 (locOn r p tick).2.2 := by
  obtain ⟨⟨x, l⟩, hx⟩ : ∃ x, r.rings[p]? = some x := ⟨_, List.getElem?_eq_getElem hp⟩
  obtain ⟨row, hl⟩ : ∃ l, r.rows[nodeOf r p]? = some l := ⟨_, List.getElem?_eq_getElem (node_lt h hp)⟩
  have ex := ringAt_some hx
  have el := rowAt_some hl
  unfold locOn
  by_cases h1 : rowAt r (nodeOf r p) ≠ [] ∧ (tick.tmod 61 = 0 ∨ ((ringAt r p).1 = 0 ∧ (ringAt r p).2 = []))
  · rw [if_pos h1]
    obtain ⟨g, t, e⟩ := List.exists_cons_of_ne_nil h1.1
    rw [e]
    refine .row g t (by rw [hl, ← e, el]) ?_
    rcases h1.2 with h2 | h2
    · exact .inl h2
    · exact .inr (Prod.ext h2.1 h2.2)
  · rw [if_neg h1]
    have hc : (ringAt r p ≠ (0, [])) → rowAt r (nodeOf r p) = [] ∨ tick.tmod 61 ≠ 0 := fun hne => by
      by_cases h2 : rowAt r (nodeOf r p) = []
      · exact .inl h2
      · exact .inr (fun h3 => h1 ⟨h2, .inl h3⟩)
    by_cases h2 : (ringAt r p).1 ≠ 0
    · rw [if_pos h2]
      have e : ringAt r p = ((ringAt r p).1, (ringAt r p).2) := rfl
      exact .next _ _ (by rw [hx, ← ex]) h2 (hc (fun h3 => h2 (by rw [h3])))
    · rw [if_neg h2]
      have h2 := Classical.not_not.1 h2
      by_cases h3 : (ringAt r p).2 ≠ []
      · rw [if_pos h3]
        obtain ⟨g, t, e⟩ := List.exists_cons_of_ne_nil h3
        rw [e]
        refine .ring g t ?_ (hc (fun h4 => h3 (by rw [h4])))
        rw [hx, ← ex, ← e, ← h2]
      · rw [if_neg h3]
        have h3 := Classical.not_not.1 h3
        refine .none ?_ ?_
        · rw [hx, ← ex, ← h2, ← h3]
        · by_cases h4 : rowAt r (nodeOf r p) = []
          · rw [hl, ← el, h4]
          · exact absurd ⟨h4, .inr ⟨h2, h3⟩⟩ h1
theorem all_zero' (t : List Int) : Rp.all (0, t) = t := rfl
theorem all_next {g : Int} (hg : g ≠ 0) (t : List Int) : Rp.all (g, t) = g :: t := by unfold Rp.all; rw [if_neg hg]
theorem count_rowed {r : Rn} {n : Nat} {l t : List Int} (hl : r.rows[n]? = some l) (z : Int) : (all (rowed r n t)).count z + l.count z = (all r).count z + t.count z := by
  have := count_set hl t z
  unfold all rowed
  simp only [List.count_append] at this ⊢
  omega
theorem count_ringed {r : Rn} {p : Nat} {x y : Int × List Int} (hx : r.rings[p]? = some x) (z : Int) : (all (ringed r p y)).count z + (Rp.all x).count z = (all r).count z + (Rp.all y).count z := by
  have := count_set (l := r.rings.map Rp.all) (k := p) (a := Rp.all x) (by rw [List.getElem?_map, hx]; rfl) (Rp.all y) z
  unfold all ringed
  simp only [map_set', List.count_append] at this ⊢
  omega
/-- Nothing is lost. -/
theorem Way.perm {r r' : Rn} {p : Nat} {tick g k : Int} (h : Way r p tick r' g k) (hg : g ≠ 0) : (g :: all r').Perm (all r) := by
  rw [List.perm_iff_count]
  intro z
  cases h with
  | row g t hl hc =>
    have := count_rowed (t := t) hl z
    simp only [List.count_cons] at this ⊢
    omega
  | next g t hx hg' hc =>
    have := count_ringed (y := (0, t)) hx z
    rw [all_next hg', all_zero'] at this
    simp only [List.count_cons] at this ⊢
    omega
  | ring g t hx hc =>
    have := count_ringed (y := (0, t)) hx z
    rw [all_zero', all_zero'] at this
    simp only [List.count_cons] at this ⊢
    omega
  | none => exact absurd rfl hg
theorem Way.tree {r r' : Rn} {p : Nat} {tick g k : Int} (h : Way r p tick r' g k) : r'.tree = r.tree ∧ r'.size = r.size ∧ r'.on = r.on ∧ r'.rings.length = r.rings.length ∧ r'.rows.length = r.rows.length := by
  cases h <;> simp [rowed, ringed]
/-- Who is told is above 0, but for nobody. -/
theorem Way.pos {r r' : Rn} {p : Nat} {tick g k : Int} (h : Way r p tick r' g k) (hm : May r) : (g = 0 ∧ k = 0 ∧ r' = r ∧ r.rings[p]? = some (0, []) ∧ r.rows[nodeOf r p]? = some []) ∨ (1 ≤ g ∧ k ≠ 0) := by
  have pos : ∀ z ∈ all r, 1 ≤ z := hm.once.1
  cases h with
  | row g t hl hc => exact .inr ⟨pos g (mem_all.2 (.inr ⟨_, List.mem_of_getElem? hl, List.mem_cons_self ..⟩)), by decide⟩
  | next g t hx hg hc => exact .inr ⟨pos g (mem_all.2 (.inl ⟨_, List.mem_of_getElem? hx, by rw [all_next hg]; exact List.mem_cons_self ..⟩)), by decide⟩
  | ring g t hx hc => exact .inr ⟨pos g (mem_all.2 (.inl ⟨_, List.mem_of_getElem? hx, by rw [all_zero']; exact List.mem_cons_self ..⟩)), by decide⟩
  | none hx hl => exact .inl ⟨rfl, rfl, rfl, hx, hl⟩
theorem once_tail {r r' : Rn} {g : Int} (h : Rp.Once (all r)) (hp : (g :: all r').Perm (all r)) : Rp.Once (all r') := by
  have h1 := h.perm hp.symm
  exact ⟨fun x hx => h1.1 x (List.mem_cons_of_mem _ hx), (List.nodup_cons.1 h1.2).2⟩
/-- What may be stays so. -/
theorem Way.may {r r' : Rn} {p : Nat} {tick g k : Int} (h : Way r p tick r' g k) (hm : May r) (ho : onP r p = true) : May r' := by
  rcases h.pos hm with ⟨_, _, e, _⟩ | ⟨h1, _⟩
  · rw [e]; exact hm
  have honce := once_tail hm.once (h.perm (by omega))
  obtain ⟨e1, e2, e3, e4, e5⟩ := h.tree
  refine ⟨by rw [e1]; exact hm.tree, by rw [e2]; exact hm.low, by rw [e2]; exact hm.high, by rw [e4, e1]; exact hm.rings, by rw [e5, e1]; exact hm.rows, by rw [e3]; exact hm.some, by rw [e3, e4]; exact hm.few, fun q y hy => ?_, honce⟩
  have hon : ∀ q, onP r' q = onP r q := fun q => by unfold onP; rw [e3]
  rw [e2, hon]
  have hyo := ring_once honce (List.mem_of_getElem? hy)
  have same : r'.rings = r.rings → Rp.may y r.size = true ∧ (Rp.all y = [] ∨ onP r q = true) := fun e => hm.ring q y (by rw [← e]; exact hy)
  have turned : ∀ x t, r.rings[p]? = some x → r'.rings = r.rings.set p (0, t) → t.length ≤ x.2.length → Rp.may y r.size = true ∧ (Rp.all y = [] ∨ onP r q = true) := fun x t hx e hl => by
    rw [e] at hy
    by_cases hq : p = q
    · subst hq
      rw [List.getElem?_set_self (by exact (List.getElem?_eq_some_iff.1 hx).1)] at hy
      injection hy with hy
      subst hy
      have := may_size hm.low (hm.ring p x hx).1
      exact ⟨may_of hm.low (by simp only; omega) hyo, .inr ho⟩
    · rw [List.getElem?_set_ne hq] at hy
      exact hm.ring q y hy
  cases h with
  | row g t hl hc => exact same rfl
  | next g t hx hg hc => exact turned _ t hx rfl (Nat.le_refl _)
  | ring g t hx hc => exact turned _ t hx rfl (by simp)
  | none => exact same rfl
/-- Who stands in one place stands in no other. -/
theorem once_ring {r : Rn} (h : Rp.Once (all r)) {p q : Nat} {x y : Int × List Int} (hx : r.rings[p]? = some x) (hy : r.rings[q]? = some y) {g : Int} (h1 : g ∈ Rp.all x) (h2 : g ∈ Rp.all y) : p = q := by
  by_cases e : p = q
  · exact e
  · exfalso
    have hc := count_ringed (y := (0, [])) hx g
    have hy' : (ringed r p (0, [])).rings[q]? = some y := by
      show (r.rings.set p (0, []))[q]? = _
      rw [List.getElem?_set_ne e]; exact hy
    have m1 : 0 < (Rp.all x).count g := List.count_pos_iff.2 h1
    have m2 : 0 < (all (ringed r p (0, []))).count g := List.count_pos_iff.2 (mem_all.2 (.inl ⟨y, List.mem_of_getElem? hy', h2⟩))
    have m3 : (all r).count g ≤ 1 := List.nodup_iff_count.1 h.2 g
    have m4 : (Rp.all (0, ([] : List Int))).count g = 0 := rfl
    omega
theorem once_row {r : Rn} (h : Rp.Once (all r)) {p q : Nat} {x y : List Int} (hx : r.rows[p]? = some x) (hy : r.rows[q]? = some y) {g : Int} (h1 : g ∈ x) (h2 : g ∈ y) : p = q := by
  by_cases e : p = q
  · exact e
  · exfalso
    have hc := count_rowed (t := []) hx g
    have hy' : (rowed r p []).rows[q]? = some y := by
      show (r.rows.set p [])[q]? = _
      rw [List.getElem?_set_ne e]; exact hy
    have m1 : 0 < x.count g := List.count_pos_iff.2 h1
    have m2 : 0 < (all (rowed r p [])).count g := List.count_pos_iff.2 (mem_all.2 (.inr ⟨y, List.mem_of_getElem? hy', h2⟩))
    have m3 : (all r).count g ≤ 1 := List.nodup_iff_count.1 h.2 g
    have m4 : ([] : List Int).count g = 0 := rfl
    omega
theorem once_both {r : Rn} (h : Rp.Once (all r)) {p q : Nat} {x : Int × List Int} {y : List Int} (hx : r.rings[p]? = some x) (hy : r.rows[q]? = some y) {g : Int} (h1 : g ∈ Rp.all x) (h2 : g ∈ y) : False := by
  have hc := count_rowed (t := []) hy g
  have m1 : 0 < y.count g := List.count_pos_iff.2 h2
  have m2 : 0 < (all (rowed r q [])).count g := List.count_pos_iff.2 (mem_all.2 (.inl ⟨x, List.mem_of_getElem? hx, h1⟩))
  have m3 : (all r).count g ≤ 1 := List.nodup_iff_count.1 h.2 g
  have m4 : ([] : List Int).count g = 0 := rfl
  omega
/-- Where who is told stood. -/
theorem Way.stood {r r' : Rn} {p : Nat} {tick g k : Int} (h : Way r p tick r' g k) (hm : May r) (hg : g ≠ 0) : (k = 3 ∧ whr r g = (-1, (nodeOf r p : Int))) ∨ (k ≠ 3 ∧ whr r g = ((p : Int), -1)) := by
  cases h with
  | row g t hl hc =>
    refine .inl ⟨rfl, whr_row ?_ hl (has_iff.2 (List.mem_cons_self ..)) ?_⟩
    · intro y hy
      obtain ⟨q, hq⟩ := List.mem_iff_getElem?.1 hy
      exact has_no.2 (fun h' => once_both hm.once hq hl h' (List.mem_cons_self ..))
    · intro j hj y hy
      exact has_no.2 (fun h' => by have := once_row hm.once hl hy (List.mem_cons_self ..) h'; omega)
  | next g t hx hg' hc =>
    have hin : g ∈ Rp.all (g, t) := by rw [all_next hg']; exact List.mem_cons_self ..
    exact .inr ⟨by decide, whr_ring hx (has_iff.2 hin) (fun j hj y hy => has_no.2 (fun h' => by have := once_ring hm.once hx hy hin h'; omega))⟩
  | ring g t hx hc =>
    have hin : g ∈ Rp.all (0, g :: t) := List.mem_cons_self ..
    exact .inr ⟨by decide, whr_ring hx (has_iff.2 hin) (fun j hj y hy => has_no.2 (fun h' => by have := once_ring hm.once hx hy hin h'; omega))⟩
  | none => exact absurd rfl hg
/-- Whom a processor finds, in turn. -/
def order (r : Rn) (p : Nat) (tick : Int) : List Int := if tick.tmod 61 = 0 then rowAt r (nodeOf r p) ++ Rp.all (ringAt r p) else Rp.all (ringAt r p) ++ rowAt r (nodeOf r p)
theorem Way.order {r r' : Rn} {p : Nat} {tick g k : Int} (h : Way r p tick r' g k) (hm : May r) (hp : p < r.rings.length) : g = (order r p tick).headD 0 ∧ Jp.order r' p tick = (Jp.order r p tick).tail := by
  have hn := node_lt hm hp
  cases h with
  | row g t hl hc =>
    have e1 : rowAt r (nodeOf r p) = g :: t := rowAt_some hl
    have e2 : rowAt (rowed r (nodeOf r p) t) (nodeOf (rowed r (nodeOf r p) t) p) = t := rowAt_some (by show (r.rows.set (nodeOf r p) t)[nodeOf r p]? = _; rw [List.getElem?_set_self hn])
    have e3 : ringAt (rowed r (nodeOf r p) t) p = ringAt r p := rfl
    unfold Jp.order
    rw [e1, e2, e3]
    by_cases ht : tick.tmod 61 = 0
    · rw [if_pos ht, if_pos ht]
      exact ⟨rfl, rfl⟩
    · rw [if_neg ht, if_neg ht]
      rcases hc with hc | hc
      · exact absurd hc ht
      · rw [hc]
        exact ⟨rfl, rfl⟩
  | next g t hx hg hc =>
    have e1 : ringAt r p = (g, t) := ringAt_some hx
    have e2 : ringAt (ringed r p (0, t)) p = (0, t) := ringAt_some (by show (r.rings.set p (0, t))[p]? = _; rw [List.getElem?_set_self hp])
    have e3 : rowAt (ringed r p (0, t)) (nodeOf (ringed r p (0, t)) p) = rowAt r (nodeOf r p) := rfl
    unfold Jp.order
    rw [e1, e2, e3, all_next hg, all_zero']
    by_cases ht : tick.tmod 61 = 0
    · rw [if_pos ht, if_pos ht]
      rcases hc with hc | hc
      · rw [hc]; exact ⟨rfl, rfl⟩
      · exact absurd ht hc
    · rw [if_neg ht, if_neg ht]
      exact ⟨rfl, rfl⟩
  | ring g t hx hc =>
    have e1 : ringAt r p = (0, g :: t) := ringAt_some hx
    have e2 : ringAt (ringed r p (0, t)) p = (0, t) := ringAt_some (by show (r.rings.set p (0, t))[p]? = _; rw [List.getElem?_set_self hp])
    have e3 : rowAt (ringed r p (0, t)) (nodeOf (ringed r p (0, t)) p) = rowAt r (nodeOf r p) := rfl
    unfold Jp.order
    rw [e1, e2, e3, all_zero', all_zero']
    by_cases ht : tick.tmod 61 = 0
    · rw [if_pos ht, if_pos ht]
      rcases hc with hc | hc
      · rw [hc]; exact ⟨rfl, rfl⟩
      · exact absurd ht hc
    · rw [if_neg ht, if_neg ht]
      exact ⟨rfl, rfl⟩
  | none hx hl =>
    have e1 : ringAt r p = (0, []) := ringAt_some hx
    have e2 : rowAt r (nodeOf r p) = [] := rowAt_some hl
    unfold Jp.order
    rw [e1, e2]
    split <;> exact ⟨rfl, rfl⟩
/-- All else stays. -/
theorem Way.others {r r' : Rn} {p : Nat} {tick g k : Int} (h : Way r p tick r' g k) : (∀ q, q ≠ p → r'.rings[q]? = r.rings[q]?) ∧ ∀ m, m ≠ nodeOf r p → r'.rows[m]? = r.rows[m]? := by
  cases h with
  | row g t hl hc => exact ⟨fun q _ => rfl, fun m hm => List.getElem?_set_ne (fun e => hm e.symm)⟩
  | next g t hx hg hc => exact ⟨fun q hq => List.getElem?_set_ne (fun e => hq e.symm), fun m _ => rfl⟩
  | ring g t hx hc => exact ⟨fun q hq => List.getElem?_set_ne (fun e => hq e.symm), fun m _ => rfl⟩
  | none => exact ⟨fun q _ => rfl, fun m _ => rfl⟩
section
variable {r : Rn} {k m : Nat} {tick x : Int} {l t : List Int}
theorem locOn_row (hn : nodeOf r k = m) (hl : rowAt r m = l) (hx : ringAt r k = (x, t)) (h1 : l ≠ []) (h2 : tick.tmod 61 = 0 ∨ (x = 0 ∧ t = [])) : locOn r k tick = (rowed r m l.tail, l.headD 0, 3) := by
  unfold locOn
  rw [hn, hl, hx, if_pos ⟨h1, h2⟩]
theorem locOn_next (hn : nodeOf r k = m) (hl : rowAt r m = l) (hx : ringAt r k = (x, t)) (h : ¬ (l ≠ [] ∧ (tick.tmod 61 = 0 ∨ (x = 0 ∧ t = [])))) (h1 : x ≠ 0) : locOn r k tick = (ringed r k (0, t), x, 1) := by
  unfold locOn
  rw [hn, hl, hx, if_neg h, if_pos h1]
theorem locOn_ring (hn : nodeOf r k = m) (hl : rowAt r m = l) (hx : ringAt r k = (x, t)) (h : ¬ (l ≠ [] ∧ (tick.tmod 61 = 0 ∨ (x = 0 ∧ t = [])))) (h1 : x = 0) (h2 : t ≠ []) : locOn r k tick = (ringed r k (0, t.tail), t.headD 0, 2) := by
  unfold locOn
  rw [hn, hl, hx, if_neg h, if_neg (by simp [h1]), if_pos h2]
theorem locOn_none (hn : nodeOf r k = m) (hl : rowAt r m = l) (hx : ringAt r k = (x, t)) (h : ¬ (l ≠ [] ∧ (tick.tmod 61 = 0 ∨ (x = 0 ∧ t = [])))) (h1 : x = 0) (h2 : t = []) : locOn r k tick = (r, 0, 0) := by
  unfold locOn
  rw [hn, hl, hx, if_neg h, if_neg (by simp [h1]), if_neg (by simp [h2])]
end
end Go.Proofs.YtdohnhdjlhaaaaaGreatDoor.Jp


/- Who is taken from others: in plain mathematics. -/
namespace Go.Proofs.YtdohnhdjlhaaaaaGreatDoor.Jp
set_option linter.unusedVariables false

/-- Whether somebody can be taken from there, as far as that. -/
def vict (r : Rn) (p far q : Int) : Bool := !(Rp.all (ringAt r q.toNat)).isEmpty && decide (Dp.far r.tree p q ≤ far)
open Classical in
noncomputable def victims (r : Rn) (p far : Int) : List Int := if May r then (Dp.near r.tree p).filter (vict r p far) else []
structure Thief (r : Rn) (p : Int) : Prop where
  may : May r
  on : onP r p = true
  ring : Rp.all (ringAt r p.toNat) = []
  row : rowAt r (nodeOf r p.toNat) = []
/-- The nodes behind one, going round. -/
def round (r : Rn) (n : Nat) : List Nat := (List.range (r.rows.length - 1)).map (fun j => (n + (j + 1)) % r.rows.length)
def firsts (r : Rn) (n : Nat) : Option Nat := (round r n).find? (fun m => !(rowAt r m).isEmpty)
noncomputable def stealOn (r : Rn) (k : Nat) (far : Int) : Rn × Int × Int :=
  match victims r k far with
  | q :: _ => (ringed (ringed r q.toNat (Rp.half (ringAt r q.toNat)).1) k (0, (Rp.half (ringAt r q.toNat)).2.tail), (Rp.half (ringAt r q.toNat)).2.headD 0, Dp.far r.tree k q)
  | [] => if far < 3 then (r, 0, -1) else
    match firsts r (nodeOf r k) with
    | some m => (rowed r m (rowAt r m).tail, (rowAt r m).headD 0, 3)
    | none => (r, 0, -1)
open Classical in
noncomputable def steal (r : Rn) (p far : Int) : Rn × Int × Int := if Thief r p then stealOn r p.toNat far else (r, 0, -1)
theorem steal_no {r : Rn} {p far : Int} (h : ¬ Thief r p) : steal r p far = (r, 0, -1) := by unfold steal; rw [if_neg h]
theorem steal_on {r : Rn} {k : Nat} {far : Int} (h : Thief r k) : steal r k far = stealOn r k far := by unfold steal; rw [if_pos h]; rfl
theorem thief_lt {r : Rn} {p : Int} (h : Thief r p) : ∃ k : Nat, p = k ∧ k < r.rings.length := onP_lt h.may h.on
theorem procs_of {r : Rn} (h : May r) : Dp.procsN r.tree = r.rings.length := by rw [Dp.procsN_tree ((Tp.tree_iff r.tree).1 h.tree), h.rings]
theorem victims_no {r : Rn} {p far : Int} (h : ¬ May r) : victims r p far = [] := by unfold victims; rw [if_neg h]
theorem victims_may {r : Rn} {p far : Int} (h : May r) : victims r p far = (Dp.near r.tree p).filter (vict r p far) := by unfold victims; rw [if_pos h]
theorem victims_out {r : Rn} {p far : Int} (h : p < 0 ∨ (r.rings.length : Int) ≤ p) : victims r p far = [] := by
  by_cases hm : May r
  · rw [victims_may hm, Dp.near_out (by rw [procs_of hm]; exact h)]
    rfl
  · exact victims_no hm
theorem mem_victims {r : Rn} {p far q : Int} (h : May r) (h0 : 0 ≤ p) (h1 : p < r.rings.length) : q ∈ victims r p far ↔ 0 ≤ q ∧ q < r.rings.length ∧ q ≠ p ∧ Rp.all (ringAt r q.toNat) ≠ [] ∧ Dp.far r.tree p q ≤ far := by
  have hp := procs_of h
  rw [victims_may h, List.mem_filter, Dp.mem_near h0 (by rw [hp]; exact h1), hp]
  unfold vict
  simp only [Bool.and_eq_true, Bool.not_eq_true', List.isEmpty_eq_false_iff, decide_eq_true_eq, and_assoc, ne_eq]
theorem victim_at {r : Rn} {p far q : Int} (hq : q ∈ victims r p far) : May r ∧ (∃ k : Nat, p = k ∧ k < r.rings.length) ∧ (∃ j : Nat, q = j ∧ j < r.rings.length) ∧ q ≠ p ∧ Rp.all (ringAt r q.toNat) ≠ [] ∧ Dp.far r.tree p q ≤ far ∧ 1 ≤ Dp.far r.tree p q := by
  have hm : May r := Classical.byContradiction (fun h => by rw [victims_no h] at hq; cases hq)
  have hr : ¬ (p < 0 ∨ (r.rings.length : Int) ≤ p) := fun h => by rw [victims_out h] at hq; cases hq
  have h0 : 0 ≤ p := by omega
  have h1 : p < r.rings.length := by omega
  obtain ⟨a, b, c, d, e⟩ := (mem_victims hm h0 h1).1 hq
  have hp := procs_of hm
  exact ⟨hm, ⟨p.toNat, by omega, by omega⟩, ⟨q.toNat, by omega, by omega⟩, c, d, e, Dp.far_ne_zero h0 (by rw [hp]; exact h1) a (by rw [hp]; exact b) c⟩
theorem filter_prefix {l : List Int} {f : Int → Int} {c : Int → Bool} {d e : Int} (hl : l.Pairwise (fun a b => f a ≤ f b)) (hd : d ≤ e) : (l.filter (fun q => c q && decide (f q ≤ d))) <+: (l.filter (fun q => c q && decide (f q ≤ e))) := by
  induction l with
  | nil => exact List.prefix_refl _
  | cons x l ih =>
    obtain ⟨h1, h2⟩ := List.pairwise_cons.1 hl
    cases hc : c x
    · rw [List.filter_cons_of_neg (by simp [hc]), List.filter_cons_of_neg (by simp [hc])]
      exact ih h2
    · by_cases hx : f x ≤ d
      · rw [List.filter_cons_of_pos (by simp [hc, hx]), List.filter_cons_of_pos (by simp [hc]; omega)]
        exact List.cons_prefix_cons.2 ⟨rfl, ih h2⟩
      · have : (x :: l).filter (fun q => c q && decide (f q ≤ d)) = [] := by
          rw [List.filter_eq_nil_iff]
          intro z hz
          rcases List.mem_cons.1 hz with rfl | hz
          · simp [hx]
          · have := h1 z hz
            simp only [Bool.and_eq_true, decide_eq_true_eq, not_and]
            intro _
            omega
        rw [this]
        exact List.nil_prefix
theorem victims_prefix {r : Rn} {p d e : Int} (hd : d ≤ e) : victims r p d <+: victims r p e := by
  by_cases hm : May r
  · by_cases hr : p < 0 ∨ (r.rings.length : Int) ≤ p
    · rw [victims_out hr, victims_out hr]
      exact List.prefix_refl _
    · have hp := procs_of hm
      have hpw := (Dp.nearTo_pair (vs := r.tree) (p := p) (by omega) (by rw [hp]; omega) 3).1
      rw [← Dp.near_in (by rw [hp]; omega)] at hpw
      rw [victims_may hm, victims_may hm]
      exact filter_prefix (c := fun q => !(Rp.all (ringAt r q.toNat)).isEmpty) (f := Dp.far r.tree p) (hpw.imp (fun h => h.2)) hd
  · rw [victims_no hm, victims_no hm]
    exact List.prefix_refl _
theorem victims_zero {r : Rn} {p : Int} : victims r p 0 = [] := by
  cases h : victims r p 0 with
  | nil => rfl
  | cons q l =>
    obtain ⟨_, _, _, _, _, h5, h6⟩ := victim_at (r := r) (p := p) (far := 0) (q := q) (by rw [h]; exact List.mem_cons_self ..)
    omega
theorem victims_le {r : Rn} {p far : Int} : (victims r p far).length ≤ 3 * r.rings.length := by
  by_cases hm : May r
  · rw [victims_may hm]
    refine Nat.le_trans (List.length_filter_le _ _) ?_
    by_cases hr : p < 0 ∨ (Dp.procsN r.tree : Int) ≤ p
    · rw [Dp.near_out hr]; simp
    · rw [Dp.near_in hr, ← procs_of hm]; exact Dp.nearTo_le _ _ 3
  · rw [victims_no hm]; simp
/-- What a steal ends with. -/
inductive Sto (r : Rn) (k : Nat) (far : Int) : Rn → Int → Int → Prop
  | ring (q : Nat) (x : Int × List Int) (g : Int) (t : List Int) (hx : r.rings[q]? = some x) (hq : q ≠ k) (hb : (Rp.half x).2 = g :: t) (h1 : 1 ≤ Dp.far r.tree k q) (hf : Dp.far r.tree k q ≤ far) (hv : ∃ l, victims r k far = (q : Int) :: l) : Sto r k far (ringed (ringed r q (Rp.half x).1) k (0, t)) g (Dp.far r.tree k q)
  | row (m : Nat) (g : Int) (t : List Int) (hl : r.rows[m]? = some (g :: t)) (hm : m ≠ nodeOf r k) (hf : 3 ≤ far) (hv : victims r k far = []) (hfi : firsts r (nodeOf r k) = some m) : Sto r k far (rowed r m t) g 3
  | none (hv : victims r k far = []) (hn : far < 3 ∨ firsts r (nodeOf r k) = Option.none) : Sto r k far r 0 (-1)
theorem half_told {x : Int × List Int} (h : Rp.all x ≠ []) : ∃ g t, (Rp.half x).2 = g :: t := by
  obtain ⟨a, l⟩ := x
  unfold Rp.half
  cases l with
  | nil =>
    rw [if_pos (show (a, ([] : List Int)).2.length = 0 from rfl)]
    simp only
    cases e : Rp.all (a, []) with
    | nil => exact absurd e h
    | cons g t => exact ⟨g, t, rfl⟩
  | cons y l =>
    rw [if_neg (show ¬ (a, y :: l).2.length = 0 by simp)]
    refine ⟨y, l.take (Rp.hf (y :: l) - 1), ?_⟩
    have : Rp.hf (y :: l) = Rp.hf (y :: l) - 1 + 1 := by unfold Rp.hf; simp only [List.length_cons]; omega
    simp only
    rw [this, List.take_succ_cons]
    rfl
theorem mem_round {r : Rn} {n m : Nat} (hn : n < r.rows.length) : m ∈ round r n ↔ m < r.rows.length ∧ m ≠ n := by
  unfold round
  simp only [List.mem_map, List.mem_range]
  constructor
  · rintro ⟨j, hj, rfl⟩
    refine ⟨Nat.mod_lt _ (by omega), ?_⟩
    by_cases h : n + (j + 1) < r.rows.length
    · rw [Nat.mod_eq_of_lt h]; omega
    · rw [Nat.mod_eq_sub_mod (by omega), Nat.mod_eq_of_lt (by omega)]; omega
  · rintro ⟨h1, h2⟩
    by_cases h : n < m
    · exact ⟨m - n - 1, by omega, by rw [show n + (m - n - 1 + 1) = m by omega]; exact Nat.mod_eq_of_lt h1⟩
    · exact ⟨r.rows.length + m - n - 1, by omega, by rw [show n + (r.rows.length + m - n - 1 + 1) = m + r.rows.length by omega, Nat.add_mod_right]; exact Nat.mod_eq_of_lt h1⟩
theorem firsts_some {r : Rn} {n m : Nat} (hn : n < r.rows.length) (h : firsts r n = some m) : ∃ g t, r.rows[m]? = some (g :: t) ∧ m ≠ n := by
  unfold firsts at h
  obtain ⟨h1, h2⟩ := (mem_round hn).1 (List.mem_of_find?_eq_some h)
  have h3 := List.find?_some h
  cases e : rowAt r m with
  | nil => rw [e] at h3; cases h3
  | cons g t =>
    refine ⟨g, t, ?_, h2⟩
    have h4 : r.rows[m]? = some r.rows[m] := List.getElem?_eq_getElem h1
    rw [rowAt_some h4] at e
    rw [h4, e]
theorem firsts_none {r : Rn} {n : Nat} (hn : n < r.rows.length) (h : firsts r n = none) {m : Nat} {l : List Int} (hl : r.rows[m]? = some l) (hm : m ≠ n) : l = [] := by
  unfold firsts at h
  rw [List.find?_eq_none] at h
  have h1 := h m ((mem_round hn).2 ⟨(List.getElem?_eq_some_iff.1 hl).1, hm⟩)
  rw [rowAt_some hl] at h1
  simpa using h1
theorem sto {r : Rn} {k : Nat} (h : Thief r k) (hk : k < r.rings.length) (far : Int) : Sto r k far (stealOn r k far).1 (stealOn r k far).2.1 (stealOn r k far).2.2 := by
  have hn := node_lt h.may hk
  cases e : victims r k far with
  | cons q l =>
    obtain ⟨hm, _, ⟨j, rfl, hj⟩, hne, ha, hf, h1⟩ := victim_at (r := r) (p := k) (far := far) (q := q) (by rw [e]; exact List.mem_cons_self ..)
    have hx : r.rings[j]? = some (ringAt r j) := by rw [ringAt_some (List.getElem?_eq_getElem hj)]; exact List.getElem?_eq_getElem hj
    obtain ⟨g, t, hb⟩ := half_told (x := ringAt r j) ha
    have he : stealOn r k far = (ringed (ringed r j (Rp.half (ringAt r j)).1) k (0, t), g, Dp.far r.tree k j) := by
      unfold stealOn
      rw [e]
      simp only
      rw [show ((j : Int).toNat) = j from rfl, hb]
      rfl
    rw [he]
    exact .ring j _ g t hx (by omega) hb h1 hf ⟨l, e⟩
  | nil =>
    unfold stealOn
    rw [e]
    simp only
    by_cases hf : far < 3
    · rw [if_pos hf]
      exact .none e (.inl hf)
    · rw [if_neg hf]
      cases e2 : firsts r (nodeOf r k) with
      | none => exact .none e (.inr e2)
      | some m =>
        obtain ⟨g, t, hl, hm⟩ := firsts_some hn e2
        simp only
        rw [rowAt_some hl]
        exact .row m g t hl hm (by omega) e e2
end Go.Proofs.YtdohnhdjlhaaaaaGreatDoor.Jp


/- Nothing is lost by stealing; what may be stays so; where who is told stood. -/
namespace Go.Proofs.YtdohnhdjlhaaaaaGreatDoor.Jp
set_option linter.unusedVariables false

variable {r r' : Rn} {k : Nat} {far g d : Int}
theorem ring_of (hk : k < r.rings.length) : ∃ x, r.rings[k]? = some x ∧ ringAt r k = x := ⟨_, List.getElem?_eq_getElem hk, ringAt_some (List.getElem?_eq_getElem hk)⟩
theorem half_mem {x : Int × List Int} {z : Int} (h : z ∈ (Rp.half x).2) : z ∈ Rp.all x := (Rp.perm_half x).mem_iff.1 (List.mem_append_right _ h)
theorem Sto.pos (h : Sto r k far r' g d) (hm : May r) : (g = 0 ∧ d = -1 ∧ r' = r ∧ victims r k far = [] ∧ (far < 3 ∨ firsts r (nodeOf r k) = Option.none)) ∨ (1 ≤ g ∧ 1 ≤ d ∧ d ≤ far) := by
  cases h with
  | ring q x g t hx hq hb h1 hf hv =>
    have : g ∈ Rp.all x := half_mem (by rw [hb]; exact List.mem_cons_self ..)
    exact .inr ⟨hm.once.1 g (mem_all.2 (.inl ⟨x, List.mem_of_getElem? hx, this⟩)), h1, hf⟩
  | row m g t hl hm' hf hv hfi => exact .inr ⟨hm.once.1 g (mem_all.2 (.inr ⟨_, List.mem_of_getElem? hl, List.mem_cons_self ..⟩)), by omega, hf⟩
  | none hv hn => exact .inl ⟨rfl, rfl, rfl, hv, hn⟩
theorem Sto.perm (h : Sto r k far r' g d) (ht : Thief r k) (hk : k < r.rings.length) (hg : g ≠ 0) : (g :: all r').Perm (all r) := by
  rw [List.perm_iff_count]
  intro z
  cases h with
  | ring q x g t hx hq hb h1 hf hv =>
    obtain ⟨y, hy, hy2⟩ := ring_of hk
    have ha : Rp.all y = [] := by have := ht.ring; rw [show ((k : Int).toNat) = k from rfl, hy2] at this; exact this
    have c1 := count_ringed (y := (Rp.half x).1) hx z
    have hk2 : (ringed r q (Rp.half x).1).rings[k]? = some y := by
      show (r.rings.set q (Rp.half x).1)[k]? = _
      rw [List.getElem?_set_ne hq]
      exact hy
    have c2 := count_ringed (y := (0, t)) hk2 z
    have c3 := (List.perm_iff_count.1 (Rp.perm_half x)) z
    rw [hb, List.count_append] at c3
    rw [ha, all_zero'] at c2
    simp only [List.count_cons, List.count_nil] at c2 c3 ⊢
    omega
  | row m g t hl hm' hf hv hfi =>
    have c1 := count_rowed (t := t) hl z
    simp only [List.count_cons] at c1 ⊢
    omega
  | none hv hn => exact absurd rfl hg
theorem Sto.tree (h : Sto r k far r' g d) : r'.tree = r.tree ∧ r'.size = r.size ∧ r'.on = r.on ∧ r'.rings.length = r.rings.length ∧ r'.rows.length = r.rows.length := by
  cases h with
  | ring q x g t hx hq hb h1 hf hv => exact ⟨rfl, rfl, rfl, by simp [ringed], rfl⟩
  | row m g t hl hm' hf hv hfi => exact ⟨rfl, rfl, rfl, rfl, by simp [rowed]⟩
  | none hv hn => exact ⟨rfl, rfl, rfl, rfl, rfl⟩
theorem Sto.may (h : Sto r k far r' g d) (ht : Thief r k) (hk : k < r.rings.length) : May r' := by
  have hm := ht.may
  rcases h.pos hm with ⟨_, _, e, _⟩ | ⟨h1, _⟩
  · rw [e]; exact hm
  have honce := once_tail hm.once (h.perm ht hk (by omega))
  obtain ⟨e1, e2, e3, e4, e5⟩ := h.tree
  refine ⟨by rw [e1]; exact hm.tree, by rw [e2]; exact hm.low, by rw [e2]; exact hm.high, by rw [e4, e1]; exact hm.rings, by rw [e5, e1]; exact hm.rows, by rw [e3]; exact hm.some, by rw [e3, e4]; exact hm.few, fun p y hy => ?_, honce⟩
  have hon : ∀ q, onP r' q = onP r q := fun q => by unfold onP; rw [e3]
  rw [e2, hon]
  have hyo := ring_once honce (List.mem_of_getElem? hy)
  cases h with
  | ring q x g t hx hq hb h1 hf hv =>
    have hs := may_size hm.low (hm.ring q x hx).1
    obtain ⟨l1, l2, l3⟩ := Rp.half_len x
    rw [hb, List.length_cons] at l2
    have hqon : onP r q = true := by
      rcases (hm.ring q x hx).2 with h' | h'
      · have := half_mem (x := x) (z := g) (by rw [hb]; exact List.mem_cons_self ..)
        rw [h'] at this
        cases this
      · exact h'
    have hy' : ((r.rings.set q (Rp.half x).1).set k (0, t))[p]? = some y := hy
    by_cases hp : k = p
    · subst hp
      rw [List.getElem?_set_self (by simpa using hk)] at hy'
      injection hy' with hy'
      subst hy'
      exact ⟨may_of hm.low (by simp only; omega) hyo, .inr ht.on⟩
    · rw [List.getElem?_set_ne hp] at hy'
      by_cases hq' : q = p
      · subst hq'
        rw [List.getElem?_set_self (List.getElem?_eq_some_iff.1 hx).1] at hy'
        injection hy' with hy'
        subst hy'
        exact ⟨may_of hm.low (by omega) hyo, .inr hqon⟩
      · rw [List.getElem?_set_ne hq'] at hy'
        exact hm.ring p y hy'
  | row m g t hl hm' hf hv hfi => exact hm.ring p y hy
  | none hv hn => exact hm.ring p y hy
/-- Where who is told stood. -/
theorem Sto.stood (h : Sto r k far r' g d) (hm : May r) (hg : g ≠ 0) : (∃ q : Nat, whr r g = ((q : Int), -1) ∧ d = Dp.far r.tree k q) ∨ (3 ≤ far ∧ d = 3 ∧ ∃ m : Nat, whr r g = (-1, (m : Int))) := by
  cases h with
  | ring q x g t hx hq hb h1 hf hv =>
    have hin : g ∈ Rp.all x := half_mem (by rw [hb]; exact List.mem_cons_self ..)
    exact .inl ⟨q, whr_ring hx (has_iff.2 hin) (fun j hj y hy => has_no.2 (fun h' => by have := once_ring hm.once hx hy hin h'; omega)), rfl⟩
  | row m g t hl hm' hf hv hfi =>
    refine .inr ⟨hf, rfl, m, whr_row ?_ hl (has_iff.2 (List.mem_cons_self ..)) ?_⟩
    · intro y hy
      obtain ⟨q, hq⟩ := List.mem_iff_getElem?.1 hy
      exact has_no.2 (fun h' => once_both hm.once hq hl h' (List.mem_cons_self ..))
    · intro j hj y hy
      exact has_no.2 (fun h' => by have := once_row hm.once hl hy (List.mem_cons_self ..) h'; omega)
  | none hv hn => exact absurd rfl hg
/-- As far as all: somebody is told, just if somebody stands anywhere. -/
theorem Sto.all_some (h : Sto r k far r' g d) (ht : Thief r k) (hk : k < r.rings.length) (h3 : 3 ≤ far) : g ≠ 0 ↔ all r ≠ [] := by
  have hm := ht.may
  constructor
  · intro hg e
    have := (h.perm ht hk hg).length_eq
    rw [e] at this
    simp at this
  · intro hne hg
    rcases h.pos hm with ⟨_, _, _, hv, hn⟩ | ⟨h1, _⟩
    · apply hne
      have hfi : firsts r (nodeOf r k) = Option.none := hn.resolve_left (by omega)
      rw [List.eq_nil_iff_forall_not_mem]
      intro z hz
      rcases mem_all.1 hz with ⟨x, hx, hzx⟩ | ⟨l, hl, hzl⟩
      · obtain ⟨q, hq⟩ := List.mem_iff_getElem?.1 hx
        have hql := (List.getElem?_eq_some_iff.1 hq).1
        by_cases e : q = k
        · subst e
          have := ht.ring
          rw [show ((q : Int).toNat) = q from rfl, ringAt_some hq] at this
          rw [this] at hzx
          cases hzx
        · have hin := (mem_victims (r := r) (p := k) (far := far) (q := q) hm (by omega) (by omega)).2 ⟨by omega, by omega, by omega, (by rw [show ((q : Int).toNat) = q from rfl, ringAt_some hq]; intro e; rw [e] at hzx; cases hzx), by have := (Dp.far_bounds r.tree k q).2; omega⟩
          rw [hv] at hin
          cases hin
      · obtain ⟨m, hm'⟩ := List.mem_iff_getElem?.1 hl
        by_cases e : m = nodeOf r k
        · have := ht.row
          rw [show ((k : Int).toNat) = k from rfl, ← e, rowAt_some hm'] at this
          rw [this] at hzl
          cases hzl
        · have := firsts_none (node_lt hm hk) hfi hm' e
          rw [this] at hzl
          cases hzl
    · omega
/-- Nearer: the same one, or nobody. -/
theorem near_same (ht : Thief r k) (hk : k < r.rings.length) {e : Int} (he : e < 3) (h : (stealOn r k e).2.1 ≠ 0) : (stealOn r k e).2.1 = (stealOn r k 3).2.1 ∧ (stealOn r k e).2.2 = (stealOn r k 3).2.2 := by
  have hp := victims_prefix (r := r) (p := k) (d := e) (e := 3) (by omega)
  cases ev : victims r k e with
  | nil =>
    exfalso
    apply h
    unfold stealOn
    rw [ev]
    simp only
    rw [if_pos he]
  | cons q l =>
    rw [ev] at hp
    obtain ⟨t, ht'⟩ := hp
    unfold stealOn
    rw [ev, ← ht']
    exact ⟨rfl, rfl⟩
theorem near_no (ht : Thief r k) (hk : k < r.rings.length) {e : Int} (he : e < 3) (h : (stealOn r k e).2.1 = 0) : (stealOn r k 3).2.1 = 0 ∨ e < (stealOn r k 3).2.2 := by
  have hm := ht.may
  have hs := sto ht hk e
  have hv : victims r k e = [] := by
    rcases hs.pos hm with ⟨_, _, _, hv, _⟩ | ⟨h1, _⟩
    · exact hv
    · omega
  have hs3 := sto ht hk 3
  generalize (stealOn r k 3).1 = a at hs3
  generalize (stealOn r k 3).2.1 = g3 at hs3 ⊢
  generalize (stealOn r k 3).2.2 = d3 at hs3 ⊢
  cases hs3 with
  | ring q x g t hx hq hb h1 hf hv3 =>
    right
    refine Int.not_le.1 (fun hle => ?_)
    obtain ⟨l, hl⟩ := hv3
    obtain ⟨_, _, _, hne, ha, _, _⟩ := victim_at (r := r) (p := k) (far := 3) (q := q) (by rw [hl]; exact List.mem_cons_self ..)
    have hin := (mem_victims (r := r) (p := k) (far := e) (q := q) hm (by omega) (by omega)).2 ⟨by omega, by have := (List.getElem?_eq_some_iff.1 hx).1; omega, hne, ha, hle⟩
    rw [hv] at hin
    cases hin
  | row m g t hl hm' hf hv hfi => right; omega
  | none hv hn => left; rfl
/-- Of the first victim. -/
theorem steal_first (ht : Thief r k) (hk : k < r.rings.length) {q : Int} {l : List Int} (hv : victims r k far = q :: l) : ∃ (j : Nat) (x : Int × List Int) (g : Int) (t : List Int), q = j ∧ j < r.rings.length ∧ j ≠ k ∧ r.rings[j]? = some x ∧ (Rp.half x).2 = g :: t ∧ stealOn r k far = (ringed (ringed r j (Rp.half x).1) k (0, t), g, Dp.far r.tree k j) := by
  obtain ⟨hm, _, ⟨j, rfl, hj⟩, hne, ha, hf, h1⟩ := victim_at (r := r) (p := k) (far := far) (q := q) (by rw [hv]; exact List.mem_cons_self ..)
  obtain ⟨x, hx, hx2⟩ := ring_of hj
  rw [show ((j : Int).toNat) = j from rfl, hx2] at ha
  obtain ⟨g, t, hb⟩ := half_told ha
  refine ⟨j, x, g, t, rfl, hj, by omega, hx, hb, ?_⟩
  unfold stealOn
  rw [hv]
  simp only
  rw [show ((j : Int).toNat) = j from rfl, hx2, hb]
  rfl
end Go.Proofs.YtdohnhdjlhaaaaaGreatDoor.Jp


/- Who is a thief, as find.Local tells; what turns nothing. -/
namespace Go.Proofs.YtdohnhdjlhaaaaaGreatDoor.Jp
set_option linter.unusedVariables false

theorem thief_loc {r : Rn} {p : Int} (hm : May r) (ho : onP r p = true) : Thief r p ↔ (loc r p 0).2.2 = 0 := by
  obtain ⟨k, rfl, hk⟩ := onP_lt hm ho
  rw [loc_on hm ho]
  have hw := way hm hk 0
  constructor
  · intro h
    have h1 := h.ring
    have h2 := h.row
    rw [show ((k : Int).toNat) = k from rfl] at h1 h2
    generalize (locOn r k 0).1 = a at hw
    generalize (locOn r k 0).2.1 = b at hw
    generalize (locOn r k 0).2.2 = c at hw ⊢
    cases hw with
    | row g t hl hc => rw [rowAt_some hl] at h2; cases h2
    | next g t hx hg hc => rw [ringAt_some hx, all_next hg] at h1; cases h1
    | ring g t hx hc => rw [ringAt_some hx, all_zero'] at h1; cases h1
    | none hx hl => rfl
  · intro h
    rcases hw.pos hm with ⟨_, _, _, hx, hl⟩ | ⟨_, h1⟩
    · exact ⟨hm, ho, by rw [show ((k : Int).toNat) = k from rfl, ringAt_some hx]; rfl, by rw [show ((k : Int).toNat) = k from rfl, rowAt_some hl]⟩
    · exact absurd h h1
theorem rowed_same {r : Rn} {m : Nat} {l : List Int} (h : r.rows[m]? = some l) : rowed r m l = r := by
  obtain ⟨h1, h2⟩ := List.getElem?_eq_some_iff.1 h
  unfold rowed
  rw [← h2, List.set_getElem_self]
/-- The half of a ring that may be has room in another one. -/
theorem half_short {r : Rn} (hm : May r) {q : Nat} {x : Int × List Int} (hx : r.rings[q]? = some x) : ((Rp.half x).2.length : Int) < 1 + r.size := by
  have h1 := may_size hm.low (hm.ring q x hx).1
  have h3 := hm.low
  unfold Rp.half
  by_cases h : x.2.length = 0
  · rw [if_pos h]
    have := Rp.all_length x
    simp only
    omega
  · rw [if_neg h]
    simp only [List.length_take]
    omega
theorem firsts_at {r : Rn} {n i m : Nat} (h1 : 1 ≤ i) (hi : i < r.rows.length) (hm : m = (n + i) % r.rows.length) (hb : ∀ j, 1 ≤ j → j < i → rowAt r ((n + j) % r.rows.length) = []) (hne : rowAt r m ≠ []) : firsts r n = some m := by
  subst hm
  unfold firsts round
  rw [List.find?_map]
  have : (List.range (r.rows.length - 1)).find? ((fun m => !(rowAt r m).isEmpty) ∘ fun j => (n + (j + 1)) % r.rows.length) = some (i - 1) := by
    rw [List.find?_range_eq_some]
    refine ⟨?_, List.mem_range.2 (by omega), fun j hj => ?_⟩
    · show (!(rowAt r ((n + (i - 1 + 1)) % r.rows.length)).isEmpty) = true
      rw [show i - 1 + 1 = i by omega, Bool.not_eq_true', List.isEmpty_eq_false_iff]
      exact hne
    · show (!(!(rowAt r ((n + (j + 1)) % r.rows.length)).isEmpty)) = true
      rw [hb (j + 1) (by omega) (by omega)]
      rfl
  rw [this]
  show some ((n + (i - 1 + 1)) % r.rows.length) = _
  rw [show i - 1 + 1 = i by omega]
theorem firsts_no {r : Rn} {n : Nat} (hb : ∀ j, 1 ≤ j → j < r.rows.length → rowAt r ((n + j) % r.rows.length) = []) : firsts r n = none := by
  unfold firsts round
  rw [List.find?_eq_none]
  intro m hm
  obtain ⟨j, hj, rfl⟩ := List.mem_map.1 hm
  rw [hb (j + 1) (by omega) (by have := List.mem_range.1 hj; omega)]
  decide
end Go.Proofs.YtdohnhdjlhaaaaaGreatDoor.Jp


/- What a call leaves that tells Runs and two numbers. -/
namespace Go.Proofs.YtdohnhdjlhaaaaaGreatDoor
open Go.RowKit
set_option linter.unusedVariables false

theorem RM.rowAt2 {F : Nat → Prop} {w : World} {d : Ad} {r : Jp.Rn} (h : RM F w d r) {i : Nat} {x : List Int} (hx : r.rows[i]? = some x) :
    ∃ b off A n c, d.S = some ⟨b, off, none⟩ ∧ b < w.heap.size ∧ w.cell? ⟨b, off + i, none⟩ = some (.slice A n c) ∧ Row w A n c x ∧ (x ≠ [] → ∀ ad, A = some ad → F ad.block) := by
  obtain ⟨gs, h1, h2, h3⟩ := h.rows
  rw [h2, List.getElem?_map] at hx
  cases he : gs[i]? with
  | none => rw [he] at hx; cases hx
  | some e =>
    rw [he] at hx
    injection hx with hx
    subst hx
    obtain ⟨b, off, e1, hb, hc⟩ := h1.cell i e he
    exact ⟨b, off, e.A, e.n, e.c, e1, hb, by have := hc 0 _ rfl; rw [Nat.mul_one] at this; exact this, h1.rows e (List.mem_of_getElem? he), h3.2 e (List.mem_of_getElem? he)⟩
/-- What a call leaves that tells Runs and two numbers. -/
def TellJG (F : Nat → Prop) (w0 : World) (p : Jp.Rn × Int × Int) (e : Ending) (w' : World) : Prop := ∃ d, e = .returned (.tuple #[jv d p.1, .int .i64 p.2.1, .int .i64 p.2.2]) ∧ RM (More F w0) w' d p.1 ∧ Below w0.heap.size w0 w'
theorem TellJG.is {F : Nat → Prop} {w0 w' : World} {d : Ad} {r : Jp.Rn} {g k : Int} {p : Jp.Rn × Int × Int} (hp : p = (r, g, k)) (h : RM (More F w0) w' d r) (hb : Below w0.heap.size w0 w') : TellJG F w0 p (.returned (.tuple #[jv d r, .int .i64 g, .int .i64 k])) w' := by
  subst hp
  exact ⟨d, rfl, h, hb⟩
theorem far5 {w : World} {b i X : Nat} {u0 u1 u2 u3 u4 v : Value} (hne : b ≠ X) (h : w.cell? ⟨b, i, none⟩ = some v) : (((((w.setCell ⟨X, 0, none⟩ u0).setCell ⟨X, 1, none⟩ u1).setCell ⟨X, 2, none⟩ u2).setCell ⟨X, 3, none⟩ u3).setCell ⟨X, 4, none⟩ u4).cell? ⟨b, i, none⟩ = some v :=
  farcell hne (farcell hne (farcell hne (farcell hne (farcell hne h))))
end Go.Proofs.YtdohnhdjlhaaaaaGreatDoor


/- Where Local ends, and what stays short. -/
namespace Go.Proofs.YtdohnhdjlhaaaaaGreatDoor
open Go.RowKit
set_option linter.unusedVariables false

theorem Jp.loc_cases (r : Jp.Rn) (p tick : Int) : (Jp.loc r p tick = (r, 0, 0) ∧ (¬ Jp.May r ∨ Jp.onP r p = false)) ∨ ∃ k : Nat, p = (k : Int) ∧ Jp.May r ∧ Jp.onP r k = true ∧ k < r.rings.length ∧ Jp.Way r k tick (Jp.loc r p tick).1 (Jp.loc r p tick).2.1 (Jp.loc r p tick).2.2 := by
  by_cases hm : Jp.May r
  · cases ho : Jp.onP r p with
    | false => exact .inl ⟨Jp.loc_no (.inr ho), .inr rfl⟩
    | true =>
      obtain ⟨k, rfl, hk⟩ := Jp.onP_lt hm ho
      refine .inr ⟨k, rfl, hm, ho, hk, ?_⟩
      rw [Jp.loc_on hm ho]
      exact Jp.way hm hk tick
  · exact .inl ⟨Jp.loc_no (.inl hm), .inl hm⟩
theorem Jp.Way.fit {r r' : Jp.Rn} {p : Nat} {tick g k : Int} (h : Jp.Way r p tick r' g k) (z : Int) (hz : z ∈ Jp.all r') : z ∈ Jp.all r := by
  have h0 := List.count_pos_iff.2 hz
  refine List.count_pos_iff.1 ?_
  cases h with
  | row g t hl hc =>
    have := Jp.count_rowed (t := t) hl z
    simp only [List.count_cons] at this
    omega
  | next g t hx hg' hc =>
    have := Jp.count_ringed (y := (0, t)) hx z
    rw [Jp.all_next hg', Jp.all_zero'] at this
    simp only [List.count_cons] at this
    omega
  | ring g t hx hc =>
    have := Jp.count_ringed (y := (0, t)) hx z
    rw [Jp.all_zero', Jp.all_zero'] at this
    simp only [List.count_cons] at this
    omega
  | none => exact h0
theorem Jp.Way.low {r r' : Jp.Rn} {p : Nat} {tick g k : Int} (h : Jp.Way r p tick r' g k) (hl : Low r) : Low r' := by
  obtain ⟨e1, e2, e3, e4, e5⟩ := h.tree
  refine ⟨by rw [e4]; exact hl.rings, by rw [e5]; exact hl.rows, ?_, ?_, by rw [e1]; exact hl.tree, fun z hz => hl.fit z (h.fit z hz)⟩
  · cases h with
    | row g t hx hc => exact hl.ring
    | next g t hx hg' hc =>
      intro y hy
      rcases List.mem_or_eq_of_mem_set hy with hy | rfl
      · exact hl.ring y hy
      · exact (show t.length ≤ 400 from hl.ring (g, t) (List.mem_of_getElem? hx))
    | ring g t hx hc =>
      intro y hy
      rcases List.mem_or_eq_of_mem_set hy with hy | rfl
      · exact hl.ring y hy
      · have := hl.ring _ (List.mem_of_getElem? hx)
        simp only [List.length_cons] at this ⊢
        omega
    | none => exact hl.ring
  · cases h with
    | row g t hx hc =>
      intro y hy
      rcases List.mem_or_eq_of_mem_set hy with hy | rfl
      · exact hl.row y hy
      · have := hl.row _ (List.mem_of_getElem? hx)
        simp only [List.length_cons] at this
        omega
    | next g t hx hg' hc => exact hl.row
    | ring g t hx hc => exact hl.row
    | none => exact hl.row
theorem low_loc {r : Jp.Rn} (h : Low r) (p tick : Int) : Low (Jp.loc r p tick).1 := by
  rcases Jp.loc_cases r p tick with ⟨e, _⟩ | ⟨k, rfl, _, _, _, hw⟩
  · rw [e]; exact h
  · exact hw.low h
end Go.Proofs.YtdohnhdjlhaaaaaGreatDoor


/- Where Steal ends, and what stays short. -/
namespace Go.Proofs.YtdohnhdjlhaaaaaGreatDoor
open Go.RowKit
set_option linter.unusedVariables false

theorem Jp.steal_cases (r : Jp.Rn) (p far : Int) : (Jp.steal r p far = (r, 0, -1) ∧ ¬ Jp.Thief r p) ∨ ∃ k : Nat, p = (k : Int) ∧ Jp.Thief r k ∧ k < r.rings.length ∧ Jp.Sto r k far (Jp.steal r p far).1 (Jp.steal r p far).2.1 (Jp.steal r p far).2.2 := by
  by_cases h : Jp.Thief r p
  · obtain ⟨k, rfl, hk⟩ := Jp.thief_lt h
    refine .inr ⟨k, rfl, h, hk, ?_⟩
    rw [Jp.steal_on h]
    exact Jp.sto h hk far
  · exact .inl ⟨Jp.steal_no h, h⟩
theorem Jp.Sto.low {r r' : Jp.Rn} {k : Nat} {far g d : Int} (h : Jp.Sto r k far r' g d) (ht : Jp.Thief r k) (hk : k < r.rings.length) (hl : Low r) : Low r' := by
  have hfit : InA r' := fun z hz => by
    by_cases hg : g = 0
    · rcases h.pos ht.may with ⟨_, _, e, _⟩ | ⟨h1, _⟩
      · rw [e] at hz; exact hl.fit z hz
      · omega
    · exact hl.fit z ((h.perm ht hk hg).mem_iff.1 (List.mem_cons_of_mem _ hz))
  obtain ⟨e1, e2, e3, e4, e5⟩ := h.tree
  refine ⟨by rw [e4]; exact hl.rings, by rw [e5]; exact hl.rows, ?_, ?_, by rw [e1]; exact hl.tree, hfit⟩
  · cases h with
    | ring q x g t hx hq hb h1 hf hv =>
      have h2 := Rp.half_len x
      rw [hb, List.length_cons] at h2
      have h3 := hl.ring x (List.mem_of_getElem? hx)
      intro y hy
      rcases List.mem_or_eq_of_mem_set hy with hy | rfl
      · rcases List.mem_or_eq_of_mem_set hy with hy | rfl
        · exact hl.ring y hy
        · omega
      · show t.length ≤ 400
        omega
    | row m g t hl' hm' hf hv hfi => exact hl.ring
    | none hv hn => exact hl.ring
  · cases h with
    | ring q x g t hx hq hb h1 hf hv => exact hl.row
    | row m g t hl' hm' hf hv hfi =>
      intro y hy
      rcases List.mem_or_eq_of_mem_set hy with hy | rfl
      · exact hl.row y hy
      · have := hl.row _ (List.mem_of_getElem? hl')
        simp only [List.length_cons] at this
        omega
    | none hv hn => exact hl.row
theorem low_steal {r : Jp.Rn} (h : Low r) (p far : Int) : Low (Jp.steal r p far).1 := by
  rcases Jp.steal_cases r p far with ⟨e, _⟩ | ⟨k, rfl, ht, hk, hs⟩
  · rw [e]; exact h
  · exact hs.low ht hk h
end Go.Proofs.YtdohnhdjlhaaaaaGreatDoor


/- bits.Of by its contract: the bits of all numbers that can be members. -/
namespace Go.Proofs.YtdohnhdjlhaaaaaGreatDoor
open Go.RowKit
set_option linter.unusedVariables false

theorem wrap_pow (m : Nat) (h : m < 64) : IntKind.u64.wrap ((2 : Int) ^ m) = ((2 ^ m : Nat) : Int) := by
  have h1 : 2 ^ m < 18446744073709551616 := by have := Nat.pow_lt_pow_right (a := 2) (by decide) h; omega
  rw [IntKind.wrap_u64, show (2 : Int) ^ m = ((2 ^ m : Nat) : Int) by rw [Int.natCast_pow]; rfl, Int.emod_eq_of_lt (Int.natCast_nonneg _) (by generalize 2 ^ m = q at h1; omega)]
theorem or_one (s m : Nat) (hs : s < 18446744073709551616) (h : m < 64) : bits .or .u64 (s : Int) (IntKind.u64.wrap ((2 : Int) ^ m)) = ((s ||| Zp.one (m : Int) : Nat) : Int) := by
  have h1 : 2 ^ m < 18446744073709551616 := by have := Nat.pow_lt_pow_right (a := 2) (by decide) h; omega
  rw [wrap_pow m h, bits_or_u64_nat _ _ hs h1, show Zp.one (m : Int) = 2 ^ m by unfold Zp.one; rw [if_pos (by omega), Int.toNat_natCast]]
theorem of_any (A : Option Addr) (n c : Nat) (zs : List Int) (w : World) (h : Row w A n c zs) :
    Calls Tryz.prog 91 #[.slice A n c] w fun e w' => e = .returned (.int .u64 (Zp.ofL zs : Nat)) ∧ w' = w := by
  have h1 := h.cap
  have h2 := h.most
  have H := Lib.hid h
  clear h
  go_enter Tryz.func91, Tryz.ntmps91
  go_wp2
  go_loop [3, 8] (fun s i => ∃ k : Nat, k ≤ n ∧ i = .int .i64 k ∧ s = .int .u64 (Zp.ofL (zs.take k) : Nat))
    (fun _ i => n - (intOf i).toNat)
  case atStart => exact ⟨0, Nat.zero_le _, rfl, rfl⟩
  case round =>
    obtain ⟨k, hk, rfl, rfl⟩ := hrel
    by_cases hlt : k < n
    · obtain ⟨x, hx⟩ : ∃ x, zs[k]? = some x := ⟨_, List.getElem?_eq_getElem (by have := H.out.len; omega)⟩
      obtain ⟨b, off, hA, hbk, hc⟩ := H.out.row k x hx
      subst hA
      have hs : zs.take (k + 1) = zs.take k ++ [x] := by rw [List.take_add_one, hx]; rfl
      have HS := Lib.hid (show Zp.ofL (zs.take (k + 1)) = Zp.ofL (zs.take k) ||| Zp.one x by rw [hs, Zp.ofL_snoc])
      have hlt64 := Zp.ofL_lt (zs.take k)
      generalize Zp.ofL (zs.take k) = s at HS hlt64
      clear hx hs
      by_cases hx0 : 0 ≤ x
      · by_cases hx1 : x < 64
        · obtain ⟨m, rfl⟩ := Int.eq_ofNat_of_zero_le hx0
          have hm : m < 64 := by omega
          go_wp2
          go_round
          case rel =>
            refine ⟨k + 1, by omega, by go_num, ?_⟩
            rw [HS.out, or_one s m hlt64 hm]
          case measure => simp [intOf]; omega
        · go_wp2
          go_round
          case rel => exact ⟨k + 1, by omega, by go_num, by rw [HS.out, show Zp.one x = 0 from if_neg (by omega), Nat.or_zero]⟩
          case measure => simp [intOf]; omega
      · go_wp2
        go_round
        case rel => exact ⟨k + 1, by omega, by go_num, by rw [HS.out, show Zp.one x = 0 from if_neg (by omega), Nat.or_zero]⟩
        case measure => simp [intOf]; omega
    · go_wp2
      go_ret
      have e := H.out.len
      rw [List.take_of_length_le (by omega)]
      exact ⟨rfl, rfl⟩
end Go.Proofs.YtdohnhdjlhaaaaaGreatDoor

