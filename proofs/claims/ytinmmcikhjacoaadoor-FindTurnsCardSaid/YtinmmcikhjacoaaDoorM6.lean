/- Contracts and plain mathematics, put together by program (wip/merge.py) out of: YPlain YTell YWay YAll YOther YSome YTurn ZOf ZOnes ZSet ZTz ZCnt. -/
import Derived.Test.YtinmmcikhjacoaaDoorM5
import Derived.Test.YtinmmcikhjacoaaDoorM4
import Derived.Test.YtinmmcikhjacoaaDoorM0
import Derived.Test.YtinmmcikhjacoaaDoorM3
import Derived.Laws.Bits128
/- Who runs next on a processor, of its own: in plain mathematics. -/
namespace Go.Proofs.YtinmmcikhjacoaaDoor.Jp
set_option linter.unusedVariables false

/-- Of a processor that is plugged, of Runs that may be. -/
def locOn (r : Rn) (p : Nat) (tick : Int) : Rn × Int × Int :=
  if rowAt r (nodeOf r p) ≠ [] ∧ (tick.tmod 61 = 0 ∨ ((ringAt r p).1 = 0 ∧ (ringAt r p).2 = [])) then (rowed r (nodeOf r p) (rowAt r (nodeOf r p)).tail, (rowAt r (nodeOf r p)).headD 0, 3)
  else if (ringAt r p).1 ≠ 0 then (ringed r p (0, (ringAt r p).2), (ringAt r p).1, 1)
  else if (ringAt r p).2 ≠ [] then (ringed r p (0, (ringAt r p).2.tail), (ringAt r p).2.headD 0, 2)
  else (r, 0, 0)
open Classical in
noncomputable def loc (r : Rn) (p tick : Int) : Rn × Int × Int := if ¬ May r ∨ onP r p = false then (r, 0, 0) else locOn r p.toNat tick
theorem loc_no {r : Rn} {p tick : Int} (h : ¬ May r ∨ onP r p = false) : loc r p tick = (r, 0, 0) := by unfold loc; rw [if_pos h]
theorem loc_on {r : Rn} {p : Nat} {tick : Int} (h : May r) (ho : onP r p = true) : loc r p tick = locOn r p tick := by
  unfold loc
  rw [if_neg (by rw [ho]; simp [h])]
  rfl
theorem onP_lt {r : Rn} (h : May r) {p : Int} (ho : onP r p = true) : ∃ k : Nat, p = k ∧ k < r.rings.length := by
  have hm := has_iff.1 ho
  have h1 := Zp.mem_in hm
  have h2 := h.few p hm
  exact ⟨p.toNat, by omega, by omega⟩
/-- How a processor finds. -/
inductive Way (r : Rn) (p : Nat) (tick : Int) : Rn → Int → Int → Prop
  | row (g : Int) (t : List Int) (hl : r.rows[nodeOf r p]? = some (g :: t)) (hc : tick.tmod 61 = 0 ∨ ringAt r p = (0, [])) : Way r p tick (rowed r (nodeOf r p) t) g 3
  | next (g : Int) (t : List Int) (hx : r.rings[p]? = some (g, t)) (hg : g ≠ 0) (hc : rowAt r (nodeOf r p) = [] ∨ tick.tmod 61 ≠ 0) : Way r p tick (ringed r p (0, t)) g 1
  | ring (g : Int) (t : List Int) (hx : r.rings[p]? = some (0, g :: t)) (hc : rowAt r (nodeOf r p) = [] ∨ tick.tmod 61 ≠ 0) : Way r p tick (ringed r p (0, t)) g 2
  | none (hx : r.rings[p]? = some (0, [])) (hl : r.rows[nodeOf r p]? = some []) : Way r p tick r 0 0
theorem way {r : Rn} (h : May r) {p : Nat} (hp : p < r.rings.length) (tick : Int) : Way r p tick (locOn r p tick).1 (locOn r p tick).2.1 (locOn r p tick).2.2 := by
  obtain ⟨⟨x, l⟩, hx⟩ : ∃ x, r.rings[p]? = some x := ⟨_, List.getElem?_eq_getElem hp⟩
  obtain ⟨row, hl⟩ : ∃ l, r.rows[nodeOf r p]? = some l := ⟨_, List.getElem?_eq_getElem (node_lt h hp)⟩
  have ex := ringAt_some hx
  have el := rowAt_some hl
  unfold locOn
  by_cases h1 : rowAt r (nodeOf r p) ≠ [] ∧ (tick.tmod 61 = 0 ∨ ((ringAt r p).1 = 0 ∧ (ringAt r p).2 = []))
  · rw [if_pos h1]
    obtain ⟨g, t, e⟩ := List.exists_cons_of_ne_nil h1.1
    rw [e]
    refine .row g t (by rw [hl, ← e, el]) ?_
    rcases h1.2 with h2 | h2
    · exact .inl h2
    · exact .inr (Prod.ext h2.1 h2.2)
  · rw [if_neg h1]
    have hc : (ringAt r p ≠ (0, [])) → rowAt r (nodeOf r p) = [] ∨ tick.tmod 61 ≠ 0 := fun hne => by
      by_cases h2 : rowAt r (nodeOf r p) = []
      · exact .inl h2
      · exact .inr (fun h3 => h1 ⟨h2, .inl h3⟩)
    by_cases h2 : (ringAt r p).1 ≠ 0
    · rw [if_pos h2]
      have e : ringAt r p = ((ringAt r p).1, (ringAt r p).2) := rfl
      exact .next _ _ (by rw [hx, ← ex]) h2 (hc (fun h3 => h2 (by rw [h3])))
    · rw [if_neg h2]
      have h2 := Classical.not_not.1 h2
      by_cases h3 : (ringAt r p).2 ≠ []
      · rw [if_pos h3]
        obtain ⟨g, t, e⟩ := List.exists_cons_of_ne_nil h3
        rw [e]
        refine .ring g t ?_ (hc (fun h4 => h3 (by rw [h4])))
        rw [hx, ← ex, ← e, ← h2]
      · rw [if_neg h3]
        have h3 := Classical.not_not.1 h3
        refine .none ?_ ?_
        · rw [hx, ← ex, ← h2, ← h3]
        · by_cases h4 : rowAt r (nodeOf r p) = []
          · rw [hl, ← el, h4]
          · exact absurd ⟨h4, .inr ⟨h2, h3⟩⟩ h1
theorem all_zero' (t : List Int) : Rp.all (0, t) = t := rfl
theorem all_next {g : Int} (hg : g ≠ 0) (t : List Int) : Rp.all (g, t) = g :: t := by unfold Rp.all; rw [if_neg hg]
theorem count_rowed {r : Rn} {n : Nat} {l t : List Int} (hl : r.rows[n]? = some l) (z : Int) : (all (rowed r n t)).count z + l.count z = (all r).count z + t.count z := by
  have := count_set hl t z
  unfold all rowed
  simp only [List.count_append] at this ⊢
  omega
theorem count_ringed {r : Rn} {p : Nat} {x y : Int × List Int} (hx : r.rings[p]? = some x) (z : Int) : (all (ringed r p y)).count z + (Rp.all x).count z = (all r).count z + (Rp.all y).count z := by
  have := count_set (l := r.rings.map Rp.all) (k := p) (a := Rp.all x) (by rw [List.getElem?_map, hx]; rfl) (Rp.all y) z
  unfold all ringed
  simp only [map_set', List.count_append] at this ⊢
  omega
/-- Nothing is lost. -/
theorem Way.perm {r r' : Rn} {p : Nat} {tick g k : Int} (h : Way r p tick r' g k) (hg : g ≠ 0) : (g :: all r').Perm (all r) := by
  rw [List.perm_iff_count]
  intro z
  cases h with
  | row g t hl hc =>
    have := count_rowed (t := t) hl z
    simp only [List.count_cons] at this ⊢
    omega
  | next g t hx hg' hc =>
    have := count_ringed (y := (0, t)) hx z
    rw [all_next hg', all_zero'] at this
    simp only [List.count_cons] at this ⊢
    omega
  | ring g t hx hc =>
    have := count_ringed (y := (0, t)) hx z
    rw [all_zero', all_zero'] at this
    simp only [List.count_cons] at this ⊢
    omega
  | none => exact absurd rfl hg
theorem Way.tree {r r' : Rn} {p : Nat} {tick g k : Int} (h : Way r p tick r' g k) : r'.tree = r.tree ∧ r'.size = r.size ∧ r'.on = r.on ∧ r'.rings.length = r.rings.length ∧ r'.rows.length = r.rows.length := by
  cases h <;> simp [rowed, ringed]
/-- Who is told is above 0, but for nobody. -/
theorem Way.pos {r r' : Rn} {p : Nat} {tick g k : Int} (h : Way r p tick r' g k) (hm : May r) : (g = 0 ∧ k = 0 ∧ r' = r ∧ r.rings[p]? = some (0, []) ∧ r.rows[nodeOf r p]? = some []) ∨ (1 ≤ g ∧ k ≠ 0) := by
  have pos : ∀ z ∈ all r, 1 ≤ z := hm.once.1
  cases h with
  | row g t hl hc => exact .inr ⟨pos g (mem_all.2 (.inr ⟨_, List.mem_of_getElem? hl, List.mem_cons_self ..⟩)), by decide⟩
  | next g t hx hg hc => exact .inr ⟨pos g (mem_all.2 (.inl ⟨_, List.mem_of_getElem? hx, by rw [all_next hg]; exact List.mem_cons_self ..⟩)), by decide⟩
  | ring g t hx hc => exact .inr ⟨pos g (mem_all.2 (.inl ⟨_, List.mem_of_getElem? hx, by rw [all_zero']; exact List.mem_cons_self ..⟩)), by decide⟩
  | none hx hl => exact .inl ⟨rfl, rfl, rfl, hx, hl⟩
theorem once_tail {r r' : Rn} {g : Int} (h : Rp.Once (all r)) (hp : (g :: all r').Perm (all r)) : Rp.Once (all r') := by
  have h1 := h.perm hp.symm
  exact ⟨fun x hx => h1.1 x (List.mem_cons_of_mem _ hx), (List.nodup_cons.1 h1.2).2⟩
/-- What may be stays so. -/
theorem Way.may {r r' : Rn} {p : Nat} {tick g k : Int} (h : Way r p tick r' g k) (hm : May r) (ho : onP r p = true) : May r' := by
  rcases h.pos hm with ⟨_, _, e, _⟩ | ⟨h1, _⟩
  · rw [e]; exact hm
  have honce := once_tail hm.once (h.perm (by omega))
  obtain ⟨e1, e2, e3, e4, e5⟩ := h.tree
  refine ⟨by rw [e1]; exact hm.tree, by rw [e2]; exact hm.low, by rw [e2]; exact hm.high, by rw [e4, e1]; exact hm.rings, by rw [e5, e1]; exact hm.rows, by rw [e3]; exact hm.some, by rw [e3, e4]; exact hm.few, fun q y hy => ?_, honce⟩
  have hon : ∀ q, onP r' q = onP r q := fun q => by unfold onP; rw [e3]
  rw [e2, hon]
  have hyo := ring_once honce (List.mem_of_getElem? hy)
  have same : r'.rings = r.rings → Rp.may y r.size = true ∧ (Rp.all y = [] ∨ onP r q = true) := fun e => hm.ring q y (by rw [← e]; exact hy)
  have turned : ∀ x t, r.rings[p]? = some x → r'.rings = r.rings.set p (0, t) → t.length ≤ x.2.length → Rp.may y r.size = true ∧ (Rp.all y = [] ∨ onP r q = true) := fun x t hx e hl => by
    rw [e] at hy
    by_cases hq : p = q
    · subst hq
      rw [List.getElem?_set_self (by exact (List.getElem?_eq_some_iff.1 hx).1)] at hy
      injection hy with hy
      subst hy
      have := may_size hm.low (hm.ring p x hx).1
      exact ⟨may_of hm.low (by simp only; omega) hyo, .inr ho⟩
    · rw [List.getElem?_set_ne hq] at hy
      exact hm.ring q y hy
  cases h with
  | row g t hl hc => exact same rfl
  | next g t hx hg hc => exact turned _ t hx rfl (Nat.le_refl _)
  | ring g t hx hc => exact turned _ t hx rfl (by simp)
  | none => exact same rfl
/-- Who stands in one place stands in no other. -/
theorem once_ring {r : Rn} (h : Rp.Once (all r)) {p q : Nat} {x y : Int × List Int} (hx : r.rings[p]? = some x) (hy : r.rings[q]? = some y) {g : Int} (h1 : g ∈ Rp.all x) (h2 : g ∈ Rp.all y) : p = q := by
  by_cases e : p = q
  · exact e
  · exfalso
    have hc := count_ringed (y := (0, [])) hx g
    have hy' : (ringed r p (0, [])).rings[q]? = some y := by
      show (r.rings.set p (0, []))[q]? = _
      rw [List.getElem?_set_ne e]; exact hy
    have m1 : 0 < (Rp.all x).count g := List.count_pos_iff.2 h1
    have m2 : 0 < (all (ringed r p (0, []))).count g := List.count_pos_iff.2 (mem_all.2 (.inl ⟨y, List.mem_of_getElem? hy', h2⟩))
    have m3 : (all r).count g ≤ 1 := List.nodup_iff_count.1 h.2 g
    have m4 : (Rp.all (0, ([] : List Int))).count g = 0 := rfl
    omega
theorem once_row {r : Rn} (h : Rp.Once (all r)) {p q : Nat} {x y : List Int} (hx : r.rows[p]? = some x) (hy : r.rows[q]? = some y) {g : Int} (h1 : g ∈ x) (h2 : g ∈ y) : p = q := by
  by_cases e : p = q
  · exact e
  · exfalso
    have hc := count_rowed (t := []) hx g
    have hy' : (rowed r p []).rows[q]? = some y := by
      show (r.rows.set p [])[q]? = _
      rw [List.getElem?_set_ne e]; exact hy
    have m1 : 0 < x.count g := List.count_pos_iff.2 h1
    have m2 : 0 < (all (rowed r p [])).count g := List.count_pos_iff.2 (mem_all.2 (.inr ⟨y, List.mem_of_getElem? hy', h2⟩))
    have m3 : (all r).count g ≤ 1 := List.nodup_iff_count.1 h.2 g
    have m4 : ([] : List Int).count g = 0 := rfl
    omega
theorem once_both {r : Rn} (h : Rp.Once (all r)) {p q : Nat} {x : Int × List Int} {y : List Int} (hx : r.rings[p]? = some x) (hy : r.rows[q]? = some y) {g : Int} (h1 : g ∈ Rp.all x) (h2 : g ∈ y) : False := by
  have hc := count_rowed (t := []) hy g
  have m1 : 0 < y.count g := List.count_pos_iff.2 h2
  have m2 : 0 < (all (rowed r q [])).count g := List.count_pos_iff.2 (mem_all.2 (.inl ⟨x, List.mem_of_getElem? hx, h1⟩))
  have m3 : (all r).count g ≤ 1 := List.nodup_iff_count.1 h.2 g
  have m4 : ([] : List Int).count g = 0 := rfl
  omega
/-- Where who is told stood. -/
theorem Way.stood {r r' : Rn} {p : Nat} {tick g k : Int} (h : Way r p tick r' g k) (hm : May r) (hg : g ≠ 0) : (k = 3 ∧ whr r g = (-1, (nodeOf r p : Int))) ∨ (k ≠ 3 ∧ whr r g = ((p : Int), -1)) := by
  cases h with
  | row g t hl hc =>
    refine .inl ⟨rfl, whr_row ?_ hl (has_iff.2 (List.mem_cons_self ..)) ?_⟩
    · intro y hy
      obtain ⟨q, hq⟩ := List.mem_iff_getElem?.1 hy
      exact has_no.2 (fun h' => once_both hm.once hq hl h' (List.mem_cons_self ..))
    · intro j hj y hy
      exact has_no.2 (fun h' => by have := once_row hm.once hl hy (List.mem_cons_self ..) h'; omega)
  | next g t hx hg' hc =>
    have hin : g ∈ Rp.all (g, t) := by rw [all_next hg']; exact List.mem_cons_self ..
    exact .inr ⟨by decide, whr_ring hx (has_iff.2 hin) (fun j hj y hy => has_no.2 (fun h' => by have := once_ring hm.once hx hy hin h'; omega))⟩
  | ring g t hx hc =>
    have hin : g ∈ Rp.all (0, g :: t) := List.mem_cons_self ..
    exact .inr ⟨by decide, whr_ring hx (has_iff.2 hin) (fun j hj y hy => has_no.2 (fun h' => by have := once_ring hm.once hx hy hin h'; omega))⟩
  | none => exact absurd rfl hg
/-- Whom a processor finds, in turn. -/
def order (r : Rn) (p : Nat) (tick : Int) : List Int := if tick.tmod 61 = 0 then rowAt r (nodeOf r p) ++ Rp.all (ringAt r p) else Rp.all (ringAt r p) ++ rowAt r (nodeOf r p)
theorem Way.order {r r' : Rn} {p : Nat} {tick g k : Int} (h : Way r p tick r' g k) (hm : May r) (hp : p < r.rings.length) : g = (order r p tick).headD 0 ∧ Jp.order r' p tick = (Jp.order r p tick).tail := by
  have hn := node_lt hm hp
  cases h with
  | row g t hl hc =>
    have e1 : rowAt r (nodeOf r p) = g :: t := rowAt_some hl
    have e2 : rowAt (rowed r (nodeOf r p) t) (nodeOf (rowed r (nodeOf r p) t) p) = t := rowAt_some (by show (r.rows.set (nodeOf r p) t)[nodeOf r p]? = _; rw [List.getElem?_set_self hn])
    have e3 : ringAt (rowed r (nodeOf r p) t) p = ringAt r p := rfl
    unfold Jp.order
    rw [e1, e2, e3]
    by_cases ht : tick.tmod 61 = 0
    · rw [if_pos ht, if_pos ht]
      exact ⟨rfl, rfl⟩
    · rw [if_neg ht, if_neg ht]
      rcases hc with hc | hc
      · exact absurd hc ht
      · rw [hc]
        exact ⟨rfl, rfl⟩
  | next g t hx hg hc =>
    have e1 : ringAt r p = (g, t) := ringAt_some hx
    have e2 : ringAt (ringed r p (0, t)) p = (0, t) := ringAt_some (by show (r.rings.set p (0, t))[p]? = _; rw [List.getElem?_set_self hp])
    have e3 : rowAt (ringed r p (0, t)) (nodeOf (ringed r p (0, t)) p) = rowAt r (nodeOf r p) := rfl
    unfold Jp.order
    rw [e1, e2, e3, all_next hg, all_zero']
    by_cases ht : tick.tmod 61 = 0
    · rw [if_pos ht, if_pos ht]
      rcases hc with hc | hc
      · rw [hc]; exact ⟨rfl, rfl⟩
      · exact absurd ht hc
    · rw [if_neg ht, if_neg ht]
      exact ⟨rfl, rfl⟩
  | ring g t hx hc =>
    have e1 : ringAt r p = (0, g :: t) := ringAt_some hx
    have e2 : ringAt (ringed r p (0, t)) p = (0, t) := ringAt_some (by show (r.rings.set p (0, t))[p]? = _; rw [List.getElem?_set_self hp])
    have e3 : rowAt (ringed r p (0, t)) (nodeOf (ringed r p (0, t)) p) = rowAt r (nodeOf r p) := rfl
    unfold Jp.order
    rw [e1, e2, e3, all_zero', all_zero']
    by_cases ht : tick.tmod 61 = 0
    · rw [if_pos ht, if_pos ht]
      rcases hc with hc | hc
      · rw [hc]; exact ⟨rfl, rfl⟩
      · exact absurd ht hc
    · rw [if_neg ht, if_neg ht]
      exact ⟨rfl, rfl⟩
  | none hx hl =>
    have e1 : ringAt r p = (0, []) := ringAt_some hx
    have e2 : rowAt r (nodeOf r p) = [] := rowAt_some hl
    unfold Jp.order
    rw [e1, e2]
    split <;> exact ⟨rfl, rfl⟩
/-- All else stays. -/
theorem Way.others {r r' : Rn} {p : Nat} {tick g k : Int} (h : Way r p tick r' g k) : (∀ q, q ≠ p → r'.rings[q]? = r.rings[q]?) ∧ ∀ m, m ≠ nodeOf r p → r'.rows[m]? = r.rows[m]? := by
  cases h with
  | row g t hl hc => exact ⟨fun q _ => rfl, fun m hm => List.getElem?_set_ne (fun e => hm e.symm)⟩
  | next g t hx hg hc => exact ⟨fun q hq => List.getElem?_set_ne (fun e => hq e.symm), fun m _ => rfl⟩
  | ring g t hx hc => exact ⟨fun q hq => List.getElem?_set_ne (fun e => hq e.symm), fun m _ => rfl⟩
  | none => exact ⟨fun q _ => rfl, fun m _ => rfl⟩
section
variable {r : Rn} {k m : Nat} {tick x : Int} {l t : List Int}
theorem locOn_row (hn : nodeOf r k = m) (hl : rowAt r m = l) (hx : ringAt r k = (x, t)) (h1 : l ≠ []) (h2 : tick.tmod 61 = 0 ∨ (x = 0 ∧ t = [])) : locOn r k tick = (rowed r m l.tail, l.headD 0, 3) := by
  unfold locOn
  rw [hn, hl, hx, if_pos ⟨h1, h2⟩]
theorem locOn_next (hn : nodeOf r k = m) (hl : rowAt r m = l) (hx : ringAt r k = (x, t)) (h : ¬ (l ≠ [] ∧ (tick.tmod 61 = 0 ∨ (x = 0 ∧ t = [])))) (h1 : x ≠ 0) : locOn r k tick = (ringed r k (0, t), x, 1) := by
  unfold locOn
  rw [hn, hl, hx, if_neg h, if_pos h1]
theorem locOn_ring (hn : nodeOf r k = m) (hl : rowAt r m = l) (hx : ringAt r k = (x, t)) (h : ¬ (l ≠ [] ∧ (tick.tmod 61 = 0 ∨ (x = 0 ∧ t = [])))) (h1 : x = 0) (h2 : t ≠ []) : locOn r k tick = (ringed r k (0, t.tail), t.headD 0, 2) := by
  unfold locOn
  rw [hn, hl, hx, if_neg h, if_neg (by simp [h1]), if_pos h2]
theorem locOn_none (hn : nodeOf r k = m) (hl : rowAt r m = l) (hx : ringAt r k = (x, t)) (h : ¬ (l ≠ [] ∧ (tick.tmod 61 = 0 ∨ (x = 0 ∧ t = [])))) (h1 : x = 0) (h2 : t = []) : locOn r k tick = (r, 0, 0) := by
  unfold locOn
  rw [hn, hl, hx, if_neg h, if_neg (by simp [h1]), if_neg (by simp [h2])]
end
end Go.Proofs.YtinmmcikhjacoaaDoor.Jp


/- What a call leaves that tells Runs and two numbers. -/
namespace Go.Proofs.YtinmmcikhjacoaaDoor
open Go.RowKit
set_option linter.unusedVariables false

theorem RM.rowAt2 {F : Nat → Prop} {w : World} {d : Ad} {r : Jp.Rn} (h : RM F w d r) {i : Nat} {x : List Int} (hx : r.rows[i]? = some x) :
    ∃ b off A n c, d.S = some ⟨b, off, none⟩ ∧ b < w.heap.size ∧ w.cell? ⟨b, off + i, none⟩ = some (.slice A n c) ∧ Row w A n c x ∧ (x ≠ [] → ∀ ad, A = some ad → F ad.block) := by
  obtain ⟨gs, h1, h2, h3⟩ := h.rows
  rw [h2, List.getElem?_map] at hx
  cases he : gs[i]? with
  | none => rw [he] at hx; cases hx
  | some e =>
    rw [he] at hx
    injection hx with hx
    subst hx
    obtain ⟨b, off, e1, hb, hc⟩ := h1.cell i e he
    exact ⟨b, off, e.A, e.n, e.c, e1, hb, by have := hc 0 _ rfl; rw [Nat.mul_one] at this; exact this, h1.rows e (List.mem_of_getElem? he), h3.2 e (List.mem_of_getElem? he)⟩
/-- What a call leaves that tells Runs and two numbers. -/
def TellJG (F : Nat → Prop) (w0 : World) (p : Jp.Rn × Int × Int) (e : Ending) (w' : World) : Prop := ∃ d, e = .returned (.tuple #[jv d p.1, .int .i64 p.2.1, .int .i64 p.2.2]) ∧ RM (More F w0) w' d p.1 ∧ Below w0.heap.size w0 w'
theorem TellJG.is {F : Nat → Prop} {w0 w' : World} {d : Ad} {r : Jp.Rn} {g k : Int} {p : Jp.Rn × Int × Int} (hp : p = (r, g, k)) (h : RM (More F w0) w' d r) (hb : Below w0.heap.size w0 w') : TellJG F w0 p (.returned (.tuple #[jv d r, .int .i64 g, .int .i64 k])) w' := by
  subst hp
  exact ⟨d, rfl, h, hb⟩
theorem far5 {w : World} {b i X : Nat} {u0 u1 u2 u3 u4 v : Value} (hne : b ≠ X) (h : w.cell? ⟨b, i, none⟩ = some v) : (((((w.setCell ⟨X, 0, none⟩ u0).setCell ⟨X, 1, none⟩ u1).setCell ⟨X, 2, none⟩ u2).setCell ⟨X, 3, none⟩ u3).setCell ⟨X, 4, none⟩ u4).cell? ⟨b, i, none⟩ = some v :=
  farcell hne (farcell hne (farcell hne (farcell hne (farcell hne h))))
end Go.Proofs.YtinmmcikhjacoaaDoor


/- Where Local ends, and what stays short. -/
namespace Go.Proofs.YtinmmcikhjacoaaDoor
open Go.RowKit
set_option linter.unusedVariables false

theorem Jp.loc_cases (r : Jp.Rn) (p tick : Int) : (Jp.loc r p tick = (r, 0, 0) ∧ (¬ Jp.May r ∨ Jp.onP r p = false)) ∨ ∃ k : Nat, p = (k : Int) ∧ Jp.May r ∧ Jp.onP r k = true ∧ k < r.rings.length ∧ Jp.Way r k tick (Jp.loc r p tick).1 (Jp.loc r p tick).2.1 (Jp.loc r p tick).2.2 := by
  by_cases hm : Jp.May r
  · cases ho : Jp.onP r p with
    | false => exact .inl ⟨Jp.loc_no (.inr ho), .inr rfl⟩
    | true =>
      obtain ⟨k, rfl, hk⟩ := Jp.onP_lt hm ho
      refine .inr ⟨k, rfl, hm, ho, hk, ?_⟩
      rw [Jp.loc_on hm ho]
      exact Jp.way hm hk tick
  · exact .inl ⟨Jp.loc_no (.inl hm), .inl hm⟩
theorem Jp.Way.fit {r r' : Jp.Rn} {p : Nat} {tick g k : Int} (h : Jp.Way r p tick r' g k) (z : Int) (hz : z ∈ Jp.all r') : z ∈ Jp.all r := by
  have h0 := List.count_pos_iff.2 hz
  refine List.count_pos_iff.1 ?_
  cases h with
  | row g t hl hc =>
    have := Jp.count_rowed (t := t) hl z
    simp only [List.count_cons] at this
    omega
  | next g t hx hg' hc =>
    have := Jp.count_ringed (y := (0, t)) hx z
    rw [Jp.all_next hg', Jp.all_zero'] at this
    simp only [List.count_cons] at this
    omega
  | ring g t hx hc =>
    have := Jp.count_ringed (y := (0, t)) hx z
    rw [Jp.all_zero', Jp.all_zero'] at this
    simp only [List.count_cons] at this
    omega
  | none => exact h0
theorem Jp.Way.low {r r' : Jp.Rn} {p : Nat} {tick g k : Int} (h : Jp.Way r p tick r' g k) (hl : Low r) : Low r' := by
  obtain ⟨e1, e2, e3, e4, e5⟩ := h.tree
  refine ⟨by rw [e4]; exact hl.rings, by rw [e5]; exact hl.rows, ?_, ?_, by rw [e1]; exact hl.tree, fun z hz => hl.fit z (h.fit z hz)⟩
  · cases h with
    | row g t hx hc => exact hl.ring
    | next g t hx hg' hc =>
      intro y hy
      rcases List.mem_or_eq_of_mem_set hy with hy | rfl
      · exact hl.ring y hy
      · exact (show t.length ≤ 400 from hl.ring (g, t) (List.mem_of_getElem? hx))
    | ring g t hx hc =>
      intro y hy
      rcases List.mem_or_eq_of_mem_set hy with hy | rfl
      · exact hl.ring y hy
      · have := hl.ring _ (List.mem_of_getElem? hx)
        simp only [List.length_cons] at this ⊢
        omega
    | none => exact hl.ring
  · cases h with
    | row g t hx hc =>
      intro y hy
      rcases List.mem_or_eq_of_mem_set hy with hy | rfl
      · exact hl.row y hy
      · have := hl.row _ (List.mem_of_getElem? hx)
        simp only [List.length_cons] at this
        omega
    | next g t hx hg' hc => exact hl.row
    | ring g t hx hc => exact hl.row
    | none => exact hl.row
theorem low_loc {r : Jp.Rn} (h : Low r) (p tick : Int) : Low (Jp.loc r p tick).1 := by
  rcases Jp.loc_cases r p tick with ⟨e, _⟩ | ⟨k, rfl, _, _, _, hw⟩
  · rw [e]; exact h
  · exact hw.low h
end Go.Proofs.YtinmmcikhjacoaaDoor


/- What the law FindAll asks, in plain mathematics. -/
namespace Go.Proofs.YtinmmcikhjacoaaDoor.Jp
set_option linter.unusedVariables false

/-- Where the loop stands behind j rounds: those that are left are told in turn. -/
structure Left (want : List Int) (k : Nat) (tick : Int) (j : Nat) (r : Rn) : Prop where
  may : May r
  on : onP r k = true
  lt : k < r.rings.length
  low : Low r
  order : Jp.order r k tick = want.drop j
theorem left_next {want : List Int} {k : Nat} {tick : Int} {j : Nat} {r : Rn} (h : Left want k tick j r) : Left want k tick (j + 1) (loc r k tick).1 ∧ (((loc r k tick).2.1 = 0 ∧ want.take (j + 1) = want.take j) ∨ ((loc r k tick).2.1 ≠ 0 ∧ want.take (j + 1) = want.take j ++ [(loc r k tick).2.1])) := by
  rw [loc_on h.may h.on]
  have hw := way h.may h.lt tick
  obtain ⟨e1, e2⟩ := hw.order h.may h.lt
  obtain ⟨_, _, e3, e4, _⟩ := hw.tree
  rw [h.order] at e1 e2
  refine ⟨⟨hw.may h.may h.on, by unfold onP; rw [e3]; exact h.on, by rw [e4]; exact h.lt, hw.low h.low, by rw [e2, List.tail_drop]⟩, ?_⟩
  by_cases hj : j < want.length
  · refine .inr ⟨?_, ?_⟩
    · intro h0
      rcases hw.pos h.may with ⟨_, _, _, h4, h5⟩ | ⟨h1, _⟩
      · have e := h.order
        have z1 : ringAt r k = (0, []) := ringAt_some h4
        have z2 : rowAt r (nodeOf r k) = [] := rowAt_some h5
        unfold Jp.order at e
        rw [z1, z2] at e
        have : want.drop j = [] := by rw [← e]; split <;> rfl
        have := List.drop_eq_nil_iff.1 this
        omega
      · omega
    · rw [e1, List.headD_eq_head?_getD, List.head?_drop, List.getElem?_eq_getElem hj, Option.getD_some, List.take_add_one, List.getElem?_eq_getElem hj]
      rfl
  · refine .inl ⟨?_, ?_⟩
    · rw [e1, List.drop_eq_nil_of_le (by omega)]
      rfl
    · rw [List.take_of_length_le (by omega), List.take_of_length_le (by omega)]
end Go.Proofs.YtinmmcikhjacoaaDoor.Jp


/- What the law FindOthers asks, in plain mathematics. -/
namespace Go.Proofs.YtinmmcikhjacoaaDoor.Jp
set_option linter.unusedVariables false

structure Others (r : Rn) (k m : Nat) (r' : Rn) : Prop where
  rings : r'.rings.length = r.rings.length
  rows : r'.rows.length = r.rows.length
  on : r'.on = r.on
  ring : ∀ q, q ≠ k → r'.rings[q]? = r.rings[q]?
  row : ∀ q, q ≠ m → r'.rows[q]? = r.rows[q]?
theorem others {r : Rn} {k m : Nat} (hm : May r) (ho : onP r k = true) (hk : k < r.rings.length) (hn : nodeOf r k = m) (tick : Int) : Others r k m (loc r k tick).1 := by
  rw [loc_on hm ho]
  have hw := way hm hk tick
  obtain ⟨_, _, e3, e4, e5⟩ := hw.tree
  obtain ⟨h1, h2⟩ := hw.others
  subst hn
  exact ⟨e4, e5, e3, h1, h2⟩
end Go.Proofs.YtinmmcikhjacoaaDoor.Jp


/- What the law FindSome asks, in plain mathematics. -/
namespace Go.Proofs.YtinmmcikhjacoaaDoor.Jp
set_option linter.unusedVariables false

structure Found (r : Rn) (k m : Nat) (lo : Rn × Int × Int) : Prop where
  none : lo.2.1 = 0 → lo.2.2 = 0 ∧ lo.1 = r ∧ Rp.all (ringAt r k) = [] ∧ rowAt r m = []
  some : lo.2.1 ≠ 0 → (Rp.all (ringAt r k) ≠ [] ∨ rowAt r m ≠ []) ∧ ((lo.2.2 = 3 ∧ whr r lo.2.1 = (-1, (m : Int))) ∨ (lo.2.2 ≠ 3 ∧ whr r lo.2.1 = ((k : Int), -1))) ∧ May lo.1 ∧ (lo.2.1 :: all lo.1).Perm (all r)
theorem found {r : Rn} {k m : Nat} (hm : May r) (ho : onP r k = true) (hk : k < r.rings.length) (hn : nodeOf r k = m) (tick : Int) : Found r k m (loc r k tick) := by
  rw [loc_on hm ho]
  have hw := way hm hk tick
  subst hn
  refine ⟨fun h => ?_, fun h => ⟨?_, hw.stood hm h, hw.may hm ho, hw.perm h⟩⟩
  · rcases hw.pos hm with ⟨_, h2, h3, h4, h5⟩ | ⟨h1, _⟩
    · exact ⟨h2, h3, by rw [ringAt_some h4]; rfl, rowAt_some h5⟩
    · omega
  · revert h
    generalize (locOn r k tick).1 = a at hw
    generalize (locOn r k tick).2.1 = b at hw
    generalize (locOn r k tick).2.2 = c at hw
    intro h
    cases hw with
    | row g t hl hc => exact .inr (by rw [rowAt_some hl]; simp)
    | next g t hx hg hc => exact .inl (by rw [ringAt_some hx, all_next hg]; simp)
    | ring g t hx hc => exact .inl (by rw [ringAt_some hx, all_zero']; simp)
    | none => exact absurd rfl h
end Go.Proofs.YtinmmcikhjacoaaDoor.Jp


/- What the law FindTurns asks, in plain mathematics. -/
namespace Go.Proofs.YtinmmcikhjacoaaDoor.Jp
set_option linter.unusedVariables false

theorem turn_no (n : Int) : (61 * n + 1).tmod 61 ≠ 0 := by
  intro h
  have := Int.dvd_of_tmod_eq_zero h
  omega
theorem turn_yes (n : Int) : (61 * n).tmod 61 = 0 := Int.tmod_eq_zero_of_dvd ⟨n, rfl⟩
structure Turns (r : Rn) (k : Nat) (g a h b : Int) : Prop where
  row : ∀ x t, rowAt r (nodeOf r k) = x :: t → g = x ∧ a = 3
  norow : rowAt r (nodeOf r k) = [] → g = h ∧ a = b
  own : ∀ x t, Rp.all (ringAt r k) = x :: t → h = x ∧ b ≠ 3
  noown : Rp.all (ringAt r k) = [] → g = h ∧ a = b
theorem all_nil {x : Int} {t : List Int} (h : Rp.all (x, t) = []) : x = 0 ∧ t = [] := by
  unfold Rp.all at h
  by_cases hx : x = 0
  · rw [if_pos hx] at h; exact ⟨hx, h⟩
  · rw [if_neg hx] at h; simp at h
theorem turns {r : Rn} {k : Nat} (hm : May r) (ho : onP r k = true) (n : Int) : Turns r k (loc r k (61 * n)).2.1 (loc r k (61 * n)).2.2 (loc r k (61 * n + 1)).2.1 (loc r k (61 * n + 1)).2.2 := by
  rw [loc_on hm ho, loc_on hm ho]
  obtain ⟨⟨x, t⟩, hx⟩ : ∃ y, ringAt r k = y := ⟨_, rfl⟩
  obtain ⟨l, hl⟩ : ∃ l, rowAt r (nodeOf r k) = l := ⟨_, rfl⟩
  have h0 := turn_yes n
  have h1 := turn_no n
  have same : (l = [] ∨ (x = 0 ∧ t = [])) → locOn r k (61 * n) = locOn r k (61 * n + 1) := by
    intro hc
    by_cases h2 : l ≠ [] ∧ (x = 0 ∧ t = [])
    · rw [locOn_row rfl hl hx h2.1 (.inr h2.2), locOn_row rfl hl hx h2.1 (.inr h2.2)]
    · have n0 : ¬ (l ≠ [] ∧ ((61 * n).tmod 61 = 0 ∨ (x = 0 ∧ t = []))) := by
        rintro ⟨h3, h4⟩
        rcases hc with hc | hc
        · exact h3 hc
        · exact h2 ⟨h3, hc⟩
      have n1 : ¬ (l ≠ [] ∧ ((61 * n + 1).tmod 61 = 0 ∨ (x = 0 ∧ t = []))) := by
        rintro ⟨h3, h4⟩
        rcases hc with hc | hc
        · exact h3 hc
        · exact h2 ⟨h3, hc⟩
      by_cases hx0 : x = 0
      · by_cases ht : t = []
        · rw [locOn_none rfl hl hx n0 hx0 ht, locOn_none rfl hl hx n1 hx0 ht]
        · rw [locOn_ring rfl hl hx n0 hx0 ht, locOn_ring rfl hl hx n1 hx0 ht]
      · rw [locOn_next rfl hl hx n0 hx0, locOn_next rfl hl hx n1 hx0]
  refine ⟨fun y s e => ?_, fun e => ?_, fun y s e => ?_, fun e => ?_⟩
  · rw [hl] at e
    rw [locOn_row rfl hl hx (by rw [e]; simp) (.inl h0), e]
    exact ⟨rfl, rfl⟩
  · rw [hl] at e
    rw [same (.inl e)]
    exact ⟨rfl, rfl⟩
  · rw [hx] at e
    have n1 : ¬ (l ≠ [] ∧ ((61 * n + 1).tmod 61 = 0 ∨ (x = 0 ∧ t = []))) := by
      rintro ⟨h3, h4 | ⟨rfl, rfl⟩⟩
      · exact h1 h4
      · simp [Rp.all] at e
    by_cases hx0 : x = 0
    · subst hx0
      rw [all_zero'] at e
      rw [locOn_ring rfl hl hx n1 rfl (by rw [e]; simp), e]
      exact ⟨rfl, by show (2 : Int) ≠ 3; decide⟩
    · rw [all_next hx0] at e
      injection e with e1 e2
      rw [locOn_next rfl hl hx n1 hx0]
      exact ⟨e1, by show (1 : Int) ≠ 3; decide⟩
  · rw [hx] at e
    rw [same (.inr (all_nil e))]
    exact ⟨rfl, rfl⟩
end Go.Proofs.YtinmmcikhjacoaaDoor.Jp


/- bits.Of by its contract: the bits of all numbers that can be members. -/
namespace Go.Proofs.YtinmmcikhjacoaaDoor
open Go.RowKit
set_option linter.unusedVariables false

theorem wrap_pow (m : Nat) (h : m < 64) : IntKind.u64.wrap ((2 : Int) ^ m) = ((2 ^ m : Nat) : Int) := by
  have h1 : 2 ^ m < 18446744073709551616 := by have := Nat.pow_lt_pow_right (a := 2) (by decide) h; omega
  rw [IntKind.wrap_u64, show (2 : Int) ^ m = ((2 ^ m : Nat) : Int) by rw [Int.natCast_pow]; rfl, Int.emod_eq_of_lt (Int.natCast_nonneg _) (by generalize 2 ^ m = q at h1; omega)]
theorem or_one (s m : Nat) (hs : s < 18446744073709551616) (h : m < 64) : bits .or .u64 (s : Int) (IntKind.u64.wrap ((2 : Int) ^ m)) = ((s ||| Zp.one (m : Int) : Nat) : Int) := by
  have h1 : 2 ^ m < 18446744073709551616 := by have := Nat.pow_lt_pow_right (a := 2) (by decide) h; omega
  rw [wrap_pow m h, bits_or_u64_nat _ _ hs h1, show Zp.one (m : Int) = 2 ^ m by unfold Zp.one; rw [if_pos (by omega), Int.toNat_natCast]]
theorem of_any (A : Option Addr) (n c : Nat) (zs : List Int) (w : World) (h : Row w A n c zs) :
    Calls Tryd.prog 65 #[.slice A n c] w fun e w' => e = .returned (.int .u64 (Zp.ofL zs : Nat)) ∧ w' = w := by
  have h1 := h.cap
  have h2 := h.most
  have H := Lib.hid h
  clear h
  go_enter Tryd.func65, Tryd.ntmps65
  go_wp2
  go_loop [3, 8] (fun s i => ∃ k : Nat, k ≤ n ∧ i = .int .i64 k ∧ s = .int .u64 (Zp.ofL (zs.take k) : Nat))
    (fun _ i => n - (intOf i).toNat)
  case atStart => exact ⟨0, Nat.zero_le _, rfl, rfl⟩
  case round =>
    obtain ⟨k, hk, rfl, rfl⟩ := hrel
    by_cases hlt : k < n
    · obtain ⟨x, hx⟩ : ∃ x, zs[k]? = some x := ⟨_, List.getElem?_eq_getElem (by have := H.out.len; omega)⟩
      obtain ⟨b, off, hA, hbk, hc⟩ := H.out.row k x hx
      subst hA
      have hs : zs.take (k + 1) = zs.take k ++ [x] := by rw [List.take_add_one, hx]; rfl
      have HS := Lib.hid (show Zp.ofL (zs.take (k + 1)) = Zp.ofL (zs.take k) ||| Zp.one x by rw [hs, Zp.ofL_snoc])
      have hlt64 := Zp.ofL_lt (zs.take k)
      generalize Zp.ofL (zs.take k) = s at HS hlt64
      clear hx hs
      by_cases hx0 : 0 ≤ x
      · by_cases hx1 : x < 64
        · obtain ⟨m, rfl⟩ := Int.eq_ofNat_of_zero_le hx0
          have hm : m < 64 := by omega
          go_wp2
          go_round
          case rel =>
            refine ⟨k + 1, by omega, by go_num, ?_⟩
            rw [HS.out, or_one s m hlt64 hm]
          case measure => simp [intOf]; omega
        · go_wp2
          go_round
          case rel => exact ⟨k + 1, by omega, by go_num, by rw [HS.out, show Zp.one x = 0 from if_neg (by omega), Nat.or_zero]⟩
          case measure => simp [intOf]; omega
      · go_wp2
        go_round
        case rel => exact ⟨k + 1, by omega, by go_num, by rw [HS.out, show Zp.one x = 0 from if_neg (by omega), Nat.or_zero]⟩
        case measure => simp [intOf]; omega
    · go_wp2
      go_ret
      have e := H.out.len
      rw [List.take_of_length_le (by omega)]
      exact ⟨rfl, rfl⟩
end Go.Proofs.YtinmmcikhjacoaaDoor


/- How many members a set has, in plain mathematics: the bits of a number of 64, added up in pairs, in fours, in bytes. -/
namespace Go.Proofs.YtinmmcikhjacoaaDoor.Zp

def cnt (k x : Nat) : Nat := (memTo k x).length
theorem cnt_zero (x : Nat) : cnt 0 x = 0 := rfl
theorem cnt_succ (k x : Nat) : cnt (k + 1) x = cnt k x + x / 2 ^ k % 2 := by
  unfold cnt
  rw [memTo_succ, List.length_append]
  congr 1
  rw [Nat.testBit_eq_decide_div_mod_eq]
  by_cases h : x / 2 ^ k % 2 = 1
  · rw [decide_eq_true h, if_pos rfl, h]; rfl
  · rw [decide_eq_false h, if_neg (by simp), List.length_nil]; omega
theorem cnt_le (k x : Nat) : cnt k x ≤ k := memTo_len k x
theorem cnt_split (j x : Nat) : cnt (8 + j) x = cnt 8 (x % 256) + cnt j (x / 256) := by
  induction j with
  | zero =>
    rw [cnt_zero, Nat.add_zero, Nat.add_zero]
    unfold cnt memTo bitsTo
    rw [show (List.range 8).filter (fun i => x.testBit i) = (List.range 8).filter (fun i => (x % 256).testBit i) from List.filter_congr fun i hi => by
      have := List.mem_range.1 hi
      rw [show (256 : Nat) = 2 ^ 8 from rfl, Nat.testBit_mod_two_pow, decide_eq_true this, Bool.true_and]]
  | succ j ih =>
    rw [← Nat.add_assoc, cnt_succ (8 + j), ih, cnt_succ j, Nat.add_assoc]
    have e : x / 2 ^ (8 + j) = x / 256 / 2 ^ j := by rw [Nat.pow_add, ← Nat.div_div_eq_div_mul]
    rw [e]
def g1 (b : Nat) : Nat := (b / 2 &&& 85) + (b &&& 85)
def g2 (c : Nat) : Nat := (c / 4 &&& 51) + (c &&& 51)
def g3 (c : Nat) : Nat := (c / 16 + c) &&& 15
theorem byte_ok : ∀ b, b < 256 → g1 b < 256 ∧ g2 (g1 b) < 256 ∧ g2 (g1 b) % 16 ≤ 4 ∧ g2 (g1 b) / 16 ≤ 4 ∧ g3 (g2 (g1 b)) = cnt 8 b := by decide +kernel
theorem lo85 : ∀ e, e < 2 → ∀ c, c < 128 → (128 * e + c) &&& 85 = c &&& 85 := by decide +kernel
theorem lo51 : ∀ e, e < 4 → ∀ c, c < 64 → (64 * e + c) &&& 51 = c &&& 51 := by decide +kernel
theorem lo15 (e c : Nat) : (16 * e + c) &&& 15 = c &&& 15 := by
  rw [show (15 : Nat) = 2 ^ 4 - 1 from rfl, Nat.and_two_pow_sub_one_eq_mod, Nat.and_two_pow_sub_one_eq_mod]; omega
def mk (d : Nat) : Nat → Nat
  | 0 => 0
  | k + 1 => 256 * mk d k + d
theorem mk_succ (d k : Nat) : mk d (k + 1) = 256 * mk d k + d := rfl
theorem mk85 : mk 85 8 = 6148914691236517205 := by decide +kernel
theorem mk51 : mk 51 8 = 3689348814741910323 := by decide +kernel
theorem mk15 : mk 15 8 = 1085102592571150095 := by decide +kernel
theorem and256 (a b c d : Nat) (hb : b < 256) (hd : d < 256) : (256 * a + b) &&& (256 * c + d) = 256 * (a &&& c) + (b &&& d) := by
  have h1 := Nat.and_div_two_pow (a := 256 * a + b) (b := 256 * c + d) (n := 8)
  have h2 := Nat.and_mod_two_pow (a := 256 * a + b) (b := 256 * c + d) (n := 8)
  have h3 := Nat.div_add_mod ((256 * a + b) &&& (256 * c + d)) 256
  rw [show (2 : Nat) ^ 8 = 256 from rfl] at h1 h2
  rw [show (256 * a + b) / 256 = a by omega, show (256 * c + d) / 256 = c by omega] at h1
  rw [show (256 * a + b) % 256 = b by omega, show (256 * c + d) % 256 = d by omega] at h2
  rw [← h3, h1, h2]
def Y1 (k x : Nat) : Nat := (x / 2 &&& mk 85 k) + (x &&& mk 85 k)
def Y2 (k x : Nat) : Nat := (x / 4 &&& mk 51 k) + (x &&& mk 51 k)
def Y3 (k x : Nat) : Nat := (x / 16 + x) &&& mk 15 k
theorem Y1_succ (k x b : Nat) (hb : b < 256) : Y1 (k + 1) (256 * x + b) = 256 * Y1 k x + g1 b := by
  unfold Y1 g1
  rw [mk_succ, show (256 * x + b) / 2 = 256 * (x / 2) + (128 * (x % 2) + b / 2) by omega, and256 _ _ _ _ (by omega) (by omega), and256 _ _ _ _ hb (by omega), lo85 _ (by omega) _ (by omega)]
  omega
theorem Y2_succ (k x b : Nat) (hb : b < 256) : Y2 (k + 1) (256 * x + b) = 256 * Y2 k x + g2 b := by
  unfold Y2 g2
  rw [mk_succ, show (256 * x + b) / 4 = 256 * (x / 4) + (64 * (x % 4) + b / 4) by omega, and256 _ _ _ _ (by omega) (by omega), and256 _ _ _ _ hb (by omega), lo51 _ (by omega) _ (by omega)]
  omega
theorem Y3_succ (k x b : Nat) (hx : x % 16 ≤ 4) (h1 : b % 16 ≤ 4) (h2 : b / 16 ≤ 4) : Y3 (k + 1) (256 * x + b) = 256 * Y3 k x + g3 b := by
  unfold Y3 g3
  rw [mk_succ, show (256 * x + b) / 16 + (256 * x + b) = 256 * (x / 16 + x) + (16 * (x % 16) + (b / 16 + b)) by omega, and256 _ _ _ _ (by omega) (by omega), lo15]
theorem Y2_low (k x : Nat) : Y2 k (Y1 k x) % 16 ≤ 4 := by
  cases k with
  | zero => simp [Y2, mk]
  | succ k =>
    obtain ⟨h1, h2, h3, _⟩ := byte_ok (x % 256) (by omega)
    rw [show Y1 (k + 1) x = 256 * Y1 k (x / 256) + g1 (x % 256) by rw [← Y1_succ _ _ _ (by omega)]; congr 1; omega, Y2_succ _ _ _ h1]
    omega
def S (k x : Nat) : Nat := Y3 k (Y2 k (Y1 k x))
theorem S_succ (k x : Nat) : S (k + 1) x = 256 * S k (x / 256) + cnt 8 (x % 256) := by
  obtain ⟨h1, h2, h3, h4, h5⟩ := byte_ok (x % 256) (by omega)
  unfold S
  rw [show Y1 (k + 1) x = 256 * Y1 k (x / 256) + g1 (x % 256) by rw [← Y1_succ _ _ _ (by omega)]; congr 1; omega, Y2_succ _ _ _ h1, Y3_succ _ _ _ (Y2_low _ _) h3 h4, h5]
theorem S_zero (x : Nat) : S 0 x = 0 := by simp [S, Y3, mk]
theorem fold_up (c0 c1 c2 c3 c4 c5 c6 c7 y3 y4 y5 y6 : Nat) (h0 : c0 ≤ 8) (h1 : c1 ≤ 8) (h2 : c2 ≤ 8) (h3 : c3 ≤ 8) (h4 : c4 ≤ 8) (h5 : c5 ≤ 8) (h6 : c6 ≤ 8) (h7 : c7 ≤ 8)
    (e3 : y3 = 256 * (256 * (256 * (256 * (256 * (256 * (256 * c7 + c6) + c5) + c4) + c3) + c2) + c1) + c0) (e4 : y4 = y3 + y3 / 256) (e5 : y5 = y4 + y4 / 65536) (e6 : y6 = y5 + y5 / 4294967296) :
    y6 % 128 = c0 + c1 + c2 + c3 + c4 + c5 + c6 + c7 ∧ y6 < 9223372036854775808 := by
  have d4 : y4 = 256 * (256 * (256 * (256 * (256 * (256 * (256 * c7 + (c6 + c7)) + (c5 + c6)) + (c4 + c5)) + (c3 + c4)) + (c2 + c3)) + (c1 + c2)) + (c0 + c1) := by omega
  have d5 : y5 = 256 * (256 * (256 * (256 * (256 * (256 * (256 * c7 + (c6 + c7)) + (c5 + c6 + c7)) + (c4 + c5 + c6 + c7)) + (c3 + c4 + c5 + c6)) + (c2 + c3 + c4 + c5)) + (c1 + c2 + c3 + c4)) + (c0 + c1 + c2 + c3) := by clear e3; omega
  clear e3 e4 d4 e5
  have q : y5 / 4294967296 = 256 * (256 * (256 * c7 + (c6 + c7)) + (c5 + c6 + c7)) + (c4 + c5 + c6 + c7) := by omega
  rw [q] at e6
  clear q
  have d6 : y6 = 256 * (256 * (256 * (256 * (256 * (256 * (256 * c7 + (c6 + c7)) + (c5 + c6 + c7)) + (c4 + c5 + c6 + c7)) + (c3 + c4 + c5 + c6 + c7)) + (c2 + c3 + c4 + c5 + c6 + c7)) + (c1 + c2 + c3 + c4 + c5 + c6 + c7)) + (c0 + c1 + c2 + c3 + c4 + c5 + c6 + c7) := by omega
  clear e6 d5
  omega
/-- The bits of a number of 64, by the steps of the library's text. -/
theorem ones_up (x y1 y2 y3 y4 y5 y6 : Nat) (e1 : y1 = (x / 2 &&& 6148914691236517205) + (x &&& 6148914691236517205)) (e2 : y2 = (y1 / 4 &&& 3689348814741910323) + (y1 &&& 3689348814741910323))
    (e3 : y3 = (y2 / 16 + y2) &&& 1085102592571150095) (e4 : y4 = y3 + y3 / 256) (e5 : y5 = y4 + y4 / 65536) (e6 : y6 = y5 + y5 / 4294967296) :
    y6 % 128 = (mem x).length ∧ y6 < 9223372036854775808 := by
  have hS : y3 = S 8 x := by
    unfold S Y3 Y2 Y1
    rw [mk85, mk51, mk15, e3, e2, e1]
  have hc : (mem x).length = cnt 64 x := rfl
  rw [hc, show cnt 64 x = cnt 8 (x % 256) + cnt 56 (x / 256) from cnt_split 56 x, show ∀ x, cnt 56 x = cnt 8 (x % 256) + cnt 48 (x / 256) from cnt_split 48, show ∀ x, cnt 48 x = cnt 8 (x % 256) + cnt 40 (x / 256) from cnt_split 40,
    show ∀ x, cnt 40 x = cnt 8 (x % 256) + cnt 32 (x / 256) from cnt_split 32, show ∀ x, cnt 32 x = cnt 8 (x % 256) + cnt 24 (x / 256) from cnt_split 24, show ∀ x, cnt 24 x = cnt 8 (x % 256) + cnt 16 (x / 256) from cnt_split 16,
    show ∀ x, cnt 16 x = cnt 8 (x % 256) + cnt 8 (x / 256) from cnt_split 8, show ∀ x, cnt 8 (x / 256) = cnt 8 (x / 256 % 256) + cnt 0 (x / 256 / 256) from fun x => cnt_split 0 _, cnt_zero]
  rw [S_succ 7, S_succ 6, S_succ 5, S_succ 4, S_succ 3, S_succ 2, S_succ 1, S_succ 0, S_zero, Nat.mul_zero, Nat.zero_add] at hS
  have r := fold_up _ _ _ _ _ _ _ _ y3 y4 y5 y6 (cnt_le 8 _) (cnt_le 8 _) (cnt_le 8 _) (cnt_le 8 _) (cnt_le 8 _) (cnt_le 8 _) (cnt_le 8 _) (cnt_le 8 _) hS e4 e5 e6
  clear hS e1 e2 e3 e4 e5 e6 hc
  omega
theorem y_bounds (x y1 y2 y3 : Nat) (e1 : y1 = (x / 2 &&& 6148914691236517205) + (x &&& 6148914691236517205)) (e2 : y2 = (y1 / 4 &&& 3689348814741910323) + (y1 &&& 3689348814741910323)) (e3 : y3 = (y2 / 16 + y2) &&& 1085102592571150095) :
    y1 ≤ 12297829382473034410 ∧ y2 ≤ 7378697629483820646 ∧ y3 ≤ 1085102592571150095 := by
  have a1 := Nat.and_le_right (n := x / 2) (m := 6148914691236517205)
  have a2 := Nat.and_le_right (n := x) (m := 6148914691236517205)
  have a3 := Nat.and_le_right (n := y1 / 4) (m := 3689348814741910323)
  have a4 := Nat.and_le_right (n := y1) (m := 3689348814741910323)
  have a5 := Nat.and_le_right (n := y2 / 16 + y2) (m := 1085102592571150095)
  refine ⟨?_, ?_, ?_⟩
  · rw [e1]; exact Nat.le_trans (Nat.add_le_add a1 a2) (by decide)
  · rw [e2]; exact Nat.le_trans (Nat.add_le_add a3 a4) (by decide)
  · rw [e3]; exact a5
/-! Joined, and one more. -/
theorem cnt_joins (a b : Nat) : ∀ k, cnt k (a ||| b) + cnt k (a &&& b) = cnt k a + cnt k b := by
  intro k
  unfold cnt
  induction k with
  | zero => rfl
  | succ k ih =>
    simp only [memTo_succ, List.length_append, Nat.testBit_or, Nat.testBit_and]
    cases a.testBit k <;> cases b.testBit k <;> simp <;> omega
theorem cnt_wth (x : Nat) (n : Int) : ∀ k, cnt k (wth x n) = cnt k x + if 0 ≤ n ∧ n < k ∧ n < 64 ∧ x.testBit n.toNat = false then 1 else 0 := by
  intro k
  unfold cnt
  induction k with
  | zero => rw [if_neg (by omega)]; rfl
  | succ k ih =>
    simp only [memTo_succ, List.length_append, wth_bit, ih]
    by_cases hk : (k : Int) = n
    · subst hk
      rw [if_neg (by omega)]
      by_cases h64 : k < 64
      · cases h : x.testBit k
        · simp [h64, h]; omega
        · simp [h64, h]
      · rw [if_neg (c := 0 ≤ (k : Int) ∧ _) (by omega)]
        simp [h64]
    · have e : (0 ≤ n ∧ n < ((k + 1 : Nat) : Int) ∧ n < 64 ∧ x.testBit n.toNat = false) ↔ (0 ≤ n ∧ n < (k : Int) ∧ n < 64 ∧ x.testBit n.toNat = false) := by
        constructor
        · rintro ⟨h1, h2, h3⟩; exact ⟨h1, by omega, h3⟩
        · rintro ⟨h1, h2, h3⟩; exact ⟨h1, by omega, h3⟩
      simp only [e, hk, false_and, decide_false, Bool.or_false]
      omega
theorem len_wth (x : Nat) (n : Int) : (mem (wth x n)).length = (mem x).length + if 0 ≤ n ∧ n < 64 ∧ has x n = false then 1 else 0 := by
  have h := cnt_wth x n 64
  unfold cnt at h
  unfold mem
  rw [h]
  congr 1
  have e : (0 ≤ n ∧ n < ((64 : Nat) : Int) ∧ n < 64 ∧ x.testBit n.toNat = false) ↔ (0 ≤ n ∧ n < 64 ∧ has x n = false) := by
    constructor
    · rintro ⟨h1, h2, h3, h4⟩
      obtain ⟨k, rfl⟩ := Int.eq_ofNat_of_zero_le h1
      refine ⟨h1, h3, ?_⟩
      rw [has_bit]; rw [Int.toNat_natCast] at h4; rw [h4]; simp
    · rintro ⟨h1, h2, h3⟩
      obtain ⟨k, rfl⟩ := Int.eq_ofNat_of_zero_le h1
      rw [has_bit] at h3
      refine ⟨h1, h2, h2, ?_⟩
      rw [Int.toNat_natCast]
      have : k < 64 := by omega
      simpa [this] using h3
  simp only [e]
theorem len_joins (a b : Nat) : (mem (a ||| b)).length + (mem (a &&& b)).length = (mem a).length + (mem b).length := cnt_joins a b 64
end Go.Proofs.YtinmmcikhjacoaaDoor.Zp


/- Has, With, Without, from by their contracts. -/
namespace Go.Proofs.YtinmmcikhjacoaaDoor
open Go.RowKit
set_option linter.unusedVariables false

theorem andnot_one (s : Nat) (n : Int) (hs : s < 18446744073709551616) : bits .andNot .u64 (s : Int) (Zp.one n : Nat) = ((Zp.wout s n : Nat) : Int) := by
  rw [u64_andNot_nat _ _ hs (Zp.one_lt n)]; rfl
theorem has_and (s : Nat) (n : Int) (hs : s < 18446744073709551616) : (bits .and .u64 (s : Int) (Zp.one n : Nat) != 0) = Zp.has s n := by
  rw [bits_and_u64_nat _ _ hs (Zp.one_lt n)]
  unfold Zp.has
  rw [Bool.eq_iff_iff, bne_iff_ne, decide_eq_true_eq]
  omega
theorem shifted (s m : Nat) (hs : s < 18446744073709551616) : IntKind.u64.wrap ((s : Int) / 2 ^ m * 2 ^ m) = ((s / 2 ^ m * 2 ^ m : Nat) : Int) := by
  have h1 : s / 2 ^ m * 2 ^ m < 18446744073709551616 := Nat.lt_of_le_of_lt (Nat.div_mul_le_self _ _) hs
  rw [IntKind.wrap_u64, show (s : Int) / 2 ^ m * 2 ^ m = ((s / 2 ^ m * 2 ^ m : Nat) : Int) by rw [Int.natCast_mul, Int.natCast_ediv, Int.natCast_pow]; rfl, Int.emod_eq_of_lt (Int.natCast_nonneg _) (by generalize s / 2 ^ m * 2 ^ m = q at h1; omega)]
theorem has_any (s : Nat) (n : Int) (w : World) (hs : s < 18446744073709551616) :
    Calls Tryd.prog 27 #[.int .u64 s, .int .i64 n] w fun e w' => e = .returned (.bool (Zp.has s n)) ∧ Below w.heap.size w w' := by
  have HR := Lib.hid (row_lit w [n] (by simp))
  have HB := Lib.hid (below_new w (.cells #[.int .i64 n] 3))
  go_enter Tryd.func27, Tryd.ntmps27
  go_wp2_with fail
  refine (of_any _ 1 1 [n] _ HR.out).mono ?_
  rintro e w1 ⟨rfl, rfl⟩
  rw [Zp.ofL_one]
  go_wp2_with fail
  go_ret
  refine ⟨?_, HB.out⟩
  rw [has_and _ _ hs]; rfl
theorem without_any (s : Nat) (n : Int) (w : World) (hs : s < 18446744073709551616) :
    Calls Tryd.prog 81 #[.int .u64 s, .int .i64 n] w fun e w' => e = .returned (.int .u64 (Zp.wout s n : Nat)) ∧ Below w.heap.size w w' := by
  have HR := Lib.hid (row_lit w [n] (by simp))
  have HB := Lib.hid (below_new w (.cells #[.int .i64 n] 3))
  go_enter Tryd.func81, Tryd.ntmps81
  go_wp2_with fail
  refine (of_any _ 1 1 [n] _ HR.out).mono ?_
  rintro e w1 ⟨rfl, rfl⟩
  rw [Zp.ofL_one]
  go_wp2_with fail
  go_ret
  refine ⟨?_, HB.out⟩
  rw [andnot_one _ _ hs]; rfl
end Go.Proofs.YtinmmcikhjacoaaDoor


/- The library's TrailingZeros64 and OnesCount64 by their contracts; least, Count, Next. -/
namespace Go.Proofs.YtinmmcikhjacoaaDoor
open Go.RowKit
set_option linter.unusedVariables false

/-- The library's table, as its initialiser lays it. -/
def Tab (w : World) : Prop := ∀ j, j < 64 → w.cell? ⟨0, j, none⟩ = some (.int .u8 (Lib.deBruijn64tab.getD j 0 : Nat))
theorem Tab.lt {w : World} (h : Tab w) : 0 < w.heap.size := World.block_lt_of_cell? _ _ (h 0 (by decide))
theorem Tab.step {w w' : World} (h : Tab w) (hb : Below w.heap.size w w') : Tab w' := fun j hj => keepcell hb (h j hj)
set_option maxHeartbeats 1000000 in
theorem tz_core (x k idx : Nat) (w : World) (hx0 : ((x : Int) == 0) = false)
    (key : IntKind.u64.wrap (bits BinOp.and IntKind.u64 (x : Int) (IntKind.u64.wrap (-(x : Int))) * 285870213051353865) / 288230376151711744 = (idx : Int))
    (hi : idx < 64) (hk : k < 64) (hcell : w.cell? ⟨0, idx, none⟩ = some (.int .u8 k)) :
    Calls Tryd.prog 86 #[.int .u64 x] w fun e w' => e = .returned (.int .i64 k) ∧ w' = w := by
  go_enter Tryd.func86, Tryd.ntmps86
  go_wp2_with (simp only [key])
  go_ret
  exact ⟨rfl, rfl⟩
theorem tz_key (x a : Nat) (hx : x < 18446744073709551616) (hx0 : x ≠ 0) (hlow : x &&& (18446744073709551616 - x) = a) :
    IntKind.u64.wrap (bits BinOp.and IntKind.u64 (x : Int) (IntKind.u64.wrap (-(x : Int))) * 285870213051353865) / 288230376151711744 = ((a * 285870213051353865 % 18446744073709551616 / 288230376151711744 : Nat) : Int) := by
  have e1 : IntKind.u64.wrap (-(x : Int)) = ((18446744073709551616 - x : Nat) : Int) := by rw [IntKind.wrap_u64]; omega
  rw [e1, bits_and_u64_nat x _ hx (by omega), hlow, IntKind.wrap_u64]
  omega
/-- The least member of a set that has one. -/
theorem tz_any (x : Nat) (w : World) (hx : x < 18446744073709551616) (hx0 : x ≠ 0) (hT : Tab w) :
    Calls Tryd.prog 86 #[.int .u64 x] w fun e w' => e = .returned (.int .i64 (Lib.ctz 64 x : Nat)) ∧ w' = w := by
  obtain ⟨hlow, hk⟩ := Lib.lowest_bit 64 x hx0 hx
  obtain ⟨hi, htab⟩ := Lib.deBruijn64_at _ hk
  have hcell := hT _ hi
  rw [htab] at hcell
  exact tz_core x _ _ w (by simp; omega) (tz_key x _ hx hx0 hlow) hi hk hcell
theorem least_any (x : Nat) (w : World) (hx : x < 18446744073709551616) (hx0 : x ≠ 0) (hT : Tab w) :
    Calls Tryd.prog 80 #[.int .u64 x] w fun e w' => e = .returned (.int .i64 (Lib.ctz 64 x : Nat)) ∧ w' = w := by
  go_enter Tryd.func80, Tryd.ntmps80
  go_wp2_with fail
  refine (tz_any x _ hx hx0 hT).mono ?_
  rintro e w1 ⟨rfl, rfl⟩
  go_wp2_with fail
  go_ret
  exact ⟨rfl, rfl⟩
end Go.Proofs.YtinmmcikhjacoaaDoor


/- The library's OnesCount64 by its contract; Count. -/
namespace Go.Proofs.YtinmmcikhjacoaaDoor
open Go.RowKit
set_option linter.unusedVariables false

theorem and_lit (a m : Nat) (ha : a < 18446744073709551616) (hm : m < 18446744073709551616) (z t : Int) (hz : z = (a : Int)) (ht : t = (m : Int)) : bits .and .u64 z t = ((a &&& m : Nat) : Int) := by
  subst hz ht; exact bits_and_u64_nat a m ha hm
theorem wrap_nat (a : Nat) (ha : a < 18446744073709551616) (z : Int) (hz : z = (a : Int)) : IntKind.u64.wrap z = (a : Int) := by
  subst hz; rw [IntKind.wrap_u64]; omega
theorem wrap_small (y : Nat) (h : y < 9223372036854775808) : wrap64 (y : Int) = (y : Int) := by
  have h1 : (0 : Int) ≤ (y : Int) + 9223372036854775808 := by omega
  have h2 : (y : Int) + 9223372036854775808 < 18446744073709551616 := by omega
  unfold wrap64
  rw [Int.emod_eq_of_lt h1 h2, Int.add_sub_cancel]
end Go.Proofs.YtinmmcikhjacoaaDoor

