/- Contracts and plain mathematics, put together by program (wip/merge.py) out of: YPlain WPlain APlain NPlain. -/
import Derived.Test.YtcoccegmkcdeiaaDoorM7
import Derived.Test.YtcoccegmkcdeiaaDoorM3
import Derived.Test.YtcoccegmkcdeiaaDoorM6
/- Who runs next on a processor, of its own: in plain mathematics. -/
namespace Go.Proofs.YtcoccegmkcdeiaaDoor.Jp
set_option linter.unusedVariables false

/-- Of a processor that is plugged, of Runs that may be. -/
def locOn (r : Rn) (p : Nat) (tick : Int) : Rn × Int × Int :=
  if rowAt r (nodeOf r p) ≠ [] ∧ (tick.tmod 61 = 0 ∨ ((ringAt r p).1 = 0 ∧ (ringAt r p).2 = [])) then (rowed r (nodeOf r p) (rowAt r (nodeOf r p)).tail, (rowAt r (nodeOf r p)).headD 0, 3)
  else if (ringAt r p).1 ≠ 0 then (ringed r p (0, (ringAt r p).2), (ringAt r p).1, 1)
  else if (ringAt r p).2 ≠ [] then (ringed r p (0, (ringAt r p).2.tail), (ringAt r p).2.headD 0, 2)
  else (r, 0, 0)
open Classical in
noncomputable def loc (r : Rn) (p tick : Int) : Rn × Int × Int := if ¬ May r ∨ onP r p = false then (r, 0, 0) else locOn r p.toNat tick
theorem loc_no {r : Rn} {p tick : Int} (h : ¬ May r ∨ onP r p = false) : loc r p tick = (r, 0, 0) := by unfold loc; rw [if_pos h]
theorem loc_on {r : Rn} {p : Nat} {tick : Int} (h : May r) (ho : onP r p = true) : loc r p tick = locOn r p tick := by
  unfold loc
  rw [if_neg (by rw [ho]; simp [h])]
  rfl
theorem onP_lt {r : Rn} (h : May r) {p : Int} (ho : onP r p = true) : ∃ k : Nat, p = k ∧ k < r.rings.length := by
  have hm := has_iff.1 ho
  have h1 := Zp.mem_in hm
  have h2 := h.few p hm
  exact ⟨p.toNat, by omega, by omega⟩
/-- How a processor finds. -/
inductive Way (r : Rn) (p : Nat) (tick : Int) : Rn → Int → Int → Prop
  | row (g : Int) (t : List Int) (hl : r.rows[nodeOf r p]? = some (g :: t)) (hc : tick.tmod 61 = 0 ∨ ringAt r p = (0, [])) : Way r p tick (rowed r (nodeOf r p) t) g 3
  | next (g : Int) (t : List Int) (hx : r.rings[p]? = some (g, t)) (hg : g ≠ 0) (hc : rowAt r (nodeOf r p) = [] ∨ tick.tmod 61 ≠ 0) : Way r p tick (ringed r p (0, t)) g 1
  | ring (g : Int) (t : List Int) (hx : r.rings[p]? = some (0, g :: t)) (hc : rowAt r (nodeOf r p) = [] ∨ tick.tmod 61 ≠ 0) : Way r p tick (ringed r p (0, t)) g 2
  | none (hx : r.rings[p]? = some (0, [])) (hl : r.rows[nodeOf r p]? = some []) : Way r p tick r 0 0
theorem way {r : Rn} (h : May r) {p : Nat} (hp : p < r.rings.length) (tick : Int) : Way r p tick (locOn r p tick).1 (locOn r p tick).2.1 (locOn r p tick).2.2 := by
  obtain ⟨⟨x, l⟩, hx⟩ : ∃ x, r.rings[p]? = some x := ⟨_, List.getElem?_eq_getElem hp⟩
  obtain ⟨row, hl⟩ : ∃ l, r.rows[nodeOf r p]? = some l := ⟨_, List.getElem?_eq_getElem (node_lt h hp)⟩
  have ex := ringAt_some hx
  have el := rowAt_some hl
  unfold locOn
  by_cases h1 : rowAt r (nodeOf r p) ≠ [] ∧ (tick.tmod 61 = 0 ∨ ((ringAt r p).1 = 0 ∧ (ringAt r p).2 = []))
  · rw [if_pos h1]
    obtain ⟨g, t, e⟩ := List.exists_cons_of_ne_nil h1.1
    rw [e]
    refine .row g t (by rw [hl, ← e, el]) ?_
    rcases h1.2 with h2 | h2
    · exact .inl h2
    · exact .inr (Prod.ext h2.1 h2.2)
  · rw [if_neg h1]
    have hc : (ringAt r p ≠ (0, [])) → rowAt r (nodeOf r p) = [] ∨ tick.tmod 61 ≠ 0 := fun hne => by
      by_cases h2 : rowAt r (nodeOf r p) = []
      · exact .inl h2
      · exact .inr (fun h3 => h1 ⟨h2, .inl h3⟩)
    by_cases h2 : (ringAt r p).1 ≠ 0
    · rw [if_pos h2]
      have e : ringAt r p = ((ringAt r p).1, (ringAt r p).2) := rfl
      exact .next _ _ (by rw [hx, ← ex]) h2 (hc (fun h3 => h2 (by rw [h3])))
    · rw [if_neg h2]
      have h2 := Classical.not_not.1 h2
      by_cases h3 : (ringAt r p).2 ≠ []
      · rw [if_pos h3]
        obtain ⟨g, t, e⟩ := List.exists_cons_of_ne_nil h3
        rw [e]
        refine .ring g t ?_ (hc (fun h4 => h3 (by rw [h4])))
        rw [hx, ← ex, ← e, ← h2]
      · rw [if_neg h3]
        have h3 := Classical.not_not.1 h3
        refine .none ?_ ?_
        · rw [hx, ← ex, ← h2, ← h3]
        · by_cases h4 : rowAt r (nodeOf r p) = []
          · rw [hl, ← el, h4]
          · exact absurd ⟨h4, .inr ⟨h2, h3⟩⟩ h1
theorem all_zero' (t : List Int) : Rp.all (0, t) = t := rfl
theorem all_next {g : Int} (hg : g ≠ 0) (t : List Int) : Rp.all (g, t) = g :: t := by unfold Rp.all; rw [if_neg hg]
theorem count_rowed {r : Rn} {n : Nat} {l t : List Int} (hl : r.rows[n]? = some l) (z : Int) : (all (rowed r n t)).count z + l.count z = (all r).count z + t.count z := by
  have := count_set hl t z
  unfold all rowed
  simp only [List.count_append] at this ⊢
  omega
theorem count_ringed {r : Rn} {p : Nat} {x y : Int × List Int} (hx : r.rings[p]? = some x) (z : Int) : (all (ringed r p y)).count z + (Rp.all x).count z = (all r).count z + (Rp.all y).count z := by
  have := count_set (l := r.rings.map Rp.all) (k := p) (a := Rp.all x) (by rw [List.getElem?_map, hx]; rfl) (Rp.all y) z
  unfold all ringed
  simp only [map_set', List.count_append] at this ⊢
  omega
/-- Nothing is lost. -/
theorem Way.perm {r r' : Rn} {p : Nat} {tick g k : Int} (h : Way r p tick r' g k) (hg : g ≠ 0) : (g :: all r').Perm (all r) := by
  rw [List.perm_iff_count]
  intro z
  cases h with
  | row g t hl hc =>
    have := count_rowed (t := t) hl z
    simp only [List.count_cons] at this ⊢
    omega
  | next g t hx hg' hc =>
    have := count_ringed (y := (0, t)) hx z
    rw [all_next hg', all_zero'] at this
    simp only [List.count_cons] at this ⊢
    omega
  | ring g t hx hc =>
    have := count_ringed (y := (0, t)) hx z
    rw [all_zero', all_zero'] at this
    simp only [List.count_cons] at this ⊢
    omega
  | none => exact absurd rfl hg
theorem Way.tree {r r' : Rn} {p : Nat} {tick g k : Int} (h : Way r p tick r' g k) : r'.tree = r.tree ∧ r'.size = r.size ∧ r'.on = r.on ∧ r'.rings.length = r.rings.length ∧ r'.rows.length = r.rows.length := by
  cases h <;> simp [rowed, ringed]
/-- Who is told is above 0, but for nobody. -/
theorem Way.pos {r r' : Rn} {p : Nat} {tick g k : Int} (h : Way r p tick r' g k) (hm : May r) : (g = 0 ∧ k = 0 ∧ r' = r ∧ r.rings[p]? = some (0, []) ∧ r.rows[nodeOf r p]? = some []) ∨ (1 ≤ g ∧ k ≠ 0) := by
  have pos : ∀ z ∈ all r, 1 ≤ z := hm.once.1
  cases h with
  | row g t hl hc => exact .inr ⟨pos g (mem_all.2 (.inr ⟨_, List.mem_of_getElem? hl, List.mem_cons_self ..⟩)), by decide⟩
  | next g t hx hg hc => exact .inr ⟨pos g (mem_all.2 (.inl ⟨_, List.mem_of_getElem? hx, by rw [all_next hg]; exact List.mem_cons_self ..⟩)), by decide⟩
  | ring g t hx hc => exact .inr ⟨pos g (mem_all.2 (.inl ⟨_, List.mem_of_getElem? hx, by rw [all_zero']; exact List.mem_cons_self ..⟩)), by decide⟩
  | none hx hl => exact .inl ⟨rfl, rfl, rfl, hx, hl⟩
theorem once_tail {r r' : Rn} {g : Int} (h : Rp.Once (all r)) (hp : (g :: all r').Perm (all r)) : Rp.Once (all r') := by
  have h1 := h.perm hp.symm
  exact ⟨fun x hx => h1.1 x (List.mem_cons_of_mem _ hx), (List.nodup_cons.1 h1.2).2⟩
/-- What may be stays so. -/
theorem Way.may {r r' : Rn} {p : Nat} {tick g k : Int} (h : Way r p tick r' g k) (hm : May r) (ho : onP r p = true) : May r' := by
  rcases h.pos hm with ⟨_, _, e, _⟩ | ⟨h1, _⟩
  · rw [e]; exact hm
  have honce := once_tail hm.once (h.perm (by omega))
  obtain ⟨e1, e2, e3, e4, e5⟩ := h.tree
  refine ⟨by rw [e1]; exact hm.tree, by rw [e2]; exact hm.low, by rw [e2]; exact hm.high, by rw [e4, e1]; exact hm.rings, by rw [e5, e1]; exact hm.rows, by rw [e3]; exact hm.some, by rw [e3, e4]; exact hm.few, fun q y hy => ?_, honce⟩
  have hon : ∀ q, onP r' q = onP r q := fun q => by unfold onP; rw [e3]
  rw [e2, hon]
  have hyo := ring_once honce (List.mem_of_getElem? hy)
  have same : r'.rings = r.rings → Rp.may y r.size = true ∧ (Rp.all y = [] ∨ onP r q = true) := fun e => hm.ring q y (by rw [← e]; exact hy)
  have turned : ∀ x t, r.rings[p]? = some x → r'.rings = r.rings.set p (0, t) → t.length ≤ x.2.length → Rp.may y r.size = true ∧ (Rp.all y = [] ∨ onP r q = true) := fun x t hx e hl => by
    rw [e] at hy
    by_cases hq : p = q
    · subst hq
      rw [List.getElem?_set_self (by exact (List.getElem?_eq_some_iff.1 hx).1)] at hy
      injection hy with hy
      subst hy
      have := may_size hm.low (hm.ring p x hx).1
      exact ⟨may_of hm.low (by simp only; omega) hyo, .inr ho⟩
    · rw [List.getElem?_set_ne hq] at hy
      exact hm.ring q y hy
  cases h with
  | row g t hl hc => exact same rfl
  | next g t hx hg hc => exact turned _ t hx rfl (Nat.le_refl _)
  | ring g t hx hc => exact turned _ t hx rfl (by simp)
  | none => exact same rfl
/-- Who stands in one place stands in no other. -/
theorem once_ring {r : Rn} (h : Rp.Once (all r)) {p q : Nat} {x y : Int × List Int} (hx : r.rings[p]? = some x) (hy : r.rings[q]? = some y) {g : Int} (h1 : g ∈ Rp.all x) (h2 : g ∈ Rp.all y) : p = q := by
  by_cases e : p = q
  · exact e
  · exfalso
    have hc := count_ringed (y := (0, [])) hx g
    have hy' : (ringed r p (0, [])).rings[q]? = some y := by
      show (r.rings.set p (0, []))[q]? = _
      rw [List.getElem?_set_ne e]; exact hy
    have m1 : 0 < (Rp.all x).count g := List.count_pos_iff.2 h1
    have m2 : 0 < (all (ringed r p (0, []))).count g := List.count_pos_iff.2 (mem_all.2 (.inl ⟨y, List.mem_of_getElem? hy', h2⟩))
    have m3 : (all r).count g ≤ 1 := List.nodup_iff_count.1 h.2 g
    have m4 : (Rp.all (0, ([] : List Int))).count g = 0 := rfl
    omega
theorem once_row {r : Rn} (h : Rp.Once (all r)) {p q : Nat} {x y : List Int} (hx : r.rows[p]? = some x) (hy : r.rows[q]? = some y) {g : Int} (h1 : g ∈ x) (h2 : g ∈ y) : p = q := by
  by_cases e : p = q
  · exact e
  · exfalso
    have hc := count_rowed (t := []) hx g
    have hy' : (rowed r p []).rows[q]? = some y := by
      show (r.rows.set p [])[q]? = _
      rw [List.getElem?_set_ne e]; exact hy
    have m1 : 0 < x.count g := List.count_pos_iff.2 h1
    have m2 : 0 < (all (rowed r p [])).count g := List.count_pos_iff.2 (mem_all.2 (.inr ⟨y, List.mem_of_getElem? hy', h2⟩))
    have m3 : (all r).count g ≤ 1 := List.nodup_iff_count.1 h.2 g
    have m4 : ([] : List Int).count g = 0 := rfl
    omega
theorem once_both {r : Rn} (h : Rp.Once (all r)) {p q : Nat} {x : Int × List Int} {y : List Int} (hx : r.rings[p]? = some x) (hy : r.rows[q]? = some y) {g : Int} (h1 : g ∈ Rp.all x) (h2 : g ∈ y) : False := by
  have hc := count_rowed (t := []) hy g
  have m1 : 0 < y.count g := List.count_pos_iff.2 h2
  have m2 : 0 < (all (rowed r q [])).count g := List.count_pos_iff.2 (mem_all.2 (.inl ⟨x, List.mem_of_getElem? hx, h1⟩))
  have m3 : (all r).count g ≤ 1 := List.nodup_iff_count.1 h.2 g
  have m4 : ([] : List Int).count g = 0 := rfl
  omega
/-- Where who is told stood. -/
theorem Way.stood {r r' : Rn} {p : Nat} {tick g k : Int} (h : Way r p tick r' g k) (hm : May r) (hg : g ≠ 0) : (k = 3 ∧ whr r g = (-1, (nodeOf r p : Int))) ∨ (k ≠ 3 ∧ whr r g = ((p : Int), -1)) := by
  cases h with
  | row g t hl hc =>
    refine .inl ⟨rfl, whr_row ?_ hl (has_iff.2 (List.mem_cons_self ..)) ?_⟩
    · intro y hy
      obtain ⟨q, hq⟩ := List.mem_iff_getElem?.1 hy
      exact has_no.2 (fun h' => once_both hm.once hq hl h' (List.mem_cons_self ..))
    · intro j hj y hy
      exact has_no.2 (fun h' => by have := once_row hm.once hl hy (List.mem_cons_self ..) h'; omega)
  | next g t hx hg' hc =>
    have hin : g ∈ Rp.all (g, t) := by rw [all_next hg']; exact List.mem_cons_self ..
    exact .inr ⟨by decide, whr_ring hx (has_iff.2 hin) (fun j hj y hy => has_no.2 (fun h' => by have := once_ring hm.once hx hy hin h'; omega))⟩
  | ring g t hx hc =>
    have hin : g ∈ Rp.all (0, g :: t) := List.mem_cons_self ..
    exact .inr ⟨by decide, whr_ring hx (has_iff.2 hin) (fun j hj y hy => has_no.2 (fun h' => by have := once_ring hm.once hx hy hin h'; omega))⟩
  | none => exact absurd rfl hg
/-- Whom a processor finds, in turn. -/
def order (r : Rn) (p : Nat) (tick : Int) : List Int := if tick.tmod 61 = 0 then rowAt r (nodeOf r p) ++ Rp.all (ringAt r p) else Rp.all (ringAt r p) ++ rowAt r (nodeOf r p)
theorem Way.order {r r' : Rn} {p : Nat} {tick g k : Int} (h : Way r p tick r' g k) (hm : May r) (hp : p < r.rings.length) : g = (order r p tick).headD 0 ∧ Jp.order r' p tick = (Jp.order r p tick).tail := by
  have hn := node_lt hm hp
  cases h with
  | row g t hl hc =>
    have e1 : rowAt r (nodeOf r p) = g :: t := rowAt_some hl
    have e2 : rowAt (rowed r (nodeOf r p) t) (nodeOf (rowed r (nodeOf r p) t) p) = t := rowAt_some (by show (r.rows.set (nodeOf r p) t)[nodeOf r p]? = _; rw [List.getElem?_set_self hn])
    have e3 : ringAt (rowed r (nodeOf r p) t) p = ringAt r p := rfl
    unfold Jp.order
    rw [e1, e2, e3]
    by_cases ht : tick.tmod 61 = 0
    · rw [if_pos ht, if_pos ht]
      exact ⟨rfl, rfl⟩
    · rw [if_neg ht, if_neg ht]
      rcases hc with hc | hc
      · exact absurd hc ht
      · rw [hc]
        exact ⟨rfl, rfl⟩
  | next g t hx hg hc =>
    have e1 : ringAt r p = (g, t) := ringAt_some hx
    have e2 : ringAt (ringed r p (0, t)) p = (0, t) := ringAt_some (by show (r.rings.set p (0, t))[p]? = _; rw [List.getElem?_set_self hp])
    have e3 : rowAt (ringed r p (0, t)) (nodeOf (ringed r p (0, t)) p) = rowAt r (nodeOf r p) := rfl
    unfold Jp.order
    rw [e1, e2, e3, all_next hg, all_zero']
    by_cases ht : tick.tmod 61 = 0
    · rw [if_pos ht, if_pos ht]
      rcases hc with hc | hc
      · rw [hc]; exact ⟨rfl, rfl⟩
      · exact absurd ht hc
    · rw [if_neg ht, if_neg ht]
      exact ⟨rfl, rfl⟩
  | ring g t hx hc =>
    have e1 : ringAt r p = (0, g :: t) := ringAt_some hx
    have e2 : ringAt (ringed r p (0, t)) p = (0, t) := ringAt_some (by show (r.rings.set p (0, t))[p]? = _; rw [List.getElem?_set_self hp])
    have e3 : rowAt (ringed r p (0, t)) (nodeOf (ringed r p (0, t)) p) = rowAt r (nodeOf r p) := rfl
    unfold Jp.order
    rw [e1, e2, e3, all_zero', all_zero']
    by_cases ht : tick.tmod 61 = 0
    · rw [if_pos ht, if_pos ht]
      rcases hc with hc | hc
      · rw [hc]; exact ⟨rfl, rfl⟩
      · exact absurd ht hc
    · rw [if_neg ht, if_neg ht]
      exact ⟨rfl, rfl⟩
  | none hx hl =>
    have e1 : ringAt r p = (0, []) := ringAt_some hx
    have e2 : rowAt r (nodeOf r p) = [] := rowAt_some hl
    unfold Jp.order
    rw [e1, e2]
    split <;> exact ⟨rfl, rfl⟩
/-- All else stays. -/
theorem Way.others {r r' : Rn} {p : Nat} {tick g k : Int} (h : Way r p tick r' g k) : (∀ q, q ≠ p → r'.rings[q]? = r.rings[q]?) ∧ ∀ m, m ≠ nodeOf r p → r'.rows[m]? = r.rows[m]? := by
  cases h with
  | row g t hl hc => exact ⟨fun q _ => rfl, fun m hm => List.getElem?_set_ne (fun e => hm e.symm)⟩
  | next g t hx hg hc => exact ⟨fun q hq => List.getElem?_set_ne (fun e => hq e.symm), fun m _ => rfl⟩
  | ring g t hx hc => exact ⟨fun q hq => List.getElem?_set_ne (fun e => hq e.symm), fun m _ => rfl⟩
  | none => exact ⟨fun q _ => rfl, fun m _ => rfl⟩
section
variable {r : Rn} {k m : Nat} {tick x : Int} {l t : List Int}
theorem locOn_row (hn : nodeOf r k = m) (hl : rowAt r m = l) (hx : ringAt r k = (x, t)) (h1 : l ≠ []) (h2 : tick.tmod 61 = 0 ∨ (x = 0 ∧ t = [])) : locOn r k tick = (rowed r m l.tail, l.headD 0, 3) := by
  unfold locOn
  rw [hn, hl, hx, if_pos ⟨h1, h2⟩]
theorem locOn_next (hn : nodeOf r k = m) (hl : rowAt r m = l) (hx : ringAt r k = (x, t)) (h : ¬ (l ≠ [] ∧ (tick.tmod 61 = 0 ∨ (x = 0 ∧ t = [])))) (h1 : x ≠ 0) : locOn r k tick = (ringed r k (0, t), x, 1) := by
  unfold locOn
  rw [hn, hl, hx, if_neg h, if_pos h1]
theorem locOn_ring (hn : nodeOf r k = m) (hl : rowAt r m = l) (hx : ringAt r k = (x, t)) (h : ¬ (l ≠ [] ∧ (tick.tmod 61 = 0 ∨ (x = 0 ∧ t = [])))) (h1 : x = 0) (h2 : t ≠ []) : locOn r k tick = (ringed r k (0, t.tail), t.headD 0, 2) := by
  unfold locOn
  rw [hn, hl, hx, if_neg h, if_neg (by simp [h1]), if_pos h2]
theorem locOn_none (hn : nodeOf r k = m) (hl : rowAt r m = l) (hx : ringAt r k = (x, t)) (h : ¬ (l ≠ [] ∧ (tick.tmod 61 = 0 ∨ (x = 0 ∧ t = [])))) (h1 : x = 0) (h2 : t = []) : locOn r k tick = (r, 0, 0) := by
  unfold locOn
  rw [hn, hl, hx, if_neg h, if_neg (by simp [h1]), if_neg (by simp [h2])]
end
end Go.Proofs.YtcoccegmkcdeiaaDoor.Jp


/- Who is taken from others: in plain mathematics. -/
namespace Go.Proofs.YtcoccegmkcdeiaaDoor.Jp
set_option linter.unusedVariables false

/-- Whether somebody can be taken from there, as far as that. -/
def vict (r : Rn) (p far q : Int) : Bool := !(Rp.all (ringAt r q.toNat)).isEmpty && decide (Dp.far r.tree p q ≤ far)
open Classical in
noncomputable def victims (r : Rn) (p far : Int) : List Int := if May r then (Dp.near r.tree p).filter (vict r p far) else []
structure Thief (r : Rn) (p : Int) : Prop where
  may : May r
  on : onP r p = true
  ring : Rp.all (ringAt r p.toNat) = []
  row : rowAt r (nodeOf r p.toNat) = []
/-- The nodes behind one, going round. -/
def round (r : Rn) (n : Nat) : List Nat := (List.range (r.rows.length - 1)).map (fun j => (n + (j + 1)) % r.rows.length)
def firsts (r : Rn) (n : Nat) : Option Nat := (round r n).find? (fun m => !(rowAt r m).isEmpty)
noncomputable def stealOn (r : Rn) (k : Nat) (far : Int) : Rn × Int × Int :=
  match victims r k far with
  | q :: _ => (ringed (ringed r q.toNat (Rp.half (ringAt r q.toNat)).1) k (0, (Rp.half (ringAt r q.toNat)).2.tail), (Rp.half (ringAt r q.toNat)).2.headD 0, Dp.far r.tree k q)
  | [] => if far < 3 then (r, 0, -1) else
    match firsts r (nodeOf r k) with
    | some m => (rowed r m (rowAt r m).tail, (rowAt r m).headD 0, 3)
    | none => (r, 0, -1)
open Classical in
noncomputable def steal (r : Rn) (p far : Int) : Rn × Int × Int := if Thief r p then stealOn r p.toNat far else (r, 0, -1)
theorem steal_no {r : Rn} {p far : Int} (h : ¬ Thief r p) : steal r p far = (r, 0, -1) := by unfold steal; rw [if_neg h]
theorem steal_on {r : Rn} {k : Nat} {far : Int} (h : Thief r k) : steal r k far = stealOn r k far := by unfold steal; rw [if_pos h]; rfl
theorem thief_lt {r : Rn} {p : Int} (h : Thief r p) : ∃ k : Nat, p = k ∧ k < r.rings.length := onP_lt h.may h.on
theorem procs_of {r : Rn} (h : May r) : Dp.procsN r.tree = r.rings.length := by rw [Dp.procsN_tree ((Tp.tree_iff r.tree).1 h.tree), h.rings]
theorem victims_no {r : Rn} {p far : Int} (h : ¬ May r) : victims r p far = [] := by unfold victims; rw [if_neg h]
theorem victims_may {r : Rn} {p far : Int} (h : May r) : victims r p far = (Dp.near r.tree p).filter (vict r p far) := by unfold victims; rw [if_pos h]
theorem victims_out {r : Rn} {p far : Int} (h : p < 0 ∨ (r.rings.length : Int) ≤ p) : victims r p far = [] := by
  by_cases hm : May r
  · rw [victims_may hm, Dp.near_out (by rw [procs_of hm]; exact h)]
    rfl
  · exact victims_no hm
theorem mem_victims {r : Rn} {p far q : Int} (h : May r) (h0 : 0 ≤ p) (h1 : p < r.rings.length) : q ∈ victims r p far ↔ 0 ≤ q ∧ q < r.rings.length ∧ q ≠ p ∧ Rp.all (ringAt r q.toNat) ≠ [] ∧ Dp.far r.tree p q ≤ far := by
  have hp := procs_of h
  rw [victims_may h, List.mem_filter, Dp.mem_near h0 (by rw [hp]; exact h1), hp]
  unfold vict
  simp only [Bool.and_eq_true, Bool.not_eq_true', List.isEmpty_eq_false_iff, decide_eq_true_eq, and_assoc, ne_eq]
theorem victim_at {r : Rn} {p far q : Int} (hq : q ∈ victims r p far) : May r ∧ (∃ k : Nat, p = k ∧ k < r.rings.length) ∧ (∃ j : Nat, q = j ∧ j < r.rings.length) ∧ q ≠ p ∧ Rp.all (ringAt r q.toNat) ≠ [] ∧ Dp.far r.tree p q ≤ far ∧ 1 ≤ Dp.far r.tree p q := by
  have hm : May r := Classical.byContradiction (fun h => by rw [victims_no h] at hq; cases hq)
  have hr : ¬ (p < 0 ∨ (r.rings.length : Int) ≤ p) := fun h => by rw [victims_out h] at hq; cases hq
  have h0 : 0 ≤ p := by omega
  have h1 : p < r.rings.length := by omega
  obtain ⟨a, b, c, d, e⟩ := (mem_victims hm h0 h1).1 hq
  have hp := procs_of hm
  exact ⟨hm, ⟨p.toNat, by omega, by omega⟩, ⟨q.toNat, by omega, by omega⟩, c, d, e, Dp.far_ne_zero h0 (by rw [hp]; exact h1) a (by rw [hp]; exact b) c⟩
theorem filter_prefix {l : List Int} {f : Int → Int} {c : Int → Bool} {d e : Int} (hl : l.Pairwise (fun a b => f a ≤ f b)) (hd : d ≤ e) : (l.filter (fun q => c q && decide (f q ≤ d))) <+: (l.filter (fun q => c q && decide (f q ≤ e))) := by
  induction l with
  | nil => exact List.prefix_refl _
  | cons x l ih =>
    obtain ⟨h1, h2⟩ := List.pairwise_cons.1 hl
    cases hc : c x
    · rw [List.filter_cons_of_neg (by simp [hc]), List.filter_cons_of_neg (by simp [hc])]
      exact ih h2
    · by_cases hx : f x ≤ d
      · rw [List.filter_cons_of_pos (by simp [hc, hx]), List.filter_cons_of_pos (by simp [hc]; omega)]
        exact List.cons_prefix_cons.2 ⟨rfl, ih h2⟩
      · have : (x :: l).filter (fun q => c q && decide (f q ≤ d)) = [] := by
          rw [List.filter_eq_nil_iff]
          intro z hz
          rcases List.mem_cons.1 hz with rfl | hz
          · simp [hx]
          · have := h1 z hz
            simp only [Bool.and_eq_true, decide_eq_true_eq, not_and]
            intro _
            omega
        rw [this]
        exact List.nil_prefix
theorem victims_prefix {r : Rn} {p d e : Int} (hd : d ≤ e) : victims r p d <+: victims r p e := by
  by_cases hm : May r
  · by_cases hr : p < 0 ∨ (r.rings.length : Int) ≤ p
    · rw [victims_out hr, victims_out hr]
      exact List.prefix_refl _
    · have hp := procs_of hm
      have hpw := (Dp.nearTo_pair (vs := r.tree) (p := p) (by omega) (by rw [hp]; omega) 3).1
      rw [← Dp.near_in (by rw [hp]; omega)] at hpw
      rw [victims_may hm, victims_may hm]
      exact filter_prefix (c := fun q => !(Rp.all (ringAt r q.toNat)).isEmpty) (f := Dp.far r.tree p) (hpw.imp (fun h => h.2)) hd
  · rw [victims_no hm, victims_no hm]
    exact List.prefix_refl _
theorem victims_zero {r : Rn} {p : Int} : victims r p 0 = [] := by
  cases h : victims r p 0 with
  | nil => rfl
  | cons q l =>
    obtain ⟨_, _, _, _, _, h5, h6⟩ := victim_at (r := r) (p := p) (far := 0) (q := q) (by rw [h]; exact List.mem_cons_self ..)
    omega
theorem victims_le {r : Rn} {p far : Int} : (victims r p far).length ≤ 3 * r.rings.length := by
  by_cases hm : May r
  · rw [victims_may hm]
    refine Nat.le_trans (List.length_filter_le _ _) ?_
    by_cases hr : p < 0 ∨ (Dp.procsN r.tree : Int) ≤ p
    · rw [Dp.near_out hr]; simp
    · rw [Dp.near_in hr, ← procs_of hm]; exact Dp.nearTo_le _ _ 3
  · rw [victims_no hm]; simp
/-- What a steal ends with. -/
inductive Sto (r : Rn) (k : Nat) (far : Int) : Rn → Int → Int → Prop
  | ring (q : Nat) (x : Int × List Int) (g : Int) (t : List Int) (hx : r.rings[q]? = some x) (hq : q ≠ k) (hb : (Rp.half x).2 = g :: t) (h1 : 1 ≤ Dp.far r.tree k q) (hf : Dp.far r.tree k q ≤ far) (hv : ∃ l, victims r k far = (q : Int) :: l) : Sto r k far (ringed (ringed r q (Rp.half x).1) k (0, t)) g (Dp.far r.tree k q)
  | row (m : Nat) (g : Int) (t : List Int) (hl : r.rows[m]? = some (g :: t)) (hm : m ≠ nodeOf r k) (hf : 3 ≤ far) (hv : victims r k far = []) (hfi : firsts r (nodeOf r k) = some m) : Sto r k far (rowed r m t) g 3
  | none (hv : victims r k far = []) (hn : far < 3 ∨ firsts r (nodeOf r k) = Option.none) : Sto r k far r 0 (-1)
theorem half_told {x : Int × List Int} (h : Rp.all x ≠ []) : ∃ g t, (Rp.half x).2 = g :: t := by
  obtain ⟨a, l⟩ := x
  unfold Rp.half
  cases l with
  | nil =>
    rw [if_pos (show (a, ([] : List Int)).2.length = 0 from rfl)]
    simp only
    cases e : Rp.all (a, []) with
    | nil => exact absurd e h
    | cons g t => exact ⟨g, t, rfl⟩
  | cons y l =>
    rw [if_neg (show ¬ (a, y :: l).2.length = 0 by simp)]
    refine ⟨y, l.take (Rp.hf (y :: l) - 1), ?_⟩
    have : Rp.hf (y :: l) = Rp.hf (y :: l) - 1 + 1 := by unfold Rp.hf; simp only [List.length_cons]; omega
    simp only
    rw [this, List.take_succ_cons]
    rfl
theorem mem_round {r : Rn} {n m : Nat} (hn : n < r.rows.length) : m ∈ round r n ↔ m < r.rows.length ∧ m ≠ n := by
  unfold round
  simp only [List.mem_map, List.mem_range]
  constructor
  · rintro ⟨j, hj, rfl⟩
    refine ⟨Nat.mod_lt _ (by omega), ?_⟩
    by_cases h : n + (j + 1) < r.rows.length
    · rw [Nat.mod_eq_of_lt h]; omega
    · rw [Nat.mod_eq_sub_mod (by omega), Nat.mod_eq_of_lt (by omega)]; omega
  · rintro ⟨h1, h2⟩
    by_cases h : n < m
    · exact ⟨m - n - 1, by omega, by rw [show n + (m - n - 1 + 1) = m by omega]; exact Nat.mod_eq_of_lt h1⟩
    · exact ⟨r.rows.length + m - n - 1, by omega, by rw [show n + (r.rows.length + m - n - 1 + 1) = m + r.rows.length by omega, Nat.add_mod_right]; exact Nat.mod_eq_of_lt h1⟩
theorem firsts_some {r : Rn} {n m : Nat} (hn : n < r.rows.length) (h : firsts r n = some m) : ∃ g t, r.rows[m]? = some (g :: t) ∧ m ≠ n := by
  unfold firsts at h
  obtain ⟨h1, h2⟩ := (mem_round hn).1 (List.mem_of_find?_eq_some h)
  have h3 := List.find?_some h
  cases e : rowAt r m with
  | nil => rw [e] at h3; cases h3
  | cons g t =>
    refine ⟨g, t, ?_, h2⟩
    have h4 : r.rows[m]? = some r.rows[m] := List.getElem?_eq_getElem h1
    rw [rowAt_some h4] at e
    rw [h4, e]
theorem firsts_none {r : Rn} {n : Nat} (hn : n < r.rows.length) (h : firsts r n = none) {m : Nat} {l : List Int} (hl : r.rows[m]? = some l) (hm : m ≠ n) : l = [] := by
  unfold firsts at h
  rw [List.find?_eq_none] at h
  have h1 := h m ((mem_round hn).2 ⟨(List.getElem?_eq_some_iff.1 hl).1, hm⟩)
  rw [rowAt_some hl] at h1
  simpa using h1
theorem sto {r : Rn} {k : Nat} (h : Thief r k) (hk : k < r.rings.length) (far : Int) : Sto r k far (stealOn r k far).1 (stealOn r k far).2.1 (stealOn r k far).2.2 := by
  have hn := node_lt h.may hk
  cases e : victims r k far with
  | cons q l =>
    obtain ⟨hm, _, ⟨j, rfl, hj⟩, hne, ha, hf, h1⟩ := victim_at (r := r) (p := k) (far := far) (q := q) (by rw [e]; exact List.mem_cons_self ..)
    have hx : r.rings[j]? = some (ringAt r j) := by rw [ringAt_some (List.getElem?_eq_getElem hj)]; exact List.getElem?_eq_getElem hj
    obtain ⟨g, t, hb⟩ := half_told (x := ringAt r j) ha
    have he : stealOn r k far = (ringed (ringed r j (Rp.half (ringAt r j)).1) k (0, t), g, Dp.far r.tree k j) := by
      unfold stealOn
      rw [e]
      simp only
      rw [show ((j : Int).toNat) = j from rfl, hb]
      rfl
    rw [he]
    exact .ring j _ g t hx (by omega) hb h1 hf ⟨l, e⟩
  | nil =>
    unfold stealOn
    rw [e]
    simp only
    by_cases hf : far < 3
    · rw [if_pos hf]
      exact .none e (.inl hf)
    · rw [if_neg hf]
      cases e2 : firsts r (nodeOf r k) with
      | none => exact .none e (.inr e2)
      | some m =>
        obtain ⟨g, t, hl, hm⟩ := firsts_some hn e2
        simp only
        rw [rowAt_some hl]
        exact .row m g t hl hm (by omega) e e2
end Go.Proofs.YtcoccegmkcdeiaaDoor.Jp


/- Who is woken, in plain mathematics. -/
namespace Go.Proofs.YtcoccegmkcdeiaaDoor.Jp
set_option linter.unusedVariables false

/-- Who is idle, and plugged. -/
def both (r : Rn) (idle : Nat) (q : Int) : Bool := Zp.has idle q && onP r q
open Classical in
noncomputable def wake (r : Rn) (idle : Nat) (p : Int) : Int :=
  if May r ∧ 0 ≤ p ∧ p < r.rings.length then if both r idle p = true then p else ((Dp.near r.tree p).find? (both r idle)).getD (-1) else -1
theorem wake_no {r : Rn} {idle : Nat} {p : Int} (h : ¬ (May r ∧ 0 ≤ p ∧ p < r.rings.length)) : wake r idle p = -1 := by unfold wake; rw [if_neg h]
theorem wake_self {r : Rn} {idle : Nat} {p : Int} (h : May r ∧ 0 ≤ p ∧ p < r.rings.length) (hb : both r idle p = true) : wake r idle p = p := by unfold wake; rw [if_pos h, if_pos hb]
theorem wake_near {r : Rn} {idle : Nat} {p : Int} (h : May r ∧ 0 ≤ p ∧ p < r.rings.length) (hb : both r idle p = false) : wake r idle p = ((Dp.near r.tree p).find? (both r idle)).getD (-1) := by unfold wake; rw [if_pos h, if_neg (by rw [hb]; decide)]
/-- The first one of a list that is both, in steps. -/
theorem find_at {r : Rn} {idle : Nat} {l : List Int} {j : Nat} {q : Int} (hq : l[j]? = some q) (h : both r idle q = true) (hb : ∀ (i : Nat) y, i < j → l[i]? = some y → both r idle y = false) : l.find? (both r idle) = some q := by
  rw [List.find?_eq_some_iff_getElem]
  obtain ⟨h1, h2⟩ := List.getElem?_eq_some_iff.1 hq
  exact ⟨h, j, h1, h2, fun i hi => by rw [hb i _ hi (List.getElem?_eq_getElem (by omega))]; rfl⟩
theorem find_no {r : Rn} {idle : Nat} {l : List Int} (hb : ∀ (i : Nat) y, l[i]? = some y → both r idle y = false) : l.find? (both r idle) = none := by
  rw [List.find?_eq_none]
  intro y hy
  obtain ⟨i, hi⟩ := List.mem_iff_getElem?.1 hy
  rw [hb i y hi]
  decide
theorem near_in {r : Rn} {p q : Int} {j : Nat} (h : May r) (hq : (Dp.near r.tree p)[j]? = some q) : ∃ k : Nat, q = k ∧ k < r.rings.length := by
  have hp := procs_of h
  by_cases hr : p < 0 ∨ (Dp.procsN r.tree : Int) ≤ p
  · rw [Dp.near_out hr] at hq; cases hq
  · obtain ⟨a, b, _⟩ := (Dp.mem_near (by omega) (by omega)).1 (List.mem_of_getElem? hq)
    exact ⟨q.toNat, by omega, by omega⟩
theorem near_few {r : Rn} {p : Int} (h : May r) : (Dp.near r.tree p).length ≤ 3 * r.rings.length := by
  by_cases hr : p < 0 ∨ (Dp.procsN r.tree : Int) ≤ p
  · rw [Dp.near_out hr]; simp
  · rw [Dp.near_in hr, ← procs_of h]; exact Dp.nearTo_le _ _ 3
/-- Where a wake ends. -/
inductive Woken (r : Rn) (idle : Nat) (k : Nat) : Int → Prop
  | self (hb : both r idle k = true) : Woken r idle k k
  | near (q j : Nat) (hk : both r idle k = false) (hq : (Dp.near r.tree k)[j]? = some (q : Int)) (hl : q < r.rings.length) (hne : q ≠ k) (hb : both r idle q = true) (h0 : ∀ (i : Nat) y, i < j → (Dp.near r.tree k)[i]? = some y → both r idle y = false) : Woken r idle k q
  | none (hk : both r idle k = false) (h0 : ∀ y ∈ Dp.near r.tree k, both r idle y = false) : Woken r idle k (-1)
theorem woken {r : Rn} (h : May r) {k : Nat} (hk : k < r.rings.length) (idle : Nat) : Woken r idle k (wake r idle k) := by
  have hp := procs_of h
  have hin : May r ∧ (0 : Int) ≤ (k : Int) ∧ (k : Int) < r.rings.length := ⟨h, by omega, by omega⟩
  cases hb : both r idle k with
  | true => rw [wake_self hin hb]; exact .self hb
  | false =>
    rw [wake_near hin hb]
    cases hf : (Dp.near r.tree k).find? (both r idle) with
    | none =>
      rw [List.find?_eq_none] at hf
      exact .none hb (fun y hy => by have := hf y hy; simpa using this)
    | some q =>
      obtain ⟨h1, j, h2, h3, h4⟩ := List.find?_eq_some_iff_getElem.1 hf
      have hq : (Dp.near r.tree k)[j]? = some q := by rw [List.getElem?_eq_getElem h2, h3]
      obtain ⟨a, b, c⟩ := (Dp.mem_near (by omega) (by rw [hp]; omega)).1 (List.mem_of_getElem? hq)
      obtain ⟨q', rfl⟩ : ∃ q' : Nat, q = q' := ⟨q.toNat, by omega⟩
      refine .near q' j hb hq (by omega) (by omega) h1 (fun i y hi hy => ?_)
      obtain ⟨h5, h6⟩ := List.getElem?_eq_some_iff.1 hy
      have := h4 i hi
      rw [h6] at this
      simpa using this
theorem onP_has (r : Rn) (q : Int) : onP r q = Zp.has r.on q := by
  rw [Zp.has_mem]
  unfold onP
  rw [Bool.eq_iff_iff, decide_eq_true_iff, has_iff]
theorem both_lt {r : Rn} (h : May r) {idle : Nat} {q : Int} (hb : both r idle q = true) : ∃ k : Nat, q = k ∧ k < r.rings.length := by
  unfold both at hb
  rw [Bool.and_eq_true] at hb
  have hm := has_iff.1 hb.2
  have h1 := Zp.mem_in hm
  have h2 := h.few q hm
  exact ⟨q.toNat, by omega, by omega⟩
theorem both_and (r : Rn) (idle : Nat) (q : Int) : both r idle q = Zp.has (idle &&& r.on) q := by
  unfold both
  rw [onP_has]
  by_cases h : q < 0 ∨ 64 ≤ q
  · rw [Zp.has_out _ _ h, Zp.has_out _ _ h, Zp.has_out _ _ h]; rfl
  · obtain ⟨k, rfl⟩ : ∃ k : Nat, q = k := ⟨q.toNat, by omega⟩
    rw [Zp.has_bit, Zp.has_bit, Zp.has_bit, Nat.testBit_and]
    have : k < 64 := by omega
    simp [this]
/-- Somebody is both, just if the numbers of both have a bit. -/
theorem some_both {r : Rn} {idle : Nat} (hi : idle < 18446744073709551616) : idle &&& r.on ≠ 0 ↔ ∃ q : Int, both r idle q = true := by
  constructor
  · intro h
    have hl : idle &&& r.on < 18446744073709551616 := Zp.and_lt hi
    obtain ⟨h1, h2, _⟩ := Zp.ctz_bits h hl
    exact ⟨(Lib.ctz 64 (idle &&& r.on) : Nat), by rw [both_and, Zp.has_bit, h2]; simp [h1]⟩
  · rintro ⟨q, hq⟩ h0
    rw [both_and, h0] at hq
    unfold Zp.has at hq
    simp at hq
/-- Nobody who is both is nearer than who is woken. -/
theorem Woken.nearest {r : Rn} {idle k : Nat} {q : Int} (h : Woken r idle k q) (hm : May r) (hk : k < r.rings.length) {o : Nat} (ho : both r idle o = true) : Dp.far r.tree k q ≤ Dp.far r.tree k o ∧ q ≠ -1 := by
  have hp := procs_of hm
  obtain ⟨o', ho', hol⟩ := both_lt hm ho
  have hoo : o < r.rings.length := by omega
  cases h with
  | self hb =>
    refine ⟨?_, by omega⟩
    by_cases e : o = k
    · subst e; exact Int.le_refl _
    · have h1 := Dp.far_ne_zero (vs := r.tree) (p := k) (z := o) (by omega) (by rw [hp]; omega) (by omega) (by rw [hp]; omega) (by omega)
      have h2 : Dp.far r.tree k k = 0 := by rw [Dp.far_in (by rw [hp]; omega), Dp.farV_self]
      omega
  | near q j hk' hq hl hne hb h0 =>
    refine ⟨?_, by omega⟩
    have hok : (o : Int) ≠ k := fun e => by rw [e, hk'] at ho; cases ho
    have hmem := (Dp.mem_near (vs := r.tree) (p := k) (z := o) (by omega) (by rw [hp]; omega)).2 ⟨by omega, by rw [hp]; omega, hok⟩
    obtain ⟨i, hi⟩ := List.mem_iff_getElem?.1 hmem
    have hji : j ≤ i := by
      apply Nat.le_of_not_lt
      intro hlt
      rw [h0 i _ hlt hi] at ho
      cases ho
    by_cases e : j = i
    · subst e
      rw [hq] at hi
      injection hi with hi
      rw [hi]
      exact Int.le_refl _
    · have hpw := (Dp.nearTo_pair (vs := r.tree) (p := k) (by omega) (by rw [hp]; omega) 3).1
      rw [← Dp.near_in (by rw [hp]; omega)] at hpw
      obtain ⟨h5, h6⟩ := List.getElem?_eq_some_iff.1 hq
      obtain ⟨h7, h8⟩ := List.getElem?_eq_some_iff.1 hi
      have := List.pairwise_iff_getElem.1 hpw j i h5 h7 (by omega)
      rw [h6, h8] at this
      exact this.2
  | none hk' h0 =>
    have hok : (o : Int) ≠ k := fun e => by rw [e, hk'] at ho; cases ho
    have hmem := (Dp.mem_near (vs := r.tree) (p := k) (z := o) (by omega) (by rw [hp]; omega)).2 ⟨by omega, by rw [hp]; omega, hok⟩
    rw [h0 _ hmem] at ho
    cases ho
theorem Woken.both {r : Rn} {idle k : Nat} {q : Int} (h : Woken r idle k q) : q = -1 ∨ ∃ j : Nat, q = j ∧ Jp.both r idle j = true := by
  cases h with
  | self hb => exact .inr ⟨k, rfl, hb⟩
  | near q j hk' hq hl hne hb h0 => exact .inr ⟨q, rfl, hb⟩
  | none => exact .inl rfl
theorem has_wth {x : Nat} (hx : x < 18446744073709551616) (n z : Int) : Zp.has (Zp.wth x n) z = (Zp.has x z || decide (z = n ∧ 0 ≤ z ∧ z < 64)) := by
  by_cases h : z < 0 ∨ 64 ≤ z
  · rw [Zp.has_out _ _ h, Zp.has_out _ _ h, decide_eq_false (by omega)]; rfl
  · obtain ⟨k, rfl⟩ : ∃ k : Nat, z = k := ⟨z.toNat, by omega⟩
    rw [Zp.has_bit, Zp.has_bit, Zp.wth_bit]
    have h1 : k < 64 := by omega
    rw [decide_eq_true h1, Bool.true_and, Bool.true_and]
    congr 1
    rw [decide_eq_decide]
    omega
theorem has_wout {x : Nat} (hx : x < 18446744073709551616) (n z : Int) : Zp.has (Zp.wout x n) z = (Zp.has x z && !decide (z = n)) := by
  by_cases h : z < 0 ∨ 64 ≤ z
  · rw [Zp.has_out _ _ h, Zp.has_out _ _ h]; rfl
  · obtain ⟨k, rfl⟩ : ∃ k : Nat, z = k := ⟨z.toNat, by omega⟩
    rw [Zp.has_bit, Zp.has_bit, Zp.wout_bit hx, Bool.and_assoc]
theorem both_wth {r : Rn} {idle : Nat} (hi : idle < 18446744073709551616) {n z : Int} (hne : z ≠ n) : both r (Zp.wth idle n) z = both r idle z := by
  unfold both
  rw [has_wth hi, decide_eq_false (fun h => hne h.1), Bool.or_false]
theorem both_wout {r : Rn} {idle : Nat} (hi : idle < 18446744073709551616) {n z : Int} (hne : z ≠ n) : both r (Zp.wout idle n) z = both r idle z := by
  unfold both
  rw [has_wout hi, decide_eq_false hne, Bool.not_false, Bool.and_true]
/-- With one no more idle, or idle for certain. -/
theorem wake_with {r : Rn} (h : May r) {k : Nat} (hk : k < r.rings.length) (h64 : r.rings.length ≤ 64) {idle : Nat} (hi : idle < 18446744073709551616) :
    (wake r (Zp.wth idle k) k = k ↔ onP r k = true) ∧ wake r (Zp.wout idle k) k ≠ k ∧ (wake r (Zp.wth idle k) k = k ∨ wake r (Zp.wth idle k) k = wake r (Zp.wout idle k) k) := by
  have hp := procs_of h
  have hin : May r ∧ (0 : Int) ≤ (k : Int) ∧ (k : Int) < r.rings.length := ⟨h, by omega, by omega⟩
  have e1 : both r (Zp.wth idle k) k = onP r k := by unfold both; rw [has_wth hi, decide_eq_true ⟨rfl, by omega, by omega⟩, Bool.or_true, Bool.true_and]
  have e2 : both r (Zp.wout idle k) k = false := by unfold both; rw [has_wout hi, decide_eq_true rfl, Bool.not_true, Bool.and_false, Bool.false_and]
  have near : ∀ y ∈ Dp.near r.tree k, y ≠ (k : Int) := fun y hy => ((Dp.mem_near (by omega) (by rw [hp]; omega)).1 hy).2.2
  have far : ∀ x : Nat, ((Dp.near r.tree k).find? (both r x)).getD (-1) ≠ (k : Int) := fun x e => by
    cases hf : (Dp.near r.tree k).find? (both r x) with
    | none => rw [hf] at e; simp only [Option.getD_none] at e; omega
    | some q => rw [hf] at e; exact near q (List.mem_of_find?_eq_some hf) e
  have same : (Dp.near r.tree k).find? (both r (Zp.wth idle k)) = (Dp.near r.tree k).find? (both r (Zp.wout idle k)) := by
    have : ∀ l : List Int, (∀ y ∈ l, y ≠ (k : Int)) → l.find? (both r (Zp.wth idle k)) = l.find? (both r (Zp.wout idle k)) := fun l hl => by
      induction l with
      | nil => rfl
      | cons y l ih =>
        have hy := hl y (List.mem_cons_self ..)
        rw [List.find?_cons, List.find?_cons, both_wth hi hy, both_wout hi hy, ih (fun z hz => hl z (List.mem_cons_of_mem _ hz))]
    exact this _ near
  refine ⟨⟨fun h1 => ?_, fun h1 => wake_self hin (by rw [e1]; exact h1)⟩, ?_, ?_⟩
  · cases ho : onP r k with
    | true => rfl
    | false =>
      rw [wake_near hin (by rw [e1]; exact ho)] at h1
      exact absurd h1 (far _)
  · rw [wake_near hin e2]
    exact far _
  · cases ho : onP r k with
    | true => exact .inl (wake_self hin (by rw [e1]; exact ho))
    | false => exact .inr (by rw [wake_near hin (by rw [e1]; exact ho), wake_near hin e2, same])
/-- Of Runs that may be: the first one of p and of those near it that is both, whatever p is. -/
theorem wake_row {r : Rn} (h : May r) (idle : Nat) (p : Int) : wake r idle p = ((p :: Dp.near r.tree p).find? (both r idle)).getD (-1) := by
  by_cases hin : 0 ≤ p ∧ p < r.rings.length
  · rw [List.find?_cons]
    cases hb : both r idle p with
    | true => rw [wake_self ⟨h, hin⟩ hb]; rfl
    | false => rw [wake_near ⟨h, hin⟩ hb]
  · have hp := procs_of h
    rw [wake_no (fun h' => hin h'.2), Dp.near_out (by rw [hp]; omega), List.find?_cons]
    cases hb : both r idle p with
    | true =>
      obtain ⟨k, hk, hl⟩ := both_lt h hb
      exact absurd ⟨by omega, by omega⟩ hin
    | false => rfl
/-- Who is idle, and who is plugged, as the two numbers of a row. -/
def two (a b k : Nat) : Nat := if k = 0 then a else b
theorem two_both {r : Rn} {idle : Nat} {q : Int} (h : ∀ k, k < 2 → Zp.has (two idle r.on k) q = true) : both r idle q = true := by
  have h0 := h 0 (by decide)
  have h1 := h 1 (by decide)
  unfold two at h0 h1
  rw [if_pos rfl] at h0
  rw [if_neg (by decide)] at h1
  unfold both
  rw [onP_has, h0, h1]
  rfl
theorem two_not {r : Rn} {idle k : Nat} {q : Int} (hk : k < 2) (h : Zp.has (two idle r.on k) q = false) : both r idle q = false := by
  unfold both
  rw [onP_has]
  unfold two at h
  by_cases e : k = 0
  · rw [if_pos e] at h
    rw [h]
    rfl
  · rw [if_neg e] at h
    rw [h, Bool.and_false]
end Go.Proofs.YtcoccegmkcdeiaaDoor.Jp


/- Processors plugged and unplugged, in plain mathematics. -/
namespace Go.Proofs.YtcoccegmkcdeiaaDoor.Jp
set_option linter.unusedVariables false

def plugged (r : Rn) (p : Int) : Rn := { r with on := Zp.wth r.on p }
open Classical in
noncomputable def plug (r : Rn) (p : Int) : Rn × Int :=
  if ¬ May r ∨ p < 0 ∨ (r.rings.length : Int) ≤ p then (r, 1) else if onP r p = true then (r, 5) else (plugged r p, 0)
/-- Who goes into the row: who ran, and who stood in the ring. -/
def left (r : Rn) (p : Nat) (cur : Int) : List Int := (if cur = 0 then [] else [cur]) ++ Rp.all (ringAt r p)
def gone (r : Rn) (p : Nat) (cur : Int) : Rn :=
  { rowed (ringed r p (0, [])) (nodeOf r p) (rowAt r (nodeOf r p) ++ left r p cur) with on := Zp.wout r.on p }
open Classical in
noncomputable def unplug (r : Rn) (p cur : Int) : Rn × Int :=
  if ¬ May r ∨ p < 0 ∨ (r.rings.length : Int) ≤ p ∨ cur < 0 then (r, 1)
  else if onP r p = false then (r, 4)
  else if (Zp.mem r.on).length < 2 then (r, 6)
  else if cur ≠ 0 ∧ Tp.has (all r) cur = true then (r, 5) else (gone r p.toNat cur, 0)

/-! ### What they tell -/
theorem plug_arg {r : Rn} {p : Int} (h : ¬ May r ∨ p < 0 ∨ (r.rings.length : Int) ≤ p) : plug r p = (r, 1) := by unfold plug; rw [if_pos h]
theorem plug_there {r : Rn} {p : Int} (h : ¬ (¬ May r ∨ p < 0 ∨ (r.rings.length : Int) ≤ p)) (h1 : onP r p = true) : plug r p = (r, 5) := by unfold plug; rw [if_neg h, if_pos h1]
theorem plug_done {r : Rn} {p : Int} (h : ¬ (¬ May r ∨ p < 0 ∨ (r.rings.length : Int) ≤ p)) (h1 : onP r p = false) : plug r p = (plugged r p, 0) := by unfold plug; rw [if_neg h, if_neg (by rw [h1]; decide)]
theorem unplug_arg {r : Rn} {p cur : Int} (h : ¬ May r ∨ p < 0 ∨ (r.rings.length : Int) ≤ p ∨ cur < 0) : unplug r p cur = (r, 1) := by unfold unplug; rw [if_pos h]
theorem unplug_none {r : Rn} {p cur : Int} (h : ¬ (¬ May r ∨ p < 0 ∨ (r.rings.length : Int) ≤ p ∨ cur < 0)) (h1 : onP r p = false) : unplug r p cur = (r, 4) := by unfold unplug; rw [if_neg h, if_pos h1]
theorem unplug_last {r : Rn} {p cur : Int} (h : ¬ (¬ May r ∨ p < 0 ∨ (r.rings.length : Int) ≤ p ∨ cur < 0)) (h1 : onP r p = true) (h2 : (Zp.mem r.on).length < 2) : unplug r p cur = (r, 6) := by
  unfold unplug; rw [if_neg h, if_neg (by rw [h1]; decide), if_pos h2]
theorem unplug_there {r : Rn} {p cur : Int} (h : ¬ (¬ May r ∨ p < 0 ∨ (r.rings.length : Int) ≤ p ∨ cur < 0)) (h1 : onP r p = true) (h2 : ¬ (Zp.mem r.on).length < 2) (h3 : cur ≠ 0 ∧ Tp.has (all r) cur = true) : unplug r p cur = (r, 5) := by
  unfold unplug; rw [if_neg h, if_neg (by rw [h1]; decide), if_neg h2, if_pos h3]
theorem unplug_done {r : Rn} {p : Nat} {cur : Int} (h : ¬ (¬ May r ∨ (p : Int) < 0 ∨ (r.rings.length : Int) ≤ p ∨ cur < 0)) (h1 : onP r p = true) (h2 : ¬ (Zp.mem r.on).length < 2) (h3 : ¬ (cur ≠ 0 ∧ Tp.has (all r) cur = true)) : unplug r p cur = (gone r p cur, 0) := by
  unfold unplug; rw [if_neg h, if_neg (by rw [h1]; decide), if_neg h2, if_neg h3]; rfl
theorem plug_no {r : Rn} {p : Int} (h : (plug r p).2 ≠ 0) : (plug r p).1 = r := by
  unfold plug at h ⊢
  split
  · rfl
  · split
    · rfl
    · rename_i h1 h2
      rw [if_neg h1, if_neg h2] at h
      exact absurd rfl h
theorem unplug_no {r : Rn} {p cur : Int} (h : (unplug r p cur).2 ≠ 0) : (unplug r p cur).1 = r := by
  unfold unplug at h ⊢
  split
  · rfl
  · split
    · rfl
    · split
      · rfl
      · split
        · rfl
        · rename_i h1 h2 h3 h4
          rw [if_neg h1, if_neg h2, if_neg h3, if_neg h4] at h
          exact absurd rfl h
theorem plug_yes {r : Rn} {p : Int} (h : (plug r p).2 = 0) : May r ∧ 0 ≤ p ∧ p < r.rings.length ∧ onP r p = false ∧ plug r p = (plugged r p, 0) := by
  by_cases h1 : ¬ May r ∨ p < 0 ∨ (r.rings.length : Int) ≤ p
  · rw [plug_arg h1] at h; cases h
  · cases h2 : onP r p with
    | true => rw [plug_there h1 h2] at h; cases h
    | false => exact ⟨Classical.not_not.1 (fun e => h1 (.inl e)), by omega, by omega, rfl, plug_done h1 h2⟩
theorem unplug_yes {r : Rn} {p cur : Int} (h : (unplug r p cur).2 = 0) : May r ∧ 0 ≤ p ∧ p < r.rings.length ∧ 0 ≤ cur ∧ onP r p = true ∧ 2 ≤ (Zp.mem r.on).length ∧ (cur = 0 ∨ cur ∉ all r) ∧ unplug r p cur = (gone r p.toNat cur, 0) := by
  by_cases h1 : ¬ May r ∨ p < 0 ∨ (r.rings.length : Int) ≤ p ∨ cur < 0
  · rw [unplug_arg h1] at h; cases h
  · cases h2 : onP r p with
    | false => rw [unplug_none h1 h2] at h; cases h
    | true =>
      by_cases h3 : (Zp.mem r.on).length < 2
      · rw [unplug_last h1 h2 h3] at h; cases h
      · by_cases h4 : cur ≠ 0 ∧ Tp.has (all r) cur = true
        · rw [unplug_there h1 h2 h3 h4] at h; cases h
        · obtain ⟨k, rfl⟩ : ∃ k : Nat, p = k := ⟨p.toNat, by omega⟩
          refine ⟨Classical.not_not.1 (fun e => h1 (.inl e)), by omega, by omega, by omega, rfl, by omega, ?_, unplug_done h1 h2 h3 h4⟩
          by_cases e : cur = 0
          · exact .inl e
          · exact .inr (has_no.1 (by cases e2 : Tp.has (all r) cur with | false => rfl | true => exact absurd ⟨e, e2⟩ h4))

/-! ### Who is plugged then -/
theorem onP_wth {r : Rn} (hr : r.on < 18446744073709551616) {p q : Int} : onP (plugged r p) q = (onP r q || decide (q = p ∧ 0 ≤ q ∧ q < 64)) := by
  rw [onP_has, onP_has]; exact has_wth hr p q
theorem onP_gone {r : Rn} (hr : r.on < 18446744073709551616) {p : Nat} {q cur : Int} : onP (gone r p cur) q = (onP r q && !decide (q = (p : Int))) := by
  rw [onP_has, onP_has]; exact has_wout hr p q
theorem wout_wth {x : Nat} (hx : x < 18446744073709551616) {p : Nat} (h : Zp.has x (p : Int) = true) : Zp.wth (Zp.wout x p) p = x := by
  rw [Zp.has_bit, Bool.and_eq_true, decide_eq_true_iff] at h
  refine Zp.ext64 (Zp.wth_lt (Zp.wout_lt hx _) _) hx fun i hi => ?_
  rw [Zp.wth_bit, Zp.wout_bit hx]
  by_cases e : (i : Int) = (p : Int)
  · obtain rfl : i = p := by omega
    rw [h.2]
    simp [hi]
  · simp [e]
theorem mem_out {x : Nat} (hx : x < 18446744073709551616) (p z : Int) : z ∈ Zp.mem (Zp.wout x p) ↔ z ∈ Zp.mem x ∧ z ≠ p := by
  rw [Zp.mem_wout hx]
  unfold Zp.outL
  rw [List.mem_filter, bne_iff_ne]
theorem out_some {x : Nat} (hx : x < 18446744073709551616) {p : Int} (h : 2 ≤ (Zp.mem x).length) : Zp.mem (Zp.wout x p) ≠ [] := by
  intro e
  have h1 := Zp.mem_rises x
  match hm : Zp.mem x, h, h1 with
  | a :: b :: t, _, h1 =>
    have hlt : a < b := (List.pairwise_cons.1 h1).1 b (by simp)
    have no : ∀ z, z ∈ Zp.mem x → z = p := fun z hz => by
      by_cases e2 : z = p
      · exact e2
      · have := (mem_out hx p z).2 ⟨hz, e2⟩
        rw [e] at this
        cases this
    have ha := no a (by rw [hm]; simp)
    have hb := no b (by rw [hm]; simp)
    omega
/-! ### Nothing is lost; what may be stays so -/
theorem all_plugged (r : Rn) (p : Int) : all (plugged r p) = all r := rfl
theorem plugged_may {r : Rn} (h : May r) {p : Int} (hp : 0 ≤ p ∧ p < r.rings.length) (hr : r.on < 18446744073709551616) : May (plugged r p) := by
  have hm : ∀ z, z ∈ Zp.mem (Zp.wth r.on p) → z ∈ Zp.mem r.on ∨ z = p := fun z hz => by
    rw [Zp.mem_wth, Zp.mem_withL (Zp.mem_rises _)] at hz
    rcases hz with hz | ⟨hz, _⟩
    · exact .inl hz
    · exact .inr hz
  have hm2 : ∀ z, z ∈ Zp.mem r.on → z ∈ Zp.mem (Zp.wth r.on p) := fun z hz => by
    rw [Zp.mem_wth, Zp.mem_withL (Zp.mem_rises _)]
    exact .inl hz
  refine ⟨h.tree, h.low, h.high, h.rings, h.rows, ?_, fun z hz => ?_, fun q x hx => ?_, h.once⟩
  · obtain ⟨z, hz⟩ := List.exists_mem_of_ne_nil _ h.some
    exact List.ne_nil_of_mem (hm2 z hz)
  · rcases hm z hz with hz | rfl
    · exact h.few z hz
    · exact hp.2
  · refine ⟨(h.ring q x hx).1, ?_⟩
    rcases (h.ring q x hx).2 with h1 | h1
    · exact .inl h1
    · exact .inr (by rw [onP_wth hr, h1]; rfl)
theorem perm_gone {r : Rn} {p : Nat} {cur : Int} (hp : p < r.rings.length) (hn : nodeOf r p < r.rows.length) : (all (gone r p cur)).Perm (all r ++ if cur = 0 then [] else [cur]) := by
  obtain ⟨x, hx⟩ : ∃ x, r.rings[p]? = some x := ⟨_, List.getElem?_eq_getElem hp⟩
  obtain ⟨l, hl⟩ : ∃ l, r.rows[nodeOf r p]? = some l := ⟨_, List.getElem?_eq_getElem hn⟩
  rw [List.perm_iff_count]
  intro z
  have e1 : ringAt r p = x := by unfold ringAt; rw [hx]; rfl
  have e2 : rowAt r (nodeOf r p) = l := by unfold rowAt; rw [hl]; rfl
  have h1 := count_set (l := r.rings.map Rp.all) (k := p) (a := Rp.all x) (by rw [List.getElem?_map, hx]; rfl) (Rp.all (0, [])) z
  have h2 := count_set hl (l ++ ((if cur = 0 then [] else [cur]) ++ Rp.all x)) z
  have h3 : (Rp.all ((0 : Int), ([] : List Int))).count z = 0 := by rfl
  unfold all gone left rowed ringed
  rw [e1, e2]
  simp only [map_set', List.count_append] at h1 h2 h3 ⊢
  omega
theorem gone_rings (r : Rn) (p : Nat) (cur : Int) : (gone r p cur).rings = r.rings.set p (0, []) := rfl
theorem gone_rows (r : Rn) (p : Nat) (cur : Int) : (gone r p cur).rows = r.rows.set (nodeOf r p) (rowAt r (nodeOf r p) ++ left r p cur) := rfl
theorem gone_may {r : Rn} (h : May r) {p : Nat} (hp : p < r.rings.length) (hr : r.on < 18446744073709551616) {cur : Int} (hc : 0 ≤ cur) (hn : cur = 0 ∨ cur ∉ all r) (h2 : 2 ≤ (Zp.mem r.on).length) : May (gone r p cur) := by
  have hpm := perm_gone (cur := cur) hp (node_lt h hp)
  have honce : Rp.Once (all (gone r p cur)) := by
    refine Rp.Once.perm (a := all r ++ if cur = 0 then [] else [cur]) ?_ hpm.symm
    by_cases e : cur = 0
    · rw [if_pos e, List.append_nil]; exact h.once
    · rw [if_neg e]
      exact Rp.Once.snoc h.once (by omega) (hn.resolve_left e)
  have hs := h.low
  refine ⟨h.tree, h.low, h.high, by rw [gone_rings, List.length_set]; exact h.rings, by rw [gone_rows, List.length_set]; exact h.rows, out_some hr h2, fun z hz => ?_, fun q x hx => ?_, honce⟩
  · rw [gone_rings, List.length_set]
    exact h.few z ((mem_out hr p z).1 hz).1
  · rw [gone_rings] at hx
    by_cases e : p = q
    · subst e
      rw [List.getElem?_set_self hp] at hx
      injection hx with hx
      subst hx
      exact ⟨may_of h.low (by simp) (by exact ⟨fun x hx => (by cases hx), List.nodup_nil⟩), .inl rfl⟩
    · rw [List.getElem?_set_ne e] at hx
      refine ⟨(h.ring q x hx).1, ?_⟩
      rcases (h.ring q x hx).2 with h1 | h1
      · exact .inl h1
      · exact .inr (by rw [onP_gone hr, h1, decide_eq_false (by omega)]; rfl)
theorem plug_may {r : Rn} (h : May r) (hr : r.on < 18446744073709551616) (p : Int) : May (plug r p).1 := by
  by_cases e : (plug r p).2 = 0
  · obtain ⟨_, h1, h2, _, h3⟩ := plug_yes e
    rw [h3]
    exact plugged_may h ⟨h1, h2⟩ hr
  · rw [plug_no e]; exact h
theorem unplug_may {r : Rn} (h : May r) (hr : r.on < 18446744073709551616) (p cur : Int) : May (unplug r p cur).1 := by
  by_cases e : (unplug r p cur).2 = 0
  · obtain ⟨_, h1, h2, h3, _, h4, h5, h6⟩ := unplug_yes e
    rw [h6]
    exact gone_may h (by omega) hr h3 h5 h4
  · rw [unplug_no e]; exact h
/-! ### Unplugged and plugged again -/
theorem back {r : Rn} (h : May r) {p : Nat} (hp : p < r.rings.length) (hr : r.on < 18446744073709551616) (ho : onP r p = true) (h2 : 2 ≤ (Zp.mem r.on).length) :
    plug (gone r p 0) p = ({ gone r p 0 with on := r.on }, 0) ∧ unplug (gone r p 0) p 0 = (gone r p 0, 4) := by
  have hm := gone_may (cur := 0) h hp hr (by decide) (.inl rfl) h2
  have hl : (gone r p 0).rings.length = r.rings.length := by rw [gone_rings, List.length_set]
  have hf : onP (gone r p 0) p = false := by rw [onP_gone hr, decide_eq_true rfl]; simp
  refine ⟨?_, unplug_none (by rintro (h1 | h1 | h1 | h1) <;> first | exact h1 hm | omega) hf⟩
  rw [plug_done (by rintro (h1 | h1 | h1) <;> first | exact h1 hm | omega) hf]
  unfold plugged
  rw [show (gone r p 0).on = Zp.wout r.on p from rfl, wout_wth hr (by rw [← onP_has]; exact ho)]
/-- Who ran stands in the row of the processor's node. -/
theorem gone_where {r : Rn} (h : May r) {p : Nat} (hp : p < r.rings.length) {cur : Int} (hc : 1 ≤ cur) (hn : cur ∉ all r) : whr (gone r p cur) cur = (-1, (nodeOf r p : Int)) := by
  have hnl := node_lt h hp
  obtain ⟨l, hl⟩ : ∃ l, r.rows[nodeOf r p]? = some l := ⟨_, List.getElem?_eq_getElem hnl⟩
  refine whr_row (l := rowAt r (nodeOf r p) ++ left r p cur) (fun y hy => ?_) ?_ ?_ (fun j hj y hy => ?_)
  · rw [gone_rings] at hy
    rw [has_no]
    rcases List.mem_or_eq_of_mem_set hy with hy | rfl
    · exact fun hg => hn (mem_all.2 (.inl ⟨y, hy, hg⟩))
    · exact fun hg => by cases hg
  · rw [gone_rows, List.getElem?_set_self hnl]
  · rw [has_iff]
    refine List.mem_append_right _ (List.mem_append_left _ ?_)
    rw [if_neg (by omega)]
    exact List.mem_singleton.2 rfl
  · rw [gone_rows, List.getElem?_set_ne (by omega)] at hy
    rw [has_no]
    exact fun hg => hn (mem_all.2 (.inr ⟨y, List.mem_of_getElem? hy, hg⟩))
end Go.Proofs.YtcoccegmkcdeiaaDoor.Jp

