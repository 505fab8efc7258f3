/- Programs that may be, one instruction turned: where they go wrong; plain mathematics. -/
import Derived.Test.YtejhlenckdkonaaDoorCCheck
namespace Go.Proofs.YtejhlenckdkonaaDoor.Cp
set_option linter.unusedVariables false

theorem check_ok {ps : List (List Ins)} {sems boxes : Int} {a b : Int} (h : check ps sems boxes = (a, b, 0)) :
    (0 ≤ sems ∧ sems ≤ 4 ∧ 0 ≤ boxes ∧ boxes ≤ 4) ∧ (1 ≤ ps.length ∧ ps.length ≤ 8) ∧ ∀ (i : Nat) l, ps[i]? = some l → bad l sems boxes ps.length = none := by
  have neq : ∀ (l : List Ins) (p : Int) y, bad l sems boxes p = some y → y.2 ≠ 0 := by
    intro l p y h
    unfold bad at h
    split at h
    · injection h with h; subst h; decide
    · split at h
      · injection h with h; subst h; simp
      · split at h
        · injection h with h; subst h; simp
        · cases h
  unfold check at h
  split at h
  · simp at h
  · split at h
    · simp at h
    · rename_i h1 h2
      refine ⟨by omega, by omega, fun i l hi => ?_⟩
      cases hb : bad l sems boxes ps.length with
      | none => rfl
      | some y =>
        exfalso
        cases hF : badF ps sems boxes ps.length with
        | none =>
          have : ∀ k, k ≤ ps.length → badF ps sems boxes k = none := by
            intro k hk
            cases hk' : badF ps sems boxes k with
            | none => rfl
            | some r => rw [badF_some hk' hk] at hF; cases hF
          have hil := (List.getElem?_eq_some_iff.1 hi).1
          have h3 := this (i + 1) hil
          rw [badF_succ, this i (by omega), Option.none_or, List.getD_eq_getElem?_getD, hi] at h3
          simp [hb] at h3
        | some r =>
          rw [hF] at h
          unfold badF at hF
          obtain ⟨j, hj, hjr⟩ := List.exists_of_findSome?_eq_some hF
          obtain ⟨y', hy', e⟩ := Option.map_eq_some_iff.1 hjr
          subst e
          simp only [Option.getD_some, Prod.mk.injEq] at h
          exact neq _ _ _ hy' h.2.2
theorem bad_ok {l : List Ins} {sems boxes progs : Int} (h : bad l sems boxes progs = none) : 1 ≤ l.length ∧ l.length ≤ 32 ∧ (∀ x ∈ l, may x sems boxes progs l.length = true) := by
  unfold bad at h
  split at h
  · cases h
  · split at h
    · cases h
    · rename_i h1 h2
      refine ⟨by omega, by omega, fun x hx => ?_⟩
      cases hm : may x sems boxes progs l.length with
      | true => rfl
      | false => exact absurd (List.findIdx_lt_length_of_exists ⟨x, hx, by rw [hm]; rfl⟩) h2
theorem check_set {ps : List (List Ins)} {sems boxes : Int} {i : Nat} {l' : List Ins} {y : Int × Int} (h1 : 0 ≤ sems ∧ sems ≤ 4 ∧ 0 ≤ boxes ∧ boxes ≤ 4) (h2 : 1 ≤ ps.length ∧ ps.length ≤ 8) (h3 : ∀ (i : Nat) l, ps[i]? = some l → bad l sems boxes ps.length = none)
    (hi : i < ps.length) (hb : bad l' sems boxes ps.length = some y) : check (ps.set i l') sems boxes = ((i : Int), y.1, y.2) := by
  have hl : (ps.set i l').length = ps.length := List.length_set
  unfold check
  rw [if_neg (by omega), hl, if_neg (by omega)]
  have none_ : ∀ k, k ≤ i → badF (ps.set i l') sems boxes k = none := by
    intro k
    induction k with
    | zero => intro _; rfl
    | succ k ih =>
      intro hk
      rw [badF_succ, ih (by omega), Option.none_or, hl, List.getD_eq_getElem?_getD, List.getElem?_set_ne (by omega)]
      obtain ⟨l, hl'⟩ : ∃ l, ps[k]? = some l := ⟨_, List.getElem?_eq_getElem (by omega)⟩
      rw [hl', Option.getD_some, h3 k l hl']; rfl
  have hF : badF (ps.set i l') sems boxes (i + 1) = some ((i : Int), y.1, y.2) := by
    rw [badF_succ, none_ i (Nat.le_refl _), Option.none_or, hl, List.getD_eq_getElem?_getD, List.getElem?_set_self hi, Option.getD_some, hb]; rfl
  rw [badF_some hF (show i + 1 ≤ ps.length by omega)]; rfl
theorem may_big {op a sems boxes progs size : Int} (h : may (op, a) sems boxes progs size = true) (h1 : sems ≤ 4) (h2 : boxes ≤ 4) (h3 : progs ≤ 8) (h4 : size ≤ 32) : may (op, 2000) sems boxes progs size = false := by
  unfold may
  simp only
  split
  · simp
  · split
    · simp
    · rw [if_neg (by decide)]
      split
      · rfl
      · split
        · rfl
        · split
          · simp; omega
          · split
            · simp; omega
            · split
              · simp; omega
              · split
                · simp; omega
                · split
                  · simp; omega
                  · split
                    · simp; omega
                    · rfl
theorem bad_a {l : List Ins} {sems boxes progs : Int} {k : Nat} {x : Ins} (h : bad l sems boxes progs = none) (hx : l[k]? = some x) (h1 : sems ≤ 4) (h2 : boxes ≤ 4) (h3 : progs ≤ 8) : bad (l.set k (x.1, 2000)) sems boxes progs = some ((k : Int), 1) := by
  obtain ⟨g1, g2, g3⟩ := bad_ok h
  have hk := (List.getElem?_eq_some_iff.1 hx).1
  have hl : (l.set k (x.1, 2000)).length = l.length := List.length_set
  have hf : (l.set k (x.1, 2000)).findIdx (fun y => !may y sems boxes progs l.length) = k := by
    rw [List.findIdx_eq (by rw [hl]; exact hk)]
    constructor
    · simp only [List.getElem_set_self]
      rw [may_big (g3 x (List.mem_of_getElem? hx)) h1 h2 h3 (by omega)]; rfl
    · intro j hj
      simp only [List.getElem_set_ne (show k ≠ j by omega)]
      rw [g3 _ (List.getElem_mem _)]; rfl
  unfold bad
  rw [hl, if_neg (by omega), hf, if_pos hk]
theorem bad_b {l : List Ins} {sems boxes progs : Int} (h : bad l sems boxes progs = none) : bad (l.set (l.length - 1) (2, 0)) sems boxes progs = some ((l.length : Int) - 1, 2) := by
  obtain ⟨g1, g2, g3⟩ := bad_ok h
  have hl : (l.set (l.length - 1) (2, 0)).length = l.length := List.length_set
  have hn : ¬ (l.set (l.length - 1) (2, 0)).findIdx (fun y => !may y sems boxes progs l.length) < l.length := by
    intro hlt
    have := List.findIdx_getElem (w := by rw [hl]; exact hlt)
    rw [List.getElem_set] at this
    split at this
    · revert this; unfold may; simp
    · rw [g3 _ (List.getElem_mem _)] at this; cases this
  unfold bad
  rw [hl, if_neg (by omega), if_neg hn, List.getD_eq_getElem?_getD, List.getElem?_set_self (by omega), Option.getD_some, if_pos (by decide)]
theorem check_nil {sems boxes : Int} (h1 : 0 ≤ sems ∧ sems ≤ 4 ∧ 0 ≤ boxes ∧ boxes ≤ 4) : check [] sems boxes = (0, 0, 3) := by
  unfold check
  rw [if_neg (by omega), if_pos (.inl rfl)]
end Go.Proofs.YtejhlenckdkonaaDoor.Cp

