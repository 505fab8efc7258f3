/- Layer 9 in plain mathematics: the statuses' names, the steps, how far a row goes. -/
namespace Go.Proofs.Ytldehegoaofjnaa.Sp

def names : List (List UInt8) := [[105, 100, 108, 101], [114, 117, 110, 110, 97, 98, 108, 101], [114, 117, 110, 110, 105, 110, 103], [119, 97, 105, 116, 105, 110, 103], [100, 101, 97, 100]]
/-- Is it a status? -/
def ok (s : Int) : Bool := decide (0 ≤ s) && decide (s ≤ 4)
/-- A status' name. -/
def nm (s : Int) : List UInt8 := if 0 ≤ s ∧ s ≤ 4 then names.getD s.toNat [] else []
def steps : List (Int × Int) := [(0, 1), (1, 2), (2, 1), (2, 3), (2, 4), (3, 1), (4, 0)]
/-- Is there a step? -/
def may (a b : Int) : Bool := steps.contains (a, b)
def able (s : Int) : Bool := s == 1 || s == 2
/-- Stands a status at place i, and is there a step from it to the next one? -/
def good (zs : List Int) (i : Nat) : Bool := match zs[i]? with
  | none => false
  | some x => ok x && match zs[i + 1]? with
    | none => true
    | some y => may x y
/-- The first place at which it doesn't go on; how many there are, if there is none. -/
def stop (zs : List Int) : Nat := (List.range zs.length).findIdx fun i => !good zs i
def whole (zs : List Int) : Bool := decide (stop zs = zs.length)

theorem ok_iff {s : Int} : ok s = true ↔ 0 ≤ s ∧ s ≤ 4 := by unfold ok; simp
theorem nm_in {s : Int} (h : 0 ≤ s ∧ s ≤ 4) : nm s ∈ names := by
  unfold nm
  rw [if_pos h]
  have : s.toNat < names.length := by simp [names]; omega
  rw [List.getD_eq_getElem?_getD, List.getElem?_eq_getElem this]
  exact List.getElem_mem _
theorem nm_out {s : Int} (h : ¬ (0 ≤ s ∧ s ≤ 4)) : nm s = [] := if_neg h
theorem nm_ne {s : Int} (h : 0 ≤ s ∧ s ≤ 4) : nm s ≠ [] := by
  have h := nm_in h
  have all : ∀ s ∈ names, s ≠ [] := by decide
  exact all _ h
theorem nm_ok (s : Int) : decide (nm s = []) = !ok s := by
  by_cases h : 0 ≤ s ∧ s ≤ 4
  · rw [ok_iff.2 h, decide_eq_false (nm_ne h)]; rfl
  · rw [nm_out h, show ok s = false by rw [← Bool.not_eq_true, ok_iff]; exact h]; rfl
theorem nm_small (s : Int) : ∀ c ∈ nm s, 97 ≤ c ∧ c ≤ 122 := by
  by_cases h : 0 ≤ s ∧ s ≤ 4
  · have all : ∀ s ∈ names, ∀ c ∈ s, (97 : UInt8) ≤ c ∧ c ≤ 122 := by decide
    exact all _ (nm_in h)
  · rw [nm_out h]; intro c hc; cases hc
theorem nm_len (s : Int) : (nm s).length ≤ 8 := by
  by_cases h : 0 ≤ s ∧ s ≤ 4
  · have all : ∀ s ∈ names, s.length ≤ 8 := by decide
    exact all _ (nm_in h)
  · rw [nm_out h]; simp
theorem nm_at (k : Nat) (h : k < 5) : nm (k : Int) = names.getD k [] := by
  unfold nm
  rw [if_pos (by omega)]
  congr 1
theorem nm_one {a b : Int} (ha : 0 ≤ a ∧ a ≤ 4) (hb : 0 ≤ b ∧ b ≤ 4) (h : nm a = nm b) : a = b := by
  obtain ⟨i, rfl⟩ : ∃ i : Nat, a = (i : Int) := ⟨a.toNat, by omega⟩
  obtain ⟨j, rfl⟩ : ∃ j : Nat, b = (j : Int) := ⟨b.toNat, by omega⟩
  rw [nm_at i (by omega), nm_at j (by omega)] at h
  have all : ∀ i, i < 5 → ∀ j, j < 5 → names.getD i [] = names.getD j [] → i = j := by decide
  rw [all i (by omega) j (by omega) h]
theorem may_eq (a b : Int) : may a b = ((a == 0 && b == 1) || (a == 1 && b == 2) || (a == 2 && (b == 1 || b == 3 || b == 4)) || (a == 3 && b == 1) || (a == 4 && b == 0)) := by
  unfold may steps
  rw [Bool.eq_iff_iff]
  simp
  omega
theorem may_ok {a b : Int} (h : may a b = true) : (0 ≤ a ∧ a ≤ 4) ∧ (0 ≤ b ∧ b ≤ 4) := by
  rw [may_eq] at h
  simp at h
  omega
theorem good_at {zs : List Int} {i : Nat} {x y : Int} (hx : zs[i]? = some x) (hy : zs[i + 1]? = some y) : good zs i = (ok x && may x y) := by
  unfold good; simp only [hx, hy]
theorem good_last {zs : List Int} {i : Nat} {x : Int} (hx : zs[i]? = some x) (hy : zs[i + 1]? = none) : good zs i = ok x := by
  unfold good; simp only [hx, hy, Bool.and_true]
theorem stop_le (zs : List Int) : stop zs ≤ zs.length := by
  unfold stop
  have := List.findIdx_le_length (xs := List.range zs.length) (p := fun i => !good zs i)
  simpa using this
theorem stop_good {zs : List Int} {j : Nat} (h : j < stop zs) : good zs j = true := by
  have hl := stop_le zs
  have := List.not_of_lt_findIdx (xs := List.range zs.length) (p := fun i => !good zs i) (i := j) h
  simpa using this
theorem stop_bad {zs : List Int} (h : stop zs < zs.length) : good zs (stop zs) = false := by
  have hw : (List.range zs.length).findIdx (fun i => !good zs i) < (List.range zs.length).length := by rw [List.length_range]; exact h
  have := List.findIdx_getElem (p := fun i => !good zs i) (w := hw)
  simpa [stop] using this
theorem stop_eq {zs : List Int} {k : Nat} (hk : k ≤ zs.length) (h : ∀ j, j < k → good zs j = true) (hb : k < zs.length → good zs k = false) : stop zs = k := by
  rcases Nat.lt_trichotomy (stop zs) k with h1 | h1 | h1
  · have := stop_bad (zs := zs) (by omega)
    rw [h _ h1] at this; cases this
  · exact h1
  · have h2 := stop_good h1
    rw [hb (by have := stop_le zs; omega)] at h2; cases h2
theorem whole_iff {zs : List Int} : whole zs = true ↔ ∀ j, j < zs.length → good zs j = true := by
  unfold whole
  rw [decide_eq_true_eq]
  constructor
  · intro h j hj; exact stop_good (by omega)
  · intro h; exact stop_eq (Nat.le_refl _) h (fun h => absurd h (Nat.lt_irrefl _))
/-- A row is whole, if each one is a status, and there is a step from each to the next one. -/
theorem whole_iff' {zs : List Int} : whole zs = true ↔ (∀ (j : Nat) x, zs[j]? = some x → ok x = true) ∧ ∀ (j : Nat) x y, zs[j]? = some x → zs[j + 1]? = some y → may x y = true := by
  rw [whole_iff]
  constructor
  · intro h
    refine ⟨fun j x hx => ?_, fun j x y hx hy => ?_⟩
    · have := h j (List.getElem?_eq_some_iff.1 hx).1
      unfold good at this
      simp only [hx, Bool.and_eq_true] at this
      exact this.1
    · have := h j (List.getElem?_eq_some_iff.1 hx).1
      rw [good_at hx hy, Bool.and_eq_true] at this
      exact this.2
  · rintro ⟨h1, h2⟩ j hj
    obtain ⟨x, hx⟩ : ∃ x, zs[j]? = some x := ⟨_, List.getElem?_eq_getElem hj⟩
    cases hy : zs[j + 1]? with
    | none => rw [good_last hx hy]; exact h1 j x hx
    | some y => rw [good_at hx hy, h1 j x hx, h2 j x y hx hy]; rfl
/-- Is there a step between two rows? -/
def between (a b : List Int) : Bool := match a.getLast?, b.head? with
  | some x, some y => may x y
  | _, _ => true
theorem whole_append (a b : List Int) : whole (a ++ b) = (whole a && whole b && between a b) := by
  rw [Bool.eq_iff_iff, Bool.and_eq_true, Bool.and_eq_true, whole_iff', whole_iff', whole_iff']
  constructor
  · rintro ⟨h1, h2⟩
    refine ⟨⟨⟨fun j x hx => ?_, fun j x y hx hy => ?_⟩, fun j x hx => ?_, fun j x y hx hy => ?_⟩, ?_⟩
    · exact h1 j x (by rw [List.getElem?_append_left (List.getElem?_eq_some_iff.1 hx).1]; exact hx)
    · exact h2 j x y (by rw [List.getElem?_append_left (List.getElem?_eq_some_iff.1 hx).1]; exact hx) (by rw [List.getElem?_append_left (List.getElem?_eq_some_iff.1 hy).1]; exact hy)
    · exact h1 (a.length + j) x (by rw [List.getElem?_append_right (by omega), Nat.add_sub_cancel_left]; exact hx)
    · exact h2 (a.length + j) x y (by rw [List.getElem?_append_right (by omega), Nat.add_sub_cancel_left]; exact hx) (by rw [List.getElem?_append_right (by omega), Nat.add_assoc, Nat.add_sub_cancel_left]; exact hy)
    · unfold between
      split
      · rename_i x y hx hy
        rw [List.getLast?_eq_getElem?] at hx
        rw [List.head?_eq_getElem?] at hy
        have hl := (List.getElem?_eq_some_iff.1 hx).1
        exact h2 (a.length - 1) x y (by rw [List.getElem?_append_left hl]; exact hx) (by rw [show a.length - 1 + 1 = a.length by omega, List.getElem?_append_right (Nat.le_refl _), Nat.sub_self]; exact hy)
      · rfl
  · rintro ⟨⟨⟨a1, a2⟩, b1, b2⟩, hb⟩
    refine ⟨fun j x hx => ?_, fun j x y hx hy => ?_⟩
    · by_cases hj : j < a.length
      · rw [List.getElem?_append_left hj] at hx; exact a1 j x hx
      · rw [List.getElem?_append_right (by omega)] at hx; exact b1 _ x hx
    · by_cases hj : j + 1 < a.length
      · rw [List.getElem?_append_left (by omega)] at hx; rw [List.getElem?_append_left hj] at hy; exact a2 j x y hx hy
      · by_cases hj' : j + 1 = a.length
        · rw [List.getElem?_append_left (by omega)] at hx
          rw [List.getElem?_append_right (by omega), show j + 1 - a.length = 0 by omega] at hy
          unfold between at hb
          rw [List.getLast?_eq_getElem?, show a.length - 1 = j by omega, List.head?_eq_getElem?, hx, hy] at hb
          exact hb
        · rw [List.getElem?_append_right (by omega)] at hx hy
          rw [show j + 1 - a.length = j - a.length + 1 by omega] at hy
          exact b2 _ x y hx hy
theorem between_nil_left (b : List Int) : between [] b = true := rfl
theorem between_nil_right (a : List Int) : between a [] = true := by unfold between; split <;> simp_all
theorem between_at {a b : List Int} {x y : Int} (hx : a[a.length - 1]? = some x) (hy : b[0]? = some y) : between a b = may x y := by
  unfold between; rw [List.getLast?_eq_getElem?, List.head?_eq_getElem?, hx, hy]
/-- The row to where it stops is whole, if a status stands there. -/
theorem whole_take {zs : List Int} {x : Int} (hx : zs[stop zs]? = some x) : whole (zs.take (stop zs + 1)) = ok x := by
  have hl := (List.getElem?_eq_some_iff.1 hx).1
  have hlen : (zs.take (stop zs + 1)).length = stop zs + 1 := by rw [List.length_take]; omega
  have hlast : good (zs.take (stop zs + 1)) (stop zs) = ok x := by
    apply good_last
    · rw [List.getElem?_take, if_pos (by omega)]; exact hx
    · rw [List.getElem?_take, if_neg (by omega)]
  have hother : ∀ j, j < stop zs → good (zs.take (stop zs + 1)) j = true := by
    intro j hj
    have := stop_good hj
    unfold good at this ⊢
    rw [List.getElem?_take, if_pos (by omega), List.getElem?_take, if_pos (by omega)]
    exact this
  rw [Bool.eq_iff_iff, whole_iff, hlen]
  constructor
  · intro h; rw [← hlast]; exact h _ (by omega)
  · intro h j hj
    by_cases e : j = stop zs
    · rw [e, hlast]; exact h
    · exact hother j (by omega)
/-- A row in which no status stands at place k stops there, or ahead of it. -/
theorem stop_odd {zs : List Int} {k : Nat} {x : Int} (hx : zs[k]? = some x) (h : ok x = false) : stop zs ≤ k ∧ whole zs = false := by
  have hl := (List.getElem?_eq_some_iff.1 hx).1
  have hs : stop zs ≤ k := by
    apply Nat.le_of_not_lt
    intro hlt
    have := stop_good hlt
    unfold good at this
    simp only [hx, h, Bool.false_and] at this
    cases this
  exact ⟨hs, by unfold whole; rw [decide_eq_false_iff_not]; omega⟩
end Go.Proofs.Ytldehegoaofjnaa.Sp

