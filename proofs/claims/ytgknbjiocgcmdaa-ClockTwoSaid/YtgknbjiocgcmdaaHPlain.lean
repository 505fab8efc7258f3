/- Timers in plain mathematics: their order, heaps, one let up, one let down. -/
namespace Go.Proofs.Ytgknbjiocgcmdaa.Hp
set_option linter.unusedVariables false

/-- A timer: when, in which turn, who. -/
abbrev Tm := Int × Int × Int
def cI (x y : Int) : Int := if x < y then -1 else if y < x then 1 else 0
def orI (a b : Int) : Int := if a = 0 then b else a
def cmp (a b : Tm) : Int := orI (cI a.1 b.1) (orI (cI a.2.1 b.2.1) (cI a.2.2 b.2.2))
/-- One is ahead of another one. -/
def Lt (a b : Tm) : Prop := a.1 < b.1 ∨ (a.1 = b.1 ∧ (a.2.1 < b.2.1 ∨ (a.2.1 = b.2.1 ∧ a.2.2 < b.2.2)))
instance (a b : Tm) : Decidable (Lt a b) := by unfold Lt; infer_instance
def Le (a b : Tm) : Prop := ¬ Lt b a
instance (a b : Tm) : Decidable (Le a b) := by unfold Le; infer_instance
theorem cI_cases (x y : Int) : (x < y ∧ cI x y = -1) ∨ (y < x ∧ cI x y = 1) ∨ (x = y ∧ cI x y = 0) := by
  unfold cI; split <;> (try split) <;> omega
theorem cmp_cases (a b : Tm) : (Lt a b ∧ cmp a b = -1) ∨ (Lt b a ∧ cmp a b = 1) ∨ (a = b ∧ cmp a b = 0) := by
  obtain ⟨a1, a2, a3⟩ := a
  obtain ⟨b1, b2, b3⟩ := b
  unfold cmp orI Lt
  simp only [Prod.mk.injEq]
  rcases cI_cases a1 b1 with ⟨h, e⟩ | ⟨h, e⟩ | ⟨h, e⟩ <;> rcases cI_cases a2 b2 with ⟨h', e'⟩ | ⟨h', e'⟩ | ⟨h', e'⟩ <;> rcases cI_cases a3 b3 with ⟨h'', e''⟩ | ⟨h'', e''⟩ | ⟨h'', e''⟩ <;> rw [e, e', e''] <;> simp <;> omega
theorem lt_irrefl (a : Tm) : ¬ Lt a a := by unfold Lt; omega
theorem lt_asymm {a b : Tm} (h : Lt a b) : ¬ Lt b a := by unfold Lt at *; omega
theorem lt_trans {a b c : Tm} (h : Lt a b) (k : Lt b c) : Lt a c := by unfold Lt at *; omega
theorem lt_total {a b : Tm} (h : ¬ Lt a b) (k : ¬ Lt b a) : a = b := by
  obtain ⟨a1, a2, a3⟩ := a
  obtain ⟨b1, b2, b3⟩ := b
  unfold Lt at *
  simp only [Prod.mk.injEq]
  simp only at h k
  omega
theorem le_refl (a : Tm) : Le a a := lt_irrefl a
theorem le_trans {a b c : Tm} (h : Le a b) (k : Le b c) : Le a c := by unfold Le Lt at *; omega
theorem le_total (a b : Tm) : Le a b ∨ Le b a := by unfold Le Lt; omega
theorem le_of_lt {a b : Tm} (h : Lt a b) : Le a b := lt_asymm h
theorem le_antisymm {a b : Tm} (h : Le a b) (k : Le b a) : a = b := lt_total k h
theorem cmp_neg {a b : Tm} : cmp a b < 0 ↔ Lt a b := by
  rcases cmp_cases a b with ⟨h, e⟩ | ⟨h, e⟩ | ⟨h, e⟩ <;> rw [e]
  · simp [h]
  · simp [lt_asymm h]
  · subst h; simp [lt_irrefl]
theorem cmp_pos {a b : Tm} : 0 < cmp a b ↔ Lt b a := by
  rcases cmp_cases a b with ⟨h, e⟩ | ⟨h, e⟩ | ⟨h, e⟩ <;> rw [e]
  · simp [lt_asymm h]
  · simp [h]
  · subst h; simp [lt_irrefl]
theorem cmp_zero {a b : Tm} : cmp a b = 0 ↔ a = b := by
  rcases cmp_cases a b with ⟨h, e⟩ | ⟨h, e⟩ | ⟨h, e⟩ <;> rw [e]
  · simp; rintro rfl; exact lt_irrefl _ h
  · simp; rintro rfl; exact lt_irrefl _ h
  · simp [h]
theorem cmp_anti (a b : Tm) : cmp a b = -cmp b a := by
  rcases cmp_cases a b with ⟨h, e⟩ | ⟨h, e⟩ | ⟨h, e⟩ <;> rcases cmp_cases b a with ⟨k, f⟩ | ⟨k, f⟩ | ⟨k, f⟩
  all_goals first
    | omega
    | exact absurd k (lt_asymm h)
    | (subst k; exact absurd h (lt_irrefl _))
    | (subst h; exact absurd k (lt_irrefl _))
theorem cmp_le {a b : Tm} : cmp a b ≤ 0 ↔ Le a b := by
  unfold Le
  rw [← cmp_pos (a := a) (b := b)]
  omega
theorem cmp_ge {a b : Tm} : 0 ≤ cmp a b ↔ Le b a := by
  unfold Le
  rw [← cmp_neg (a := a) (b := b)]
  omega
theorem cmp_bounds (a b : Tm) : -1 ≤ cmp a b ∧ cmp a b ≤ 1 := by
  rcases cmp_cases a b with ⟨h, e⟩ | ⟨h, e⟩ | ⟨h, e⟩ <;> rw [e] <;> omega

/-! ### Two that change their places -/
def swap (l : List Tm) (i j : Nat) : List Tm :=
  match l[i]?, l[j]? with
  | some x, some y => (l.set i y).set j x
  | _, _ => l
theorem swap_of {l : List Tm} {i j : Nat} {x y : Tm} (hi : l[i]? = some x) (hj : l[j]? = some y) : swap l i j = (l.set i y).set j x := by
  unfold swap; rw [hi, hj]
theorem swap_length (l : List Tm) (i j : Nat) : (swap l i j).length = l.length := by
  unfold swap; split <;> simp
theorem swap_get {l : List Tm} {i j : Nat} {x y : Tm} (hi : l[i]? = some x) (hj : l[j]? = some y) (k : Nat) : (swap l i j)[k]? = if k = j then some x else if k = i then some y else l[k]? := by
  rw [swap_of hi hj]
  have h1 := (List.getElem?_eq_some_iff.1 hi).1
  have h2 := (List.getElem?_eq_some_iff.1 hj).1
  rw [List.getElem?_set]
  by_cases e : k = j
  · subst e; rw [if_pos rfl, if_pos rfl, if_pos (by simpa using h2)]
  · rw [if_neg (fun e' => e e'.symm), if_neg e, List.getElem?_set]
    by_cases e' : k = i
    · subst e'; rw [if_pos rfl, if_pos rfl, if_pos h1]
    · rw [if_neg (fun e'' => e' e''.symm), if_neg e']
theorem set_perm {l : List Tm} {i : Nat} {x y : Tm} (hi : l[i]? = some x) : (x :: l.set i y).Perm (y :: l) := by
  induction l generalizing i with
  | nil => simp at hi
  | cons z l ih =>
    cases i with
    | zero => simp at hi; subst hi; exact List.Perm.swap _ _ _
    | succ i =>
      simp at hi
      have := ih hi
      simp only [List.set_cons_succ]
      exact ((List.Perm.swap _ _ _).trans (this.cons z)).trans (List.Perm.swap _ _ _)
theorem swap_perm (l : List Tm) (i j : Nat) : (swap l i j).Perm l := by
  unfold swap
  split
  · rename_i x y hi hj
    by_cases e : i = j
    · subst e
      rw [hi] at hj
      injection hj with hj
      subst hj
      have : (l.set i x).set i x = l := by
        apply List.ext_getElem?
        intro k
        rw [List.getElem?_set, List.getElem?_set]
        have := (List.getElem?_eq_some_iff.1 hi).1
        split
        · rename_i e; subst e; rw [hi]; simp [this]
        · rfl
      rw [this]
    · have h1 : (l.set i y)[j]? = some y := by rw [List.getElem?_set, if_neg e]; exact hj
      have p1 := set_perm (y := x) h1
      have p2 := set_perm (y := y) hi
      exact (List.perm_cons y).1 (p1.trans p2)
  · exact List.Perm.refl _

/-! ### Heaps -/
/-- Each one from those below lo on is behind the one above it. -/
def From (l : List Tm) (lo : Nat) : Prop := ∀ (i : Nat) x y, 0 < i → lo ≤ (i - 1) / 2 → l[i]? = some x → l[(i - 1) / 2]? = some y → Le y x
def Heap (l : List Tm) : Prop := From l 0
theorem heap_nil : Heap [] := fun i x y _ _ h _ => by simp at h
/-- The first one is ahead of none of the others. -/
theorem heap_first {l : List Tm} (h : Heap l) {x : Tm} (hx : l[0]? = some x) : ∀ (i : Nat) y, l[i]? = some y → Le x y := by
  intro i
  induction i using Nat.strongRecOn with
  | ind i ih =>
    intro y hy
    by_cases e : i = 0
    · subst e; rw [hx] at hy; injection hy with hy; subst hy; exact le_refl _
    · have hl := (List.getElem?_eq_some_iff.1 hy).1
      obtain ⟨z, hz⟩ : ∃ z, l[(i - 1) / 2]? = some z := ⟨_, List.getElem?_eq_getElem (by omega)⟩
      exact le_trans (ih _ (by omega) z hz) (h i y z (by omega) (by omega) hy hz)
theorem from_half (l : List Tm) : From l (l.length / 2) := by
  intro i x y h0 h1 hx
  have := (List.getElem?_eq_some_iff.1 hx).1
  omega
theorem from_more {l : List Tm} {lo lo' : Nat} (h : From l lo) (hl : lo ≤ lo') : From l lo' := fun i x y h0 h1 hx hy => h i x y h0 (Nat.le_trans hl h1) hx hy

/-! ### One let up -/
/-- A heap but for the one at p, that may be ahead of the one above it. -/
def Up (l : List Tm) (p : Nat) : Prop :=
  (∀ (i : Nat) x y, 0 < i → i ≠ p → l[i]? = some x → l[(i - 1) / 2]? = some y → Le y x) ∧
  (∀ (i : Nat) x y, 0 < i → 0 < p → (i - 1) / 2 = p → l[i]? = some x → l[(p - 1) / 2]? = some y → Le y x)
theorem up_push {l : List Tm} (h : Heap l) (t : Tm) : Up (l ++ [t]) l.length := by
  refine ⟨fun i x y h0 hi hx hy => ?_, fun i x y h0 hp hi hx hy => ?_⟩
  · have hl := (List.getElem?_eq_some_iff.1 hx).1
    simp at hl
    rw [List.getElem?_append_left (by omega)] at hx hy
    exact h i x y h0 (by omega) hx hy
  · have hl := (List.getElem?_eq_some_iff.1 hx).1
    simp at hl
    omega
theorem up_zero {l : List Tm} (h : Up l 0) : Heap l := fun i x y h0 _ => h.1 i x y h0 (by omega)
theorem up_done {l : List Tm} {p : Nat} (h : Up l p) {x y : Tm} (hx : l[p]? = some x) (hy : l[(p - 1) / 2]? = some y) (hle : Le y x) : Heap l := by
  intro i a b h0 _ ha hb
  by_cases e : i = p
  · subst e
    rw [hx] at ha; injection ha with ha; subst ha
    rw [hy] at hb; injection hb with hb; subst hb
    exact hle
  · exact h.1 i a b h0 e ha hb
theorem up_step {l : List Tm} {p : Nat} (hp : 0 < p) (h : Up l p) {x y : Tm} (hx : l[p]? = some x) (hy : l[(p - 1) / 2]? = some y) (hlt : Lt x y) : Up (swap l p ((p - 1) / 2)) ((p - 1) / 2) := by
  have hne : (p - 1) / 2 ≠ p := by omega
  refine ⟨fun i a b h0 hi ha hb => ?_, fun i a b h0 hq hi ha hb => ?_⟩
  · rw [swap_get hx hy] at ha hb
    rw [if_neg hi] at ha
    by_cases e : i = p
    · subst e
      rw [if_pos rfl] at ha; injection ha with ha; subst ha
      rw [if_pos rfl] at hb; injection hb with hb; subst hb
      exact le_of_lt hlt
    · rw [if_neg e] at ha
      by_cases e2 : (i - 1) / 2 = (p - 1) / 2
      · rw [if_pos e2] at hb; injection hb with hb; subst hb
        have := h.1 i a y h0 e ha (by rw [e2]; exact hy)
        exact le_trans (le_of_lt hlt) this
      · rw [if_neg e2] at hb
        by_cases e3 : (i - 1) / 2 = p
        · rw [if_pos e3] at hb; injection hb with hb; subst hb
          exact h.2 i a y h0 hp e3 ha hy
        · rw [if_neg e3] at hb
          exact h.1 i a b h0 e ha hb
  · rw [swap_get hx hy] at ha hb
    have hq2 : ((p - 1) / 2 - 1) / 2 ≠ (p - 1) / 2 := by omega
    have hq3 : ((p - 1) / 2 - 1) / 2 ≠ p := by omega
    rw [if_neg hq2, if_neg hq3] at hb
    have k1 := h.1 ((p - 1) / 2) y b hq (by omega) hy hb
    rw [if_neg (by omega)] at ha
    by_cases e : i = p
    · rw [if_pos e] at ha; injection ha with ha; subst ha; exact k1
    · rw [if_neg e] at ha
      exact le_trans k1 (h.1 i a y h0 e ha (by rw [hi]; exact hy))

/-! ### One let down -/
/-- From lo on a heap but for the one at p, of which one below may be ahead. -/
def Down (l : List Tm) (lo p : Nat) : Prop :=
  lo ≤ p ∧
  (∀ (i : Nat) x y, 0 < i → lo ≤ (i - 1) / 2 → (i - 1) / 2 ≠ p → l[i]? = some x → l[(i - 1) / 2]? = some y → Le y x) ∧
  (∀ (i : Nat) x y, 0 < i → lo < p → lo ≤ (p - 1) / 2 → (i - 1) / 2 = p → l[i]? = some x → l[(p - 1) / 2]? = some y → Le y x)
theorem down_at {l : List Tm} {lo : Nat} (h : From l (lo + 1)) : Down l lo lo :=
  ⟨Nat.le_refl _, fun i x y h0 hi hne => h i x y h0 (by omega), fun i x y _ h => by omega⟩
/-- low is the place of the least of the one at p and those right below it. -/
structure Least (l : List Tm) (p low : Nat) : Prop where
  place : low = p ∨ (low = 2 * p + 1 ∧ low < l.length) ∨ (low = 2 * p + 2 ∧ low < l.length)
  least : ∀ (i : Nat) x y, i = p ∨ i = 2 * p + 1 ∨ i = 2 * p + 2 → l[i]? = some x → l[low]? = some y → Le y x
theorem down_done {l : List Tm} {lo p : Nat} (h : Down l lo p) (hl : Least l p p) : From l lo := by
  intro i x y h0 hi hx hy
  by_cases e : (i - 1) / 2 = p
  · rw [e] at hy
    exact hl.least i x y (by omega) hx hy
  · exact h.2.1 i x y h0 hi e hx hy
theorem down_step {l : List Tm} {lo p low : Nat} (h : Down l lo p) (hl : Least l p low) (hne : low ≠ p) (hp : p < l.length) : Down (swap l p low) lo low := by
  obtain ⟨h1, h2, h3⟩ := h
  have hlow : low < l.length := by rcases hl.place with e | ⟨_, e⟩ | ⟨_, e⟩ <;> omega
  have hup : (low - 1) / 2 = p ∧ 0 < low := by rcases hl.place with e | ⟨e, _⟩ | ⟨e, _⟩ <;> omega
  obtain ⟨x, hx⟩ : ∃ x, l[p]? = some x := ⟨_, List.getElem?_eq_getElem hp⟩
  obtain ⟨y, hy⟩ : ∃ y, l[low]? = some y := ⟨_, List.getElem?_eq_getElem hlow⟩
  have hyx : Le y x := hl.least p x y (.inl rfl) hx hy
  refine ⟨by omega, fun i a b h0 hi hn ha hb => ?_, fun i a b h0 hq hq2 hi ha hb => ?_⟩
  · rw [swap_get hx hy] at ha hb
    rw [if_neg hn] at hb
    by_cases e : (i - 1) / 2 = p
    · rw [if_pos e] at hb; injection hb with hb; subst hb
      by_cases e2 : i = low
      · rw [if_pos e2] at ha; injection ha with ha; subst ha; exact hyx
      · rw [if_neg e2, if_neg (by omega)] at ha
        exact hl.least i a y (by omega) ha hy
    · rw [if_neg e] at hb
      by_cases e2 : i = low
      · subst e2; exact absurd hup.1 e
      · rw [if_neg e2] at ha
        by_cases e3 : i = p
        · rw [if_pos e3] at ha; injection ha with ha; subst ha
          have hlp : lo < p := by omega
          exact h3 low y b hup.2 hlp (by rw [e3] at hi; omega) hup.1 hy (by rw [← e3]; exact hb)
        · rw [if_neg e3] at ha
          exact h2 i a b h0 hi e ha hb
  · rw [swap_get hx hy] at ha hb
    rw [hup.1, if_neg (by omega), if_pos rfl] at hb
    injection hb with hb; subst hb
    rw [if_neg (by omega), if_neg (by omega)] at ha
    exact h2 i a y h0 (by omega) (by omega) ha (by rw [hi]; exact hy)

/-! ### The first one taken -/
theorem pop_perm {l : List Tm} {x z : Tm} {r : List Tm} (h : l = r ++ [z]) (hx : l[0]? = some x) : (x :: (l.set 0 z).take r.length).Perm l := by
  subst h
  cases r with
  | nil => simp at hx; subst hx; simp
  | cons y r =>
    simp at hx
    subst hx
    simp only [List.cons_append, List.set_cons_zero, List.length_cons, List.take_succ_cons, List.take_left]
    exact List.Perm.cons _ (List.perm_append_comm (l₁ := [z]) (l₂ := r))
theorem pop_down {l : List Tm} {z : Tm} {r : List Tm} (h : l = r ++ [z]) (hh : Heap l) : Down ((l.set 0 z).take r.length) 0 0 := by
  refine down_at (fun i x y h0 hi hx hy => ?_)
  rw [List.getElem?_take] at hx hy
  split at hx
  · split at hy
    · rw [List.getElem?_set, if_neg (by omega)] at hx hy
      exact hh i x y h0 (by omega) hx hy
    · cases hy
  · cases hx
end Go.Proofs.Ytgknbjiocgcmdaa.Hp

