/- What follows of a tree that may be, in plain mathematics. -/
import Derived.Test.YtdhcnmcfgicbjaaPlain
namespace Go.Proofs.Ytdhcnmcfgicbjaa.Tp

structure Tree (vs : List (Int × Int)) : Prop where
  pos : 1 ≤ vs.length
  few : vs.length ≤ 64
  procs : (those (fun x => x.2 == 3) vs).length ≤ 32
  hangs : ∀ k, k < vs.length → hangs vs k = true
  filled : ∀ k, k < vs.length → filled vs k = true

theorem tree_iff (vs : List (Int × Int)) : may vs = true ↔ Tree vs := by
  unfold may headOK bodyTo
  simp only [Bool.and_eq_true, decide_eq_true_eq, List.all_eq_true, List.mem_range]
  exact ⟨fun ⟨⟨⟨a, b⟩, c⟩, d⟩ => ⟨a, b, c, fun k hk => (d k hk).1, fun k hk => (d k hk).2⟩, fun h => ⟨⟨⟨h.pos, h.few⟩, h.procs⟩, fun k hk => ⟨h.hangs k hk, h.filled k hk⟩⟩⟩
theorem Tree.not {vs : List (Int × Int)} (h : ¬ Tree vs) : may vs = false := by
  cases hm : may vs
  · rfl
  · exact absurd ((tree_iff vs).1 hm) h

theorem Tree.first {vs : List (Int × Int)} (h : Tree vs) : vs[0]? = some (-1, 0) := by
  have h0 := h.hangs 0 h.pos
  obtain ⟨x, hx⟩ : ∃ x, vs[0]? = some x := ⟨_, List.getElem?_eq_getElem h.pos⟩
  unfold Tp.hangs at h0
  rw [hx] at h0
  simp only [Option.getD_some, hangsX, if_true, Bool.and_eq_true, beq_iff_eq] at h0
  rw [hx]
  obtain ⟨a, b⟩ := x
  simp only at h0
  rw [h0.1, h0.2]
/-- Each vertex but the first: a Parent ahead of it, of a Level one less; Levels from 1 to 3. -/
theorem Tree.next {vs : List (Int × Int)} (h : Tree vs) (k : Nat) : ∀ x, vs[k]? = some x → 0 < k → ∃ (p : Nat) (y : Int × Int), x.1 = p ∧ p < k ∧ vs[p]? = some y ∧ x.2 = y.2 + 1 ∧ 0 ≤ y.2 ∧ x.2 ≤ 3 := by
  induction k using Nat.strongRecOn with
  | ind k ih =>
    intro x hx hk
    have hkl := (List.getElem?_eq_some_iff.1 hx).1
    have h0 := h.hangs k hkl
    unfold Tp.hangs at h0
    rw [hx] at h0
    simp only [Option.getD_some, hangsX, if_neg (show ¬ k = 0 by omega)] at h0
    split at h0
    · cases h0
    · rename_i hb
      obtain ⟨p, hp⟩ := Int.eq_ofNat_of_zero_le (show 0 ≤ x.1 by omega)
      obtain ⟨y, hy⟩ : ∃ y, vs[p]? = some y := ⟨_, List.getElem?_eq_getElem (by omega)⟩
      rw [hp, Int.toNat_natCast, hy] at h0
      simp only [Option.getD_some, Bool.and_eq_true, decide_eq_true_eq, beq_iff_eq] at h0
      obtain ⟨h3, hd⟩ := h0
      have hy2 : 0 ≤ y.2 ∧ y.2 ≤ 3 := by
        by_cases e : p = 0
        · subst e
          have := h.first
          rw [this] at hy
          injection hy with hy
          subst hy
          exact ⟨by decide, by decide⟩
        · obtain ⟨_, _, _, _, _, a, b, c⟩ := ih p (by omega) y hy (by omega)
          omega
      refine ⟨p, y, hp, by omega, hy, ?_, hy2.1, h3⟩
      unfold dec at hd
      split at hd <;> omega
theorem Tree.level {vs : List (Int × Int)} (h : Tree vs) {k : Nat} {x : Int × Int} (hx : vs[k]? = some x) : 0 ≤ x.2 ∧ x.2 ≤ 3 := by
  by_cases e : k = 0
  · subst e
    rw [h.first] at hx
    injection hx with hx
    subst hx
    exact ⟨by decide, by decide⟩
  · obtain ⟨_, _, _, _, _, a, b, c⟩ := h.next k x hx (by omega)
    omega
/-- What lies above a vertex. -/
theorem Tree.up {vs : List (Int × Int)} (h : Tree vs) (l : Int) (k : Nat) : ∀ x, vs[k]? = some x → (x.2 < l → up vs l vs.length k = -1) ∧ (0 ≤ l → l ≤ x.2 → ∃ (v : Nat) (y : Int × Int), up vs l vs.length k = v ∧ v ≤ k ∧ vs[v]? = some y ∧ y.2 = l) := by
  induction k using Nat.strongRecOn with
  | ind k ih =>
    intro x hx
    have hkl := (List.getElem?_eq_some_iff.1 hx).1
    by_cases hl : x.2 = l
    · rw [up_hit hkl hx hl]
      exact ⟨fun hh => by omega, fun _ _ => ⟨k, x, rfl, Nat.le_refl _, hx, hl⟩⟩
    · rw [up_step hkl hx hl]
      by_cases e : k = 0
      · subst e
        rw [h.first] at hx
        injection hx with hx
        subst hx
        refine ⟨fun _ => up_out (by simp), fun h0 h1 => ?_⟩
        simp only at hl h1
        omega
      · obtain ⟨p, y, hp, hpk, hy, hxy, _, _⟩ := h.next k x hx (by omega)
        rw [hp, up_bound (b := vs.length) (by omega) (by omega) (by omega)]
        obtain ⟨i1, i2⟩ := ih p hpk y hy
        refine ⟨fun hh => i1 (by omega), fun h0 h1 => ?_⟩
        obtain ⟨v, z, e1, e2, e3, e4⟩ := i2 h0 (by omega)
        exact ⟨v, z, e1, by omega, e3, e4⟩
theorem mem_thoseF {p : Int × Int → Bool} {z : Int} : ∀ (xs : List (Int × Int)) (k : Nat), z ∈ thoseF p k xs ↔ ∃ (j : Nat) (x : Int × Int), z = ((k + j : Nat) : Int) ∧ xs[j]? = some x ∧ p x = true := by
  intro xs
  induction xs with
  | nil => intro k; simp [thoseF]
  | cons y ys ih =>
    intro k
    have split2 : (∃ (j : Nat) (x : Int × Int), z = ((k + j : Nat) : Int) ∧ (y :: ys)[j]? = some x ∧ p x = true) ↔ (z = (k : Int) ∧ p y = true) ∨ ∃ (j : Nat) (x : Int × Int), z = ((k + 1 + j : Nat) : Int) ∧ ys[j]? = some x ∧ p x = true := by
      constructor
      · rintro ⟨j, x, e, hx, hp⟩
        cases j with
        | zero => injection hx with hx; subst hx; exact .inl ⟨by simpa using e, hp⟩
        | succ j => exact .inr ⟨j, x, by rw [e]; congr 1; omega, hx, hp⟩
      · rintro (⟨e, hp⟩ | ⟨j, x, e, hx, hp⟩)
        · exact ⟨0, y, by simpa using e, rfl, hp⟩
        · exact ⟨j + 1, x, by rw [e]; congr 1; omega, hx, hp⟩
    rw [split2, thoseF]
    split
    · rename_i hp
      rw [List.mem_cons, ih]
      simp [hp]
    · rename_i hp
      rw [ih]
      simp [hp]
theorem mem_those {p : Int × Int → Bool} {z : Int} {vs : List (Int × Int)} : z ∈ those p vs ↔ ∃ (j : Nat) (x : Int × Int), z = (j : Int) ∧ vs[j]? = some x ∧ p x = true := by
  unfold those; rw [mem_thoseF]; simp
/-- Each vertex that is no processor has one below it; a processor none. -/
theorem Tree.child {vs : List (Int × Int)} (h : Tree vs) {k : Nat} {x : Int × Int} (hx : vs[k]? = some x) (h3 : x.2 < 3) : ∃ (j : Nat) (y : Int × Int), k < j ∧ vs[j]? = some y ∧ y.1 = k ∧ y.2 = x.2 + 1 := by
  have hkl := (List.getElem?_eq_some_iff.1 hx).1
  have hf := h.filled k hkl
  unfold Tp.filled at hf
  rw [hx, Option.getD_some, if_neg (by omega), Bool.and_eq_true, decide_eq_true_eq, decide_eq_true_eq] at hf
  unfold kidsN at hf
  obtain ⟨z, hz⟩ := List.exists_mem_of_length_pos (l := those (fun x => x.1 == (k : Int)) vs) (by omega)
  obtain ⟨j, y, _, hy, hp⟩ := mem_those.1 hz
  rw [beq_iff_eq] at hp
  have hj : j ≠ 0 := by
    rintro rfl
    rw [h.first] at hy
    injection hy with hy
    subst hy
    simp only at hp
    omega
  obtain ⟨p, u, h1, h2, h3', h4, _, _⟩ := h.next j y hy (by omega)
  have : p = k := by omega
  subst this
  rw [hx] at h3'
  injection h3' with h3'
  subst h3'
  exact ⟨j, y, h2, hy, hp, h4⟩
theorem Tree.kid {vs : List (Int × Int)} (h : Tree vs) {k j : Nat} {y : Int × Int} (hy : vs[j]? = some y) (hk : y.1 = k) : k < j ∧ ∃ x, vs[k]? = some x ∧ y.2 = x.2 + 1 := by
  have hj : j ≠ 0 := by
    rintro rfl
    rw [h.first] at hy
    injection hy with hy
    subst hy
    simp only at hk
    omega
  obtain ⟨p, u, h1, h2, h3', h4, _, _⟩ := h.next j y hy (by omega)
  have : p = k := by omega
  subst this
  exact ⟨h2, u, h3', h4⟩
theorem Tree.leaf {vs : List (Int × Int)} (h : Tree vs) {k : Nat} {x : Int × Int} (hx : vs[k]? = some x) (h3 : x.2 = 3) : kidsN vs k = 0 := by
  unfold kidsN
  cases hm : those (fun x => x.1 == (k : Int)) vs with
  | nil => rfl
  | cons z zs =>
    obtain ⟨j, y, _, hy, hp⟩ := mem_those.1 (show z ∈ those (fun x => x.1 == (k : Int)) vs by rw [hm]; exact List.mem_cons_self)
    obtain ⟨_, u, hu, e⟩ := h.kid hy (by simpa using hp)
    rw [hx] at hu
    injection hu with hu
    subst hu
    have := (h.level hy).2
    omega
theorem Tree.kids {vs : List (Int × Int)} (h : Tree vs) {k : Nat} {x : Int × Int} (hx : vs[k]? = some x) : kidsN vs k ≤ 8 ∧ (kidsN vs k = 0 ↔ x.2 = 3) := by
  have hkl := (List.getElem?_eq_some_iff.1 hx).1
  by_cases h3 : x.2 < 3
  · have hf := h.filled k hkl
    unfold Tp.filled at hf
    rw [hx, Option.getD_some, if_neg (by omega), Bool.and_eq_true, decide_eq_true_eq, decide_eq_true_eq] at hf
    omega
  · have e : x.2 = 3 := by have := (h.level hx).2; omega
    rw [h.leaf hx e]
    omega
theorem thoseF_rise (p : Int × Int → Bool) : ∀ (xs : List (Int × Int)) (k : Nat), (thoseF p k xs).Pairwise (· < ·) ∧ ∀ z ∈ thoseF p k xs, (k : Int) ≤ z := by
  intro xs
  induction xs with
  | nil => intro k; simp [thoseF]
  | cons y ys ih =>
    intro k
    obtain ⟨i1, i2⟩ := ih (k + 1)
    rw [thoseF]
    split
    · refine ⟨List.pairwise_cons.2 ⟨fun z hz => ?_, i1⟩, fun z hz => ?_⟩
      · have := i2 z hz; omega
      · rcases List.mem_cons.1 hz with rfl | hz
        · exact Int.le_refl _
        · have := i2 z hz; omega
    · exact ⟨i1, fun z hz => by have := i2 z hz; omega⟩
theorem those_rise {p : Int × Int → Bool} {vs : List (Int × Int)} {i j : Nat} {a b : Int} (hi : (those p vs)[i]? = some a) (hj : (those p vs)[j]? = some b) (hij : i < j) : a < b := by
  have h := (thoseF_rise p vs 0).1
  obtain ⟨hil, ei⟩ := List.getElem?_eq_some_iff.1 hi
  obtain ⟨hjl, ej⟩ := List.getElem?_eq_some_iff.1 hj
  have := (List.pairwise_iff_getElem.1 h) i j hil hjl hij
  unfold those at ei ej
  rw [ei, ej] at this
  exact this
theorem has_level {vs : List (Int × Int)} {k : Nat} {x : Int × Int} {l : Int} (hx : vs[k]? = some x) : has (those (fun x => x.2 == l) vs) k = (x.2 == l) := by
  unfold has
  rw [Bool.eq_iff_iff, List.contains_iff_mem, mem_those]
  constructor
  · rintro ⟨j, y, e, hy, hp⟩
    have : k = j := by omega
    subst this
    rw [hx] at hy
    injection hy with hy
    subst hy
    exact hp
  · intro hp
    exact ⟨k, x, rfl, hx, hp⟩
def countF (p : Int × Int → Bool) : List (Int × Int) → Nat
  | [] => 0
  | x :: xs => (if p x then 1 else 0) + countF p xs
theorem thoseF_len (p : Int × Int → Bool) : ∀ (xs : List (Int × Int)) (k : Nat), (thoseF p k xs).length = countF p xs := by
  intro xs
  induction xs with
  | nil => intro k; rfl
  | cons y ys ih =>
    intro k
    rw [thoseF, countF]
    split <;> simp [ih] <;> omega
theorem countF_add (p q r : Int × Int → Bool) (h : ∀ x, (if r x then 1 else 0) = (if p x then 1 else 0) + (if q x then (1 : Nat) else 0)) : ∀ xs, countF r xs = countF p xs + countF q xs := by
  intro xs
  induction xs with
  | nil => rfl
  | cons y ys ih => rw [countF, countF, countF, ih, h y]; omega
theorem countF_le (p : Int × Int → Bool) : ∀ xs, countF p xs ≤ xs.length := by
  intro xs
  induction xs with
  | nil => exact Nat.le_refl _
  | cons y ys ih => rw [countF, List.length_cons]; split <;> omega
theorem countF_all (p : Int × Int → Bool) : ∀ (xs : List (Int × Int)), (∀ x ∈ xs, p x = true) → countF p xs = xs.length := by
  intro xs
  induction xs with
  | nil => intro _; rfl
  | cons y ys ih => intro h; rw [countF, ih (fun x hx => h x (List.mem_cons_of_mem _ hx)), h y List.mem_cons_self, List.length_cons]; simp; omega
/-- How many lie below the first m vertices, all together. -/
def belowN (vs : List (Int × Int)) (m : Nat) : Nat := countF (fun x => decide (0 ≤ x.1 ∧ x.1 < m)) vs
theorem belowN_zero (vs : List (Int × Int)) : belowN vs 0 = 0 := by
  unfold belowN
  induction vs with
  | nil => rfl
  | cons y ys ih =>
    rw [countF, ih]
    have : decide (0 ≤ y.1 ∧ y.1 < ((0 : Nat) : Int)) = false := by simp
    rw [this]; rfl
theorem belowN_succ (vs : List (Int × Int)) (m : Nat) : belowN vs (m + 1) = belowN vs m + kidsN vs m := by
  unfold belowN kidsN those
  rw [thoseF_len]
  refine countF_add _ _ _ (fun x => ?_) vs
  by_cases h1 : 0 ≤ x.1 ∧ x.1 < (m : Int)
  · have h2 : ¬ x.1 = m := by omega
    have h3 : 0 ≤ x.1 ∧ x.1 < ((m + 1 : Nat) : Int) := by omega
    rw [decide_eq_true h1, decide_eq_true h3, beq_eq_false_iff_ne.2 h2]; rfl
  · by_cases h2 : x.1 = m
    · have h3 : 0 ≤ x.1 ∧ x.1 < ((m + 1 : Nat) : Int) := by omega
      rw [decide_eq_false h1, decide_eq_true h3, beq_iff_eq.2 h2]; rfl
    · have h3 : ¬ (0 ≤ x.1 ∧ x.1 < ((m + 1 : Nat) : Int)) := by omega
      rw [decide_eq_false h1, decide_eq_false h3, beq_eq_false_iff_ne.2 h2]; rfl
theorem belowN_le (vs : List (Int × Int)) (m : Nat) : belowN vs m ≤ vs.length := countF_le _ _
theorem Tree.belowN {vs : List (Int × Int)} (h : Tree vs) : Tp.belowN vs vs.length = vs.length - 1 := by
  have h0 := h.first
  have hk : ∀ k x, vs[k]? = some x → 0 < k → 0 ≤ x.1 ∧ x.1 < (vs.length : Int) := fun k x hx hk => by
    obtain ⟨p, _, e, hp, _⟩ := h.next k x hx hk
    have := (List.getElem?_eq_some_iff.1 hx).1
    omega
  unfold Tp.belowN
  generalize hn : vs.length = n at hk ⊢
  cases vs with
  | nil => simp at h0
  | cons y ys =>
    injection h0 with h0
    subst h0
    rw [List.length_cons] at hn
    rw [countF, countF_all _ ys (fun x hx => ?_)]
    · simp; omega
    · obtain ⟨i, hi⟩ := List.mem_iff_getElem?.1 hx
      exact decide_eq_true (hk (i + 1) x hi (by omega))
/-- There are a node, and a processor below each node. -/
theorem Tree.node {vs : List (Int × Int)} (h : Tree vs) : ∃ (j : Nat) (y : Int × Int), vs[j]? = some y ∧ y.2 = 1 := by
  obtain ⟨j, y, _, hy, _, e⟩ := h.child h.first (by decide)
  exact ⟨j, y, hy, e⟩
theorem Tree.below {vs : List (Int × Int)} (h : Tree vs) {k : Nat} {x : Int × Int} (hx : vs[k]? = some x) (h1 : x.2 = 1) : ∃ (j : Nat) (y : Int × Int), vs[j]? = some y ∧ y.2 = 3 ∧ Tp.up vs 1 vs.length j = k := by
  have hkl := (List.getElem?_eq_some_iff.1 hx).1
  obtain ⟨i, y, _, hy, hyk, ey⟩ := h.child hx (by omega)
  obtain ⟨j, z, _, hz, hzi, ez⟩ := h.child hy (by omega)
  have hil := (List.getElem?_eq_some_iff.1 hy).1
  have hjl := (List.getElem?_eq_some_iff.1 hz).1
  refine ⟨j, z, hz, by omega, ?_⟩
  rw [up_step hjl hz (by omega), hzi, up_step (by omega) hy (by omega), hyk, up_hit (by omega) hx h1]
theorem may_long {vs : List (Int × Int)} (h : 64 < vs.length) : may vs = false := Tree.not (fun t => by have := t.few; omega)
theorem may_nil : may [] = false := Tree.not (fun t => by have := t.pos; simp at this)
theorem Tree.two {vs : List (Int × Int)} (h : Tree vs) : 2 ≤ vs.length := by
  obtain ⟨j, y, hj, hy, _⟩ := h.child h.first (by decide)
  have := (List.getElem?_eq_some_iff.1 hy).1
  omega
theorem Tree.drop1 {vs : List (Int × Int)} (h : Tree vs) : may (vs.drop 1) = false := Tree.not (fun t => by
  have h0 := t.first
  rw [List.getElem?_drop] at h0
  obtain ⟨p, _, e, _⟩ := h.next _ _ h0 (by omega)
  simp only at e
  omega)
theorem Tree.none_below {vs : List (Int × Int)} (h : Tree vs) : kidsN vs vs.length = 0 := by
  unfold kidsN
  cases hm : those (fun x => x.1 == (vs.length : Int)) vs with
  | nil => rfl
  | cons z zs =>
    obtain ⟨j, y, _, hy, hp⟩ := mem_those.1 (show z ∈ those (fun x => x.1 == (vs.length : Int)) vs by rw [hm]; exact List.mem_cons_self)
    have := (h.kid hy (by simpa using hp)).1
    have := (List.getElem?_eq_some_iff.1 hy).1
    omega
theorem Tree.twin {vs : List (Int × Int)} (h : Tree vs) {k : Nat} {x : Int × Int} (hx : vs[k]? = some x) : may (vs ++ [((k : Int), x.2)]) = false := Tree.not (fun t => by
  have hk := (List.getElem?_eq_some_iff.1 hx).1
  obtain ⟨p, y, e1, _, e3, e4, _, _⟩ := t.next vs.length ((k : Int), x.2) (by rw [List.getElem?_append_right (Nat.le_refl _)]; simp) h.pos
  have : p = k := by simp only at e1; omega
  subst this
  rw [List.getElem?_append_left hk, hx] at e3
  injection e3 with e3
  subst e3
  simp only at e4
  omega)
theorem Tree.self {vs : List (Int × Int)} (h : Tree vs) : may (vs ++ [((vs.length : Int), 3)]) = false := Tree.not (fun t => by
  obtain ⟨p, y, e1, e2, _⟩ := t.next vs.length ((vs.length : Int), 3) (by rw [List.getElem?_append_right (Nat.le_refl _)]; simp) h.pos
  simp only at e1
  omega)
theorem Tree.moved {vs : List (Int × Int)} (h : Tree vs) {k : Nat} {x : Int × Int} (hx : vs[k]? = some x) : may (vs.set k (x.1 + 64, x.2)) = false := Tree.not (fun t => by
  have hk := (List.getElem?_eq_some_iff.1 hx).1
  have hs : (vs.set k (x.1 + 64, x.2))[k]? = some (x.1 + 64, x.2) := by rw [List.getElem?_set_self hk]
  by_cases e : k = 0
  · subst e
    have h0 := t.first
    rw [hs] at h0
    rw [h.first] at hx
    injection hx with hx
    subst hx
    injection h0 with h0
    injection h0 with h0 _
    simp only at h0
    omega
  · obtain ⟨p, _, e1, e2, _⟩ := t.next k _ hs (by omega)
    obtain ⟨p', _, e1', _⟩ := h.next k x hx (by omega)
    have := h.few
    simp only at e1
    omega)
theorem kidsN_count (vs : List (Int × Int)) (k : Nat) : kidsN vs k = countF (fun x => x.1 == (k : Int)) vs := thoseF_len _ vs 0
theorem countF_append (p : Int × Int → Bool) : ∀ a b, countF p (a ++ b) = countF p a + countF p b := by
  intro a b
  induction a with
  | nil => simp [countF]
  | cons y ys ih => rw [List.cons_append, countF, countF, ih]; omega
theorem hangs_take {vs : List (Int × Int)} {m k : Nat} (hk : k < m) (hm : m ≤ vs.length) (hh : Tp.hangs vs k = true) : Tp.hangs (vs.take m) k = true := by
  obtain ⟨x, hx⟩ : ∃ x, vs[k]? = some x := ⟨_, List.getElem?_eq_getElem (by omega)⟩
  have hx' : (vs.take m)[k]? = some x := by rw [List.getElem?_take, if_pos hk]; exact hx
  unfold Tp.hangs at hh ⊢
  rw [hx] at hh
  rw [hx']
  simp only [Option.getD_some] at hh ⊢
  unfold hangsX at hh ⊢
  split
  · rename_i e
    rw [if_pos e] at hh
    exact hh
  · rename_i e
    rw [if_neg e] at hh
    split
    · rename_i e2
      rw [if_pos e2] at hh
      cases hh
    · rename_i e2
      rw [if_neg e2] at hh
      rw [List.getElem?_take, if_pos (by omega)]
      exact hh
/-- Without its last vertex a tree is one, just if that had a sister. -/
theorem Tree.less {vs : List (Int × Int)} (h : Tree vs) : ∃ (p : Nat) (u : Int × Int), vs[vs.length - 1]? = some u ∧ u.1 = p ∧ u.2 = 3 ∧ may (vs.take (vs.length - 1)) = decide (1 < kidsN vs p) := by
  have h2 := h.two
  obtain ⟨u, hu⟩ : ∃ u, vs[vs.length - 1]? = some u := ⟨_, List.getElem?_eq_getElem (by omega)⟩
  obtain ⟨p, y, e1, e2, e3, e4, e5, e6⟩ := h.next _ u hu (by omega)
  have hu3 : u.2 = 3 := by
    by_cases e : u.2 < 3
    · obtain ⟨j, z, hj, hz, _⟩ := h.child hu e
      have := (List.getElem?_eq_some_iff.1 hz).1
      omega
    · omega
  have hsplit : vs = vs.take (vs.length - 1) ++ [u] := by
    have := List.take_append_drop (vs.length - 1) vs
    rw [List.drop_eq_getElem_cons (by omega), List.drop_of_length_le (by omega)] at this
    rw [List.getElem?_eq_getElem (by omega)] at hu
    injection hu with hu
    rw [hu] at this
    exact this.symm
  have hkids : ∀ k, kidsN vs k = kidsN (vs.take (vs.length - 1)) k + if u.1 == (k : Int) then 1 else 0 := by
    intro k
    rw [kidsN_count, kidsN_count]
    conv => lhs; rw [hsplit]
    rw [countF_append]
    simp [countF]
  refine ⟨p, u, hu, e1, hu3, ?_⟩
  have hy' : (vs.take (vs.length - 1))[p]? = some y := by rw [List.getElem?_take, if_pos (by omega)]; exact e3
  have hlen : (vs.take (vs.length - 1)).length = vs.length - 1 := by rw [List.length_take]; omega
  have hkp := hkids p
  rw [beq_iff_eq.2 e1] at hkp
  simp only [if_true] at hkp
  by_cases hk : 1 < kidsN vs p
  · rw [decide_eq_true hk, tree_iff]
    refine ⟨by omega, by have := h.few; omega, ?_, fun k hkl => hangs_take (by omega) (by omega) (h.hangs k (by omega)), fun k hkl => ?_⟩
    · have := h.procs
      unfold those at this ⊢
      rw [thoseF_len] at this ⊢
      rw [hsplit, countF_append] at this
      omega
    · obtain ⟨x, hx⟩ : ∃ x, vs[k]? = some x := ⟨_, List.getElem?_eq_getElem (by omega)⟩
      have hx' : (vs.take (vs.length - 1))[k]? = some x := by rw [List.getElem?_take, if_pos (by omega)]; exact hx
      have hf := h.filled k (by omega)
      unfold Tp.filled at hf ⊢
      rw [hx] at hf
      rw [hx']
      simp only [Option.getD_some] at hf ⊢
      split
      · rfl
      · rename_i e
        rw [if_neg e] at hf
        simp only [Bool.and_eq_true, decide_eq_true_eq] at hf ⊢
        have := hkids k
        by_cases ek : k = p
        · subst ek
          omega
        · have := hkids k
          rw [beq_eq_false_iff_ne.2 (show u.1 ≠ (k : Int) by omega)] at this
          simp at this
          omega
  · rw [decide_eq_false hk]
    refine Tree.not (fun t => ?_)
    obtain ⟨_, h8⟩ := t.kids hy'
    have : kidsN (vs.take (vs.length - 1)) p = 0 := by omega
    have := h8.1 this
    omega
end Go.Proofs.Ytdhcnmcfgicbjaa.Tp

