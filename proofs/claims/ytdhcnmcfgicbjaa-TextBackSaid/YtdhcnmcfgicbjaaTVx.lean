/- Layer 3 in plain mathematics: a vertex that is read leaves an end of what was there, and takes a letter for each vertex. -/
import Derived.Test.YtdhcnmcfgicbjaaTMore
namespace Go.Proofs.Ytdhcnmcfgicbjaa.Tx

theorem more_drop {V : List (Int × Int) → List UInt8 → Got} {c0 : UInt8} (hV : ∀ t l, ∃ m, (V t l).l = l.drop m) : ∀ (f : Nat) (g : Got), ∃ m, (more V c0 f g).l = g.l.drop m := by
  intro f
  induction f with
  | zero => intro g; exact ⟨0, rfl⟩
  | succ f ih =>
    intro g
    rw [more]
    split
    · obtain ⟨m, hm⟩ := ih (V g.t g.l)
      obtain ⟨m', hm'⟩ := hV g.t g.l
      exact ⟨m' + m, by rw [hm, hm', List.drop_drop]⟩
    · exact ⟨0, rfl⟩
theorem shut_drop (g : Got) : ∃ m, (shut g).l = g.l.drop m := by
  unfold shut
  split
  · split
    · exact ⟨1, by simp⟩
    · exact ⟨0, rfl⟩
  · exact ⟨0, rfl⟩
theorem vx_drop : ∀ (d : Nat) (p : Int) (t : List (Int × Int)) (l : List UInt8), ∃ m, (vx d p t l).l = l.drop m := by
  intro d
  induction d with
  | zero =>
    intro p t l
    rw [vx]
    split
    · exact ⟨1, by simp⟩
    · exact ⟨0, rfl⟩
  | succ d ih =>
    intro p t l
    rw [vx]
    split
    · split
      · obtain ⟨m1, h1⟩ := shut_drop (more (vx d t.length) (lt (3 - d)) l.length (vx d t.length (t ++ [(p, ((2 - d : Nat) : Int))]) l.tail.tail))
        obtain ⟨m2, h2⟩ := more_drop (c0 := lt (3 - d)) (fun t' l => ih t.length t' l) l.length (vx d t.length (t ++ [(p, ((2 - d : Nat) : Int))]) l.tail.tail)
        obtain ⟨m3, h3⟩ := ih t.length (t ++ [(p, ((2 - d : Nat) : Int))]) l.tail.tail
        exact ⟨1 + (1 + (m3 + (m2 + m1))), by rw [h1, h2, h3, ← List.drop_drop, ← List.drop_drop, ← List.drop_drop, ← List.drop_drop, List.drop_one, List.drop_one]⟩
      · exact ⟨1, by simp⟩
    · exact ⟨0, rfl⟩
theorem more_grow {V : List (Int × Int) → List UInt8 → Got} {c0 : UInt8} (hV : ∀ t l, (V t l).t.length + (V t l).l.length ≤ t.length + l.length) : ∀ (f : Nat) (g : Got), (more V c0 f g).t.length + (more V c0 f g).l.length ≤ g.t.length + g.l.length := by
  intro f
  induction f with
  | zero => intro g; exact Nat.le_refl _
  | succ f ih =>
    intro g
    rw [more]
    split
    · exact Nat.le_trans (ih _) (hV _ _)
    · exact Nat.le_refl _
theorem shut_grow (g : Got) : (shut g).t.length + (shut g).l.length ≤ g.t.length + g.l.length := by
  have := tail_le g.l
  unfold shut
  split
  · split
    · simp only; omega
    · exact Nat.le_refl _
  · exact Nat.le_refl _
theorem vx_grow : ∀ (d : Nat) (p : Int) (t : List (Int × Int)) (l : List UInt8), (vx d p t l).t.length + (vx d p t l).l.length ≤ t.length + l.length := by
  intro d
  induction d with
  | zero =>
    intro p t l
    rw [vx]
    split
    · rename_i h
      have := congrArg List.length (head_cons h)
      simp at this ⊢
      omega
    · exact Nat.le_refl _
  | succ d ih =>
    intro p t l
    rw [vx]
    split
    · rename_i h
      have h0 := congrArg List.length (head_cons h)
      rw [List.length_cons] at h0
      split
      · have h1 := shut_grow (more (vx d t.length) (lt (3 - d)) l.length (vx d t.length (t ++ [(p, ((2 - d : Nat) : Int))]) l.tail.tail))
        have h2 := more_grow (c0 := lt (3 - d)) (fun t' l => ih t.length t' l) l.length (vx d t.length (t ++ [(p, ((2 - d : Nat) : Int))]) l.tail.tail)
        have h3 := ih t.length (t ++ [(p, ((2 - d : Nat) : Int))]) l.tail.tail
        have h4 := tail_le l.tail
        rw [List.length_append, List.length_singleton] at h3
        omega
      · simp only [List.length_append, List.length_singleton]; omega
    · exact Nat.le_refl _
theorem more_stop {V : List (Int × Int) → List UInt8 → Got} {c0 : UInt8} {g : Got} (h : ¬ (g.is = true ∧ g.l.head? = some c0)) (f : Nat) : more V c0 f g = g := by
  cases f with
  | zero => rfl
  | succ f => rw [more, if_neg h]
theorem more_fuel {V : List (Int × Int) → List UInt8 → Got} {c0 : UInt8} (hV : ∀ t l, l.head? = some c0 → (V t l).l.length < l.length) : ∀ (f e : Nat) (g : Got), g.l.length ≤ f → g.l.length ≤ e → more V c0 f g = more V c0 e g := by
  intro f
  induction f with
  | zero =>
    intro e g h _
    have hl : g.l = [] := List.length_eq_zero_iff.1 (by omega)
    rw [more_stop, more_stop]
    · rw [hl]; rintro ⟨_, h⟩; cases h
    · rw [hl]; rintro ⟨_, h⟩; cases h
  | succ f ih =>
    intro e g h1 h2
    by_cases hc : g.is = true ∧ g.l.head? = some c0
    · have hlt := hV g.t g.l hc.2
      cases e with
      | zero =>
        have hl : g.l = [] := List.length_eq_zero_iff.1 (by omega)
        rw [hl] at hc
        cases hc.2
      | succ e =>
        rw [more, if_pos hc, more, if_pos hc]
        exact ih e _ (by omega) (by omega)
    · rw [more_stop hc, more_stop hc]
theorem more_go {V : List (Int × Int) → List UInt8 → Got} {c0 : UInt8} (hV : ∀ t l, l.head? = some c0 → (V t l).l.length < l.length) {g : Got} (h : g.is = true ∧ g.l.head? = some c0) : more V c0 g.l.length g = more V c0 (V g.t g.l).l.length (V g.t g.l) := by
  have hlt := hV g.t g.l h.2
  have e : more V c0 (g.l.length + 1) g = more V c0 g.l.length (V g.t g.l) := by rw [more, if_pos h]
  rw [more_fuel hV g.l.length (g.l.length + 1) g (Nat.le_refl _) (by omega), e]
  exact more_fuel hV _ _ _ (by omega) (Nat.le_refl _)
theorem drop_left (l : List UInt8) (j : Nat) : l.drop (l.length - (l.drop j).length) = l.drop j := by
  rw [List.length_drop]
  by_cases h : j ≤ l.length
  · rw [show l.length - (l.length - j) = j by omega]
  · rw [List.drop_of_length_le (by omega), List.drop_of_length_le (by omega)]
/-- What the reading of a vertex that is no processor comes to, its letter and its bracket read. -/
theorem vx_open (d : Nat) (hd : d ≤ 2) (p : Int) (t : List (Int × Int)) (l r : List UInt8) (h : l = lt (2 - d) :: 40 :: r) :
    vx (d + 1) p t l = shut (more (vx d t.length) (lt (3 - d)) (vx d t.length (t ++ [(p, ((2 - d : Nat) : Int))]) r).l.length (vx d t.length (t ++ [(p, ((2 - d : Nat) : Int))]) r)) := by
  subst h
  rw [vx, if_pos (by rfl), if_pos (by rfl)]
  congr 1
  have hl := vx_len d t.length (t ++ [(p, ((2 - d : Nat) : Int))]) r
  exact more_fuel (fun t' l h => vx_less (by omega) _ _ h) _ _ _ (by simp only [List.length_cons, List.tail_cons]; omega) (Nat.le_refl _)
end Go.Proofs.Ytdhcnmcfgicbjaa.Tx

