/- The clocks on which the i-th one sleeps for so many ticks, in plain mathematics. -/
import Derived.Test.YtgknbjiocgcmdaaKPlain
namespace Go.Proofs.Ytgknbjiocgcmdaa.Kp
set_option linter.unusedVariables false

theorem mem_parts (L : List On) (t : Int) (o : On) : o ∈ upto L t ∨ o ∈ beyond L t ↔ o ∈ L := by
  unfold upto beyond
  rw [List.mem_filter, List.mem_filter]
  by_cases h : o.2 ≤ t <;> simp [h]
theorem mem_ins (L : List On) (x o : On) : o ∈ ins L x ↔ o = x ∨ o ∈ L := by
  unfold ins
  rw [List.mem_append, List.mem_append, List.mem_singleton, ← mem_parts L x.2 o]
  constructor
  · rintro ((h | h) | h)
    · exact .inr (.inl h)
    · exact .inl h
    · exact .inr (.inr h)
  · rintro (h | h | h)
    · exact .inl (.inr h)
    · exact .inl (.inl h)
    · exact .inr h
/-- Who sleeps when k have come. -/
def sl (zs : List Int) : Nat → List On
  | 0 => []
  | k + 1 => slp (sl zs k) 0 ((k : Int) + 1) (1 + (zs[k]?.getD 0))
structure Sl (zs : List Int) (k : Nat) (S : List On) : Prop where
  ends : Ends S
  len : S.length = k
  mem : ∀ o : On, o ∈ S ↔ ∃ i z, i < k ∧ zs[i]? = some z ∧ o = ((i : Int) + 1, 1 + z)
theorem has_false {S : List On} {g : Int} (h : ∀ o ∈ S, o.1 ≠ g) : has S g = false := by
  rw [Bool.eq_false_iff]
  intro e
  obtain ⟨o, ho, he⟩ := List.any_eq_true.1 e
  exact h o ho (by simpa using he)
theorem sl_next {zs : List Int} {k : Nat} {z : Int} (hz : zs[k]? = some z) (h0 : 0 ≤ z) (h1 : z ≤ 255) (h : Sl zs k (sl zs k)) : code (sl zs k) ((k : Int) + 1) (1 + z) = 0 ∧ sl zs (k + 1) = slp (sl zs k) 0 ((k : Int) + 1) (1 + z) ∧ Sl zs (k + 1) (sl zs (k + 1)) := by
  have hn : ¬ ((k : Int) + 1 < 1 ∨ 1 + z < 1 ∨ 1000 < 1 + z) := by omega
  have hh : has (sl zs k) ((k : Int) + 1) = false := has_false fun o ho => by
    obtain ⟨i, y, hi, _, rfl⟩ := (h.mem o).1 ho
    simp only
    omega
  have e2 : sl zs (k + 1) = slp (sl zs k) 0 ((k : Int) + 1) (1 + z) := by
    show slp (sl zs k) 0 ((k : Int) + 1) (1 + (zs[k]?.getD 0)) = _
    rw [hz]
    rfl
  have e3 : sl zs (k + 1) = ins (sl zs k) ((k : Int) + 1, 0 + (1 + z)) := by
    rw [e2]
    unfold slp
    rw [if_neg hn, if_neg (by rw [hh]; simp)]
  refine ⟨by unfold code; rw [if_neg hn, if_neg (by rw [hh]; simp)], e2, ?_⟩
  rw [e3]
  refine ⟨ends_ins h.ends _, by rw [ins_length _ _ h.ends, h.len], fun o => ?_⟩
  rw [mem_ins, h.mem]
  constructor
  · rintro (rfl | ⟨i, y, hi, hy, rfl⟩)
    · exact ⟨k, z, by omega, hz, by simp⟩
    · exact ⟨i, y, by omega, hy, rfl⟩
  · rintro ⟨i, y, hi, hy, rfl⟩
    by_cases e : i = k
    · subst e
      rw [hz] at hy
      injection hy with hy
      subst hy
      exact .inl (by simp)
    · exact .inr ⟨i, y, by omega, hy, rfl⟩
theorem sl_all {zs : List Int} (hz : ∀ z ∈ zs, 0 ≤ z ∧ z ≤ 255) : ∀ k, k ≤ zs.length → Sl zs k (sl zs k) := by
  intro k
  induction k with
  | zero => exact fun _ => ⟨ends_nil, rfl, fun o => by constructor <;> intro h; (· cases h); obtain ⟨i, z, hi, _⟩ := h; omega⟩
  | succ k ih =>
    intro hk
    obtain ⟨z, hzk⟩ : ∃ z, zs[k]? = some z := ⟨_, List.getElem?_eq_getElem (by omega)⟩
    obtain ⟨h0, h1⟩ := hz z (List.mem_of_getElem? hzk)
    exact (sl_next hzk h0 h1 (ih (by omega))).2.2
/-- Who sleeps still at that time: those whose end is later. -/
def Wk (zs : List Int) (p : Nat) (now : Int) (S : List On) : Prop := ∀ o : On, o ∈ S ↔ ∃ i z, i < p ∧ zs[i]? = some z ∧ o = ((i : Int) + 1, 1 + z) ∧ now < 1 + z
theorem Wk.start {zs : List Int} {p : Nat} {S : List On} (h : Sl zs p S) (hz : ∀ z ∈ zs, 0 ≤ z ∧ z ≤ 255) : Wk zs p 0 S := by
  intro o
  rw [h.mem]
  constructor
  · rintro ⟨i, z, hi, hzi, rfl⟩
    have := hz z (List.mem_of_getElem? hzi)
    exact ⟨i, z, hi, hzi, rfl, by omega⟩
  · rintro ⟨i, z, hi, hzi, rfl, _⟩
    exact ⟨i, z, hi, hzi, rfl⟩
theorem Wk.next {zs : List Int} {p : Nat} {now n : Int} {S : List On} (h : Wk zs p now S) (hn : 0 ≤ n) : Wk zs p (now + n) (beyond S (now + n)) := by
  intro o
  unfold beyond
  rw [List.mem_filter, h]
  constructor
  · rintro ⟨⟨i, z, hi, hzi, rfl, _⟩, h2⟩
    simp at h2
    exact ⟨i, z, hi, hzi, rfl, h2⟩
  · rintro ⟨i, z, hi, hzi, rfl, h2⟩
    exact ⟨⟨i, z, hi, hzi, rfl, by omega⟩, by simp; exact h2⟩
theorem Wk.woke {zs : List Int} {p : Nat} {now n x : Int} {S : List On} (h : Wk zs p now S) (hx : x ∈ ids (upto S (now + n))) : ∃ i z, i < p ∧ zs[i]? = some z ∧ x = (i : Int) + 1 ∧ now < 1 + z ∧ 1 + z ≤ now + n := by
  unfold ids at hx
  obtain ⟨o, ho, rfl⟩ := List.mem_map.1 hx
  obtain ⟨h1, h2⟩ := List.mem_filter.1 ho
  obtain ⟨i, z, hi, hzi, rfl, h3⟩ := (h o).1 h1
  simp at h2
  exact ⟨i, z, hi, hzi, rfl, h3, h2⟩
theorem Wk.at {zs : List Int} {p i : Nat} {now z : Int} {S : List On} (h : Wk zs p now S) (hi : i < p) (hz : zs[i]? = some z) : has S ((i : Int) + 1) = decide (now < 1 + z) := by
  rw [Bool.eq_iff_iff, has_mem, decide_eq_true_iff]
  unfold ids
  rw [List.mem_map]
  constructor
  · rintro ⟨o, ho, he⟩
    obtain ⟨j, y, hj, hy, rfl, h3⟩ := (h o).1 ho
    simp only at he
    obtain rfl : j = i := by omega
    rw [hz] at hy
    injection hy with hy
    subst hy
    exact h3
  · intro h3
    exact ⟨_, (h _).2 ⟨i, z, hi, hz, rfl, h3⟩, rfl⟩
end Go.Proofs.Ytgknbjiocgcmdaa.Kp

