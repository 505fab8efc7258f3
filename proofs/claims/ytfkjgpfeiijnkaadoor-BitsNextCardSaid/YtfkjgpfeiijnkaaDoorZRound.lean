/- Going round a list that rises, in plain mathematics. -/
import Derived.Test.YtfkjgpfeiijnkaaDoorZPlain
namespace Go.Proofs.YtfkjgpfeiijnkaaDoor.Zp

theorem nextL_at {l : List Int} (h : l ≠ []) (n : Int) : ∃ j, j < l.length ∧ l[j]? = some (nextL l n) := by
  cases l with
  | nil => exact absurd rfl h
  | cons a t =>
    show ∃ j, j < (a :: t).length ∧ (a :: t)[j]? = some (if n < 0 ∨ 63 < n then a else ((a :: t).find? fun z => decide (n ≤ z)).getD a)
    by_cases hn : n < 0 ∨ 63 < n
    · rw [if_pos hn]; exact ⟨0, by simp, rfl⟩
    · rw [if_neg hn]
      cases hf : (a :: t).find? fun z => decide (n ≤ z) with
      | none => exact ⟨0, by simp, rfl⟩
      | some z =>
        obtain ⟨j, hj⟩ := List.mem_iff_getElem?.1 (List.mem_of_find?_eq_some hf)
        exact ⟨j, (List.getElem?_eq_some_iff.1 hj).1, hj⟩
theorem rises_at {l : List Int} (h : l.Pairwise (· < ·)) {i j : Nat} {a b : Int} (hi : l[i]? = some a) (hj : l[j]? = some b) (hij : i < j) : a < b := by
  obtain ⟨h1, rfl⟩ := List.getElem?_eq_some_iff.1 hi
  obtain ⟨h2, rfl⟩ := List.getElem?_eq_some_iff.1 hj
  exact List.pairwise_iff_getElem.1 h i j h1 h2 hij
theorem find_at {l : List Int} (_h : l.Pairwise (· < ·)) {i : Nat} {b n : Int} (hi : l[i]? = some b) (hb : n ≤ b) (hlow : ∀ j, j < i → ∀ a, l[j]? = some a → a < n) : l.find? (fun z => decide (n ≤ z)) = some b := by
  have hk := (List.getElem?_eq_some_iff.1 hi).1
  have e : l = l.take i ++ b :: l.drop (i + 1) := by
    rw [← (List.getElem?_eq_some_iff.1 hi).2, List.getElem_cons_drop, List.take_append_drop]
  rw [e, List.find?_append, List.find?_eq_none.2 (fun z hz => ?_)]
  · simp [hb]
  · obtain ⟨j, hj⟩ := List.mem_iff_getElem?.1 hz
    rw [List.getElem?_take] at hj
    split at hj
    · have := hlow j (by omega) z hj
      simp; omega
    · cases hj
/-- From a member's successor on: the next one, round and round. -/
theorem nextL_round {l : List Int} (h : l.Pairwise (· < ·)) (hin : ∀ z ∈ l, 0 ≤ z ∧ z < 64) {j : Nat} {a : Int} (hj : l[j]? = some a) : l[(j + 1) % l.length]? = some (nextL l ((a + 1) % 64)) := by
  have hjl := (List.getElem?_eq_some_iff.1 hj).1
  obtain ⟨h0, h1⟩ := hin a (List.mem_of_getElem? hj)
  obtain ⟨c, t, rfl⟩ : ∃ c t, l = c :: t := by cases l with | nil => simp at hjl | cons c t => exact ⟨c, t, rfl⟩
  show _ = some (if (a + 1) % 64 < 0 ∨ 63 < (a + 1) % 64 then c else ((c :: t).find? fun z => decide ((a + 1) % 64 ≤ z)).getD c)
  rw [if_neg (by omega)]
  have hc : (c :: t)[0]? = some c := rfl
  by_cases hl : j + 1 = (c :: t).length
  · rw [hl, Nat.mod_self, hc]
    congr 1
    by_cases h63 : a = 63
    · subst h63
      have := hin c (List.mem_of_getElem? hc)
      rw [find_at h hc (by omega) (fun j hj => absurd hj (Nat.not_lt_zero j))]; rfl
    · rw [List.find?_eq_none.2 (fun z hz => ?_)]
      · rfl
      · obtain ⟨i, hi⟩ := List.mem_iff_getElem?.1 hz
        have hil := (List.getElem?_eq_some_iff.1 hi).1
        have : z ≤ a := by
          by_cases e : i = j
          · subst e; rw [hi] at hj; injection hj with hj; omega
          · have := rises_at h hi hj (by omega); omega
        simp; omega
  · have hlt : j + 1 < (c :: t).length := by omega
    obtain ⟨b, hb⟩ : ∃ b, (c :: t)[j + 1]? = some b := ⟨_, List.getElem?_eq_getElem hlt⟩
    have hab := rises_at h hj hb (by omega)
    have hbin := hin b (List.mem_of_getElem? hb)
    rw [Nat.mod_eq_of_lt hlt, hb, find_at h hb (by omega) (fun i hi z hz => ?_)]
    · rfl
    · have : z ≤ a := by
        by_cases e : i = j
        · subst e; rw [hz] at hj; injection hj with hj; omega
        · have := rises_at h hz hj (by omega); omega
      omega
theorem rises_ne {l : List Int} (h : l.Pairwise (· < ·)) {i j : Nat} {a b : Int} (hi : l[i]? = some a) (hj : l[j]? = some b) (hij : i ≠ j) : a ≠ b := by
  rcases Nat.lt_or_gt_of_ne hij with e | e
  · have := rises_at h hi hj e; omega
  · have := rises_at h hj hi e; omega
end Go.Proofs.YtfkjgpfeiijnkaaDoor.Zp

