/- Timers that rise: put in where they belong, dropped, the first one; sums. -/
import Derived.Test.YtgknbjiocgcmdaaHPlain
namespace Go.Proofs.Ytgknbjiocgcmdaa.Hp
set_option linter.unusedVariables false

def Sorted (l : List Tm) : Prop := l.Pairwise Le
def lb (x y : Tm) : Bool := decide (Le x y)
/-- All, in order. -/
def srt (l : List Tm) : List Tm := l.mergeSort lb
theorem lb_trans (a b c : Tm) (h : lb a b = true) (k : lb b c = true) : lb a c = true := decide_eq_true (le_trans (of_decide_eq_true h) (of_decide_eq_true k))
theorem lb_total (a b : Tm) : (lb a b || lb b a) = true := by
  rcases le_total a b with h | h <;> simp [lb, h]
theorem srt_perm (l : List Tm) : (srt l).Perm l := List.mergeSort_perm l lb
theorem srt_sorted (l : List Tm) : Sorted (srt l) := (List.pairwise_mergeSort lb_trans lb_total l).imp (fun h => of_decide_eq_true h)
theorem sorted_one {a b : List Tm} (ha : Sorted a) (hb : Sorted b) (h : a.Perm b) : a = b :=
  List.Perm.eq_of_pairwise (le := Le) (fun x y _ _ h1 h2 => le_antisymm h1 h2) ha hb h
theorem srt_of {a l : List Tm} (ha : Sorted a) (h : a.Perm l) : srt l = a := sorted_one (srt_sorted l) ha ((srt_perm l).trans h.symm)
theorem srt_congr {a b : List Tm} (h : a.Perm b) : srt a = srt b := sorted_one (srt_sorted a) (srt_sorted b) ((srt_perm a).trans (h.trans (srt_perm b).symm))
theorem srt_length (l : List Tm) : (srt l).length = l.length := (srt_perm l).length_eq
theorem sorted_nil : Sorted [] := List.Pairwise.nil
theorem sorted_tail {x : Tm} {l : List Tm} (h : Sorted (x :: l)) : Sorted l := (List.pairwise_cons.1 h).2
/-- What stands first in order is what is first in the heap. -/
theorem head_first {l s : List Tm} {x : Tm} (h : Heap l) (hx : l[0]? = some x) (hs : Sorted s) (hp : s.Perm l) : s[0]? = some x := by
  cases s with
  | nil => have := hp.length_eq; have := (List.getElem?_eq_some_iff.1 hx).1; simp at *; omega
  | cons y s =>
    have h1 : Le x y := by
      have hm : y ∈ l := hp.mem_iff.1 (by simp)
      obtain ⟨i, hi⟩ := List.mem_iff_getElem?.1 hm
      exact heap_first h hx i y hi
    have h2 : Le y x := by
      have hm : x ∈ y :: s := hp.mem_iff.2 (List.mem_of_getElem? hx)
      rcases List.mem_cons.1 hm with e | e
      · rw [e]; exact le_refl _
      · exact (List.pairwise_cons.1 hs).1 x e
    rw [le_antisymm h1 h2]
    rfl
/-- The first one taken from both. -/
theorem take_both {l l' s : List Tm} {x : Tm} (h : Heap l) (hx : l[0]? = some x) (hs : Sorted s) (hp : s.Perm l) (hl : (x :: l').Perm l) : Sorted (s.drop 1) ∧ (s.drop 1).Perm l' ∧ s[0]? = some x := by
  have h0 := head_first h hx hs hp
  cases s with
  | nil => simp at h0
  | cons y s =>
    simp at h0
    subst h0
    exact ⟨sorted_tail hs, (List.perm_cons y).1 (hp.trans hl.symm), rfl⟩
/-- Put in behind all that it isn't ahead of. -/
theorem put_sorted {l : List Tm} {t : Tm} {k : Nat} (h : Sorted l) (hb : ∀ (j : Nat) x, j < k → l[j]? = some x → ¬ Lt t x) (ha : ∀ x, l[k]? = some x → Lt t x) : Sorted (l.take k ++ [t] ++ l.drop k) := by
  have hall : Sorted (l.take k ++ l.drop k) := by rw [List.take_append_drop]; exact h
  obtain ⟨p1, p2, p3⟩ := List.pairwise_append.1 hall
  have hbe : ∀ x ∈ l.take k, Le x t := by
    intro x hx
    obtain ⟨j, hj⟩ := List.mem_iff_getElem?.1 hx
    rw [List.getElem?_take] at hj
    split at hj
    · exact hb j x (by assumption) hj
    · cases hj
  have haf : ∀ x ∈ l.drop k, Le t x := by
    intro x hx
    cases hd : l.drop k with
    | nil => rw [hd] at hx; cases hx
    | cons y r =>
      have hy : l[k]? = some y := by
        have : (l.drop k)[0]? = some y := by rw [hd]; rfl
        rw [List.getElem?_drop] at this
        simpa using this
      have h1 := le_of_lt (ha y hy)
      rw [hd] at hx p2
      rcases List.mem_cons.1 hx with e | e
      · rw [e]; exact h1
      · exact le_trans h1 ((List.pairwise_cons.1 p2).1 x e)
  rw [List.append_assoc]
  refine List.pairwise_append.2 ⟨p1, ?_, ?_⟩
  · exact List.pairwise_cons.2 ⟨haf, p2⟩
  · intro a ha' b hb'
    rcases List.mem_cons.1 hb' with e | e
    · rw [e]; exact hbe a ha'
    · exact p3 a ha' b e
theorem put_perm (l : List Tm) (t : Tm) (k : Nat) : (l.take k ++ [t] ++ l.drop k).Perm (l ++ [t]) := by
  have e : l ++ [t] = l.take k ++ l.drop k ++ [t] := by rw [List.take_append_drop]
  rw [e, List.append_assoc, List.append_assoc]
  exact List.Perm.append_left _ (List.perm_append_comm (l₁ := [t]) (l₂ := l.drop k))

/-! ### Dropped -/
def others (l : List Tm) (g : Int) : List Tm := l.filter fun x => !(x.2.2 == g)
theorem others_sorted {l : List Tm} (h : Sorted l) (g : Int) : Sorted (others l g) := List.Pairwise.filter _ h
theorem others_perm {a b : List Tm} (h : a.Perm b) (g : Int) : (others a g).Perm (others b g) := h.filter _
theorem others_le (l : List Tm) (g : Int) : (others l g).length ≤ l.length := List.length_filter_le _ _
theorem others_mem {l : List Tm} {g : Int} {x : Tm} (h : x ∈ others l g) : x.2.2 ≠ g := by
  have := (List.mem_filter.1 h).2
  simpa using this
theorem others_snoc (l : List Tm) (x : Tm) (g : Int) : others (l ++ [x]) g = if x.2.2 = g then others l g else others l g ++ [x] := by
  unfold others
  rw [List.filter_append]
  by_cases e : x.2.2 = g
  · rw [if_pos e, List.filter_cons_of_neg (by simp [e]), List.filter_nil, List.append_nil]
  · rw [if_neg e, List.filter_cons_of_pos (by simp [e]), List.filter_nil]
theorem others_take {l : List Tm} {k : Nat} {x : Tm} (h : l[k]? = some x) (g : Int) : others (l.take (k + 1)) g = if x.2.2 = g then others (l.take k) g else others (l.take k) g ++ [x] := by
  rw [List.take_add_one, h]
  exact others_snoc _ _ _

/-! ### Dropped in place -/
/-- Of those ahead of j the ones that stay stand at the front, i of them; from j on all is as it was. -/
structure Del (l m : List Tm) (g : Int) (i j : Nat) : Prop where
  len : m.length = l.length
  lt : i < j
  le : j ≤ l.length
  done : m.take i = others (l.take j) g
  rest : ∀ k : Nat, j ≤ k → m[k]? = l[k]?
theorem others_all {l : List Tm} {g : Int} (h : ∀ (j : Nat) x, l[j]? = some x → x.2.2 ≠ g) : others l g = l := by
  unfold others
  rw [List.filter_eq_self]
  intro x hx
  obtain ⟨j, hj⟩ := List.mem_iff_getElem?.1 hx
  simpa using h j x hj
theorem Del.start {l : List Tm} {g : Int} {k : Nat} {x : Tm} (hx : l[k]? = some x) (hg : x.2.2 = g) (h : ∀ (j : Nat) y, j < k → l[j]? = some y → y.2.2 ≠ g) : Del l l g k (k + 1) := by
  have hl := (List.getElem?_eq_some_iff.1 hx).1
  refine ⟨rfl, by omega, by omega, ?_, fun _ _ => rfl⟩
  rw [others_take hx, if_pos hg, others_all]
  intro j y hj
  rw [List.getElem?_take] at hj
  split at hj
  · exact h j y (by assumption) hj
  · cases hj
theorem Del.skip {l m : List Tm} {g : Int} {i j : Nat} {x : Tm} (h : Del l m g i j) (hx : l[j]? = some x) (hg : x.2.2 = g) : Del l m g i (j + 1) :=
  ⟨h.len, by have := h.lt; omega, (List.getElem?_eq_some_iff.1 hx).1, by rw [others_take hx, if_pos hg]; exact h.done, fun k hk => h.rest k (by omega)⟩
theorem Del.keep {l m : List Tm} {g : Int} {i j : Nat} {x : Tm} (h : Del l m g i j) (hx : l[j]? = some x) (hg : x.2.2 ≠ g) : Del l (m.set i x) g (i + 1) (j + 1) := by
  have hl := (List.getElem?_eq_some_iff.1 hx).1
  have h1 := h.lt
  have h2 := h.len
  refine ⟨by rw [List.length_set]; exact h.len, by omega, by omega, ?_, fun k hk => ?_⟩
  · rw [others_take hx, if_neg hg, ← h.done, List.take_add_one, List.getElem?_set, if_pos rfl, if_pos (by omega), List.take_set_of_le (Nat.le_refl _)]
    rfl
  · rw [List.getElem?_set, if_neg (by omega)]
    exact h.rest k (by omega)
theorem Del.over {l m : List Tm} {g : Int} {i : Nat} (h : Del l m g i l.length) : m.take i = others l g := by
  have := h.done
  rwa [List.take_length] at this
theorem Del.count {l m : List Tm} {g : Int} {i : Nat} (h : Del l m g i l.length) : (others l g).length = i := by
  rw [← h.over, List.length_take, h.len]
  have := h.lt
  omega
end Go.Proofs.Ytgknbjiocgcmdaa.Hp

