/- Queues in plain mathematics: lists of numbers of which no two have one in common; what the document says of pushing, popping and dropping. -/
namespace Go.Proofs.Ythljecllmdbbbaa
namespace Qp
/-- May this be the number of a queue of n? -/
def hasL (k n : Int) : Bool := decide (0 ≤ k ∧ k < n)
/-- May this be a number of m? -/
def hasN (g m : Int) : Bool := decide (1 ≤ g ∧ g ≤ m)
/-- The place of the first queue in which a number stands; behind all, if in none. -/
def idx (q : List (List Int)) (g : Int) : Nat := q.findIdx fun l => l.contains g
/-- In which queue a number stands; -1: in none. -/
def of (q : List (List Int)) (g : Int) : Int := if idx q g < q.length then (idx q g : Int) else -1
/-- All of a queue. -/
def all (q : List (List Int)) (k : Int) : List Int := if hasL k q.length then q.getD k.toNat [] else []
def push (q : List (List Int)) (m : Int) (k g : Int) : List (List Int) × Int :=
  if hasL k q.length && hasN g m then (if 0 ≤ of q g then (q, 5) else (q.set k.toNat (q.getD k.toNat [] ++ [g]), 0)) else (q, 1)
/-- All but one. -/
def but (g : Int) (l : List Int) : List Int := l.filter fun x => x != g
def drop (q : List (List Int)) (g : Int) : List (List Int) := q.map (but g)
def stands (q : List (List Int)) (g : Int) : Bool := decide (0 ≤ of q g)
def first (q : List (List Int)) (k : Int) : Int := (all q k).headD 0
def pop (q : List (List Int)) (k : Int) : List (List Int) := if (all q k).isEmpty then q else drop q (first q k)
def some? (q : List (List Int)) (k : Int) : Bool := !(all q k).isEmpty

/-- No two queues have one in common, none has one twice, all are of the numbers that may be. -/
structure Ok (m : Int) (q : List (List Int)) : Prop where
  one : ∀ (i j : Nat) l l' g, q[i]? = some l → q[j]? = some l' → g ∈ l → g ∈ l' → i = j
  nodup : ∀ (i : Nat) l, q[i]? = some l → l.Nodup
  mem : ∀ (i : Nat) l g, q[i]? = some l → g ∈ l → 1 ≤ g ∧ g ≤ m

theorem hasL_iff {k n : Int} : hasL k n = true ↔ 0 ≤ k ∧ k < n := by unfold hasL; simp
theorem hasN_iff {g m : Int} : hasN g m = true ↔ 1 ≤ g ∧ g ≤ m := by unfold hasN; simp
theorem idx_le (q : List (List Int)) (g : Int) : idx q g ≤ q.length := List.findIdx_le_length
theorem idx_of {q : List (List Int)} {g : Int} (h : idx q g < q.length) : ∃ l, q[idx q g]? = some l ∧ g ∈ l := by
  refine ⟨q[idx q g], List.getElem?_eq_getElem h, ?_⟩
  have := List.findIdx_getElem (p := fun l : List Int => l.contains g) (xs := q) (w := h)
  simpa [idx] using this
theorem idx_first {q : List (List Int)} {g : Int} {i : Nat} {l : List Int} (hi : q[i]? = some l) (hg : g ∈ l) : idx q g ≤ i := by
  obtain ⟨hlt, rfl⟩ := List.getElem?_eq_some_iff.1 hi
  unfold idx
  apply Nat.le_of_not_lt
  intro h
  have := List.not_of_lt_findIdx (p := fun l : List Int => l.contains g) (xs := q) h
  simp at this
  exact this hg
theorem of_none {q : List (List Int)} {g : Int} : of q g < 0 ↔ ∀ (i : Nat) l, q[i]? = some l → g ∉ l := by
  constructor
  · intro h i l hi hg
    have h1 := idx_first hi hg
    have h2 := (List.getElem?_eq_some_iff.1 hi).1
    unfold of at h
    rw [if_pos (by omega)] at h
    omega
  · intro h
    unfold of
    split
    · rename_i hlt
      obtain ⟨l, hl, hg⟩ := idx_of hlt
      exact absurd hg (h _ _ hl)
    · omega
theorem of_eq {m : Int} {q : List (List Int)} (h : Ok m q) {g : Int} {i : Nat} {l : List Int} (hi : q[i]? = some l) (hg : g ∈ l) : of q g = i := by
  have h1 := idx_first hi hg
  have h2 := (List.getElem?_eq_some_iff.1 hi).1
  have h3 : idx q g < q.length := by omega
  obtain ⟨l', hl', hg'⟩ := idx_of h3
  have := h.one _ _ _ _ _ hl' hi hg' hg
  unfold of
  rw [if_pos h3, this]
theorem of_ge (q : List (List Int)) (g : Int) : -1 ≤ of q g ∧ of q g < q.length ∨ of q g = -1 := by unfold of; split <;> omega
theorem of_at {q : List (List Int)} {g : Int} (h : 0 ≤ of q g) : ∃ i l, of q g = (i : Nat) ∧ q[i]? = some l ∧ g ∈ l := by
  unfold of at h ⊢
  split
  · rename_i hlt
    obtain ⟨l, hl, hg⟩ := idx_of hlt
    exact ⟨_, l, rfl, hl, hg⟩
  · rename_i hlt
    rw [if_neg hlt] at h
    omega
theorem mem_but {g x : Int} {l : List Int} : x ∈ but g l ↔ x ∈ l ∧ x ≠ g := by unfold but; simp
theorem but_none {g : Int} {l : List Int} (h : g ∉ l) : but g l = l := by
  unfold but
  rw [List.filter_eq_self]
  intro x hx
  simp
  intro e
  exact h (e ▸ hx)
theorem drop_at {q : List (List Int)} {g : Int} {i : Nat} : (drop q g)[i]? = (q[i]?).map (but g) := by unfold drop; rw [List.getElem?_map]
theorem drop_length (q : List (List Int)) (g : Int) : (drop q g).length = q.length := by unfold drop; simp
theorem ok_drop {m : Int} {q : List (List Int)} (h : Ok m q) (g : Int) : Ok m (drop q g) := by
  refine ⟨fun i j l l' x hi hj hx hx' => ?_, fun i l hi => ?_, fun i l x hi hx => ?_⟩
  · rw [drop_at] at hi hj
    obtain ⟨a, ha, rfl⟩ := Option.map_eq_some_iff.1 hi
    obtain ⟨b, hb, rfl⟩ := Option.map_eq_some_iff.1 hj
    exact h.one _ _ _ _ _ ha hb (mem_but.1 hx).1 (mem_but.1 hx').1
  · rw [drop_at] at hi
    obtain ⟨a, ha, rfl⟩ := Option.map_eq_some_iff.1 hi
    unfold but
    exact (h.nodup _ _ ha).sublist List.filter_sublist
  · rw [drop_at] at hi
    obtain ⟨a, ha, rfl⟩ := Option.map_eq_some_iff.1 hi
    exact h.mem _ _ _ ha (mem_but.1 hx).1
theorem drop_none {q : List (List Int)} {g : Int} (h : of q g < 0) : drop q g = q := by
  apply List.ext_getElem?
  intro i
  rw [drop_at]
  cases hi : q[i]? with
  | none => rfl
  | some l => simp [but_none (of_none.1 h i l hi)]
theorem set_at {q : List (List Int)} {k : Nat} {x : List Int} {i : Nat} {l : List Int} (h : (q.set k x)[i]? = some l) : (i = k ∧ l = x ∧ k < q.length) ∨ (i ≠ k ∧ q[i]? = some l) := by
  rw [List.getElem?_set] at h
  split at h
  · split at h
    · injection h with h; left; exact ⟨by omega, h.symm, by assumption⟩
    · cases h
  · right; exact ⟨by omega, h⟩
theorem ok_set_push {m : Int} {q : List (List Int)} (h : Ok m q) {k : Nat} {l : List Int} {g : Int} (hk : q[k]? = some l) (hg : of q g < 0) (h1 : 1 ≤ g) (h2 : g ≤ m) : Ok m (q.set k (l ++ [g])) := by
  have hno := of_none.1 hg
  refine ⟨fun i j a b x hi hj hx hx' => ?_, fun i a hi => ?_, fun i a x hi hx => ?_⟩
  · rcases set_at hi with ⟨e1, rfl, _⟩ | ⟨e1, hi'⟩ <;> rcases set_at hj with ⟨e2, rfl, _⟩ | ⟨e2, hj'⟩
    · omega
    · simp at hx
      rcases hx with hx | rfl
      · have := h.one _ _ _ _ _ hk hj' hx hx'; omega
      · exact absurd hx' (hno _ _ hj')
    · simp at hx'
      rcases hx' with hx' | rfl
      · have := h.one _ _ _ _ _ hi' hk hx hx'; omega
      · exact absurd hx (hno _ _ hi')
    · exact h.one _ _ _ _ _ hi' hj' hx hx'
  · rcases set_at hi with ⟨e1, rfl, _⟩ | ⟨e1, hi'⟩
    · rw [List.nodup_append]
      refine ⟨h.nodup _ _ hk, by simp, ?_⟩
      intro a ha b hb
      simp at hb
      subst hb
      intro e
      subst e
      exact hno _ _ hk ha
    · exact h.nodup _ _ hi'
  · rcases set_at hi with ⟨e1, rfl, _⟩ | ⟨e1, hi'⟩
    · simp at hx
      rcases hx with hx | rfl
      · exact h.mem _ _ _ hk hx
      · exact ⟨h1, h2⟩
    · exact h.mem _ _ _ hi' hx
theorem getD_at {q : List (List Int)} {k : Nat} (h : k < q.length) : q[k]? = some (q.getD k []) := by
  rw [List.getD_eq_getElem?_getD, List.getElem?_eq_getElem h]; rfl
theorem push_ok {m : Int} {q : List (List Int)} (h : Ok m q) (k g : Int) : Ok m (push q m k g).1 := by
  unfold push
  split
  · rename_i hh
    rw [Bool.and_eq_true, hasL_iff, hasN_iff] at hh
    split
    · exact h
    · exact ok_set_push h (getD_at (by omega)) (by omega) hh.2.1 hh.2.2
  · exact h
theorem push_length (q : List (List Int)) (m k g : Int) : (push q m k g).1.length = q.length := by
  unfold push; split
  · split <;> simp
  · rfl
theorem pop_ok {m : Int} {q : List (List Int)} (h : Ok m q) (k : Int) : Ok m (pop q k) := by
  unfold pop; split
  · exact h
  · exact ok_drop h _
theorem pop_length (q : List (List Int)) (k : Int) : (pop q k).length = q.length := by
  unfold pop; split
  · rfl
  · exact drop_length _ _
theorem all_at {q : List (List Int)} {k : Nat} {l : List Int} (h : q[k]? = some l) : all q k = l := by
  have hlt := (List.getElem?_eq_some_iff.1 h).1
  unfold all
  rw [if_pos (by rw [hasL_iff]; omega)]
  rw [List.getD_eq_getElem?_getD]
  simp [h]
theorem all_none {q : List (List Int)} {k : Int} (h : hasL k q.length = false) : all q k = [] := by unfold all; rw [h]; rfl
theorem all_mem {m : Int} {q : List (List Int)} (h : Ok m q) {k g : Int} (hg : g ∈ all q k) : of q g = k ∧ 1 ≤ g ∧ g ≤ m := by
  unfold all at hg
  split at hg
  · rename_i hh
    rw [hasL_iff] at hh
    have hat := getD_at (q := q) (k := k.toNat) (by omega)
    have := of_eq h hat hg
    exact ⟨by rw [this]; omega, h.mem _ _ _ hat hg⟩
  · simp at hg
/-- Distinct numbers of 1 to m: no more than m. -/
theorem len_le (m : Nat) (l : List Int) (hn : l.Nodup) (hm : ∀ g ∈ l, 1 ≤ g ∧ g ≤ (m : Int)) : l.length ≤ m := by
  induction m generalizing l with
  | zero =>
    cases l with
    | nil => simp
    | cons x t => have := hm x (by simp); omega
  | succ m ih =>
    by_cases h : ((m : Int) + 1) ∈ l
    · have h1 := ih (l.erase ((m : Int) + 1)) (hn.erase _) (fun g hg => by
        have := hm g (List.mem_of_mem_erase hg)
        have hne : g ≠ (m : Int) + 1 := fun e => by rw [List.Nodup.mem_erase_iff hn] at hg; exact hg.1 e
        omega)
      have h2 := List.length_erase_of_mem h
      omega
    · have := ih l hn (fun g hg => by have := hm g hg; have hne : g ≠ (m : Int) + 1 := fun e => h (e ▸ hg); omega)
      omega
theorem all_length {m : Nat} {q : List (List Int)} (h : Ok (m : Int) q) (k : Int) : (all q k).length ≤ m := by
  unfold all
  split
  · rename_i hh
    rw [hasL_iff] at hh
    have hat := getD_at (q := q) (k := k.toNat) (by omega)
    exact len_le m _ (h.nodup _ _ hat) (fun g hg => h.mem _ _ _ hat hg)
  · simp

/-- Who is next behind each of a row; 0 behind the last one. -/
def Links (N : Int → Int) : List Int → Prop
  | [] => True
  | x :: t => N x = t.headD 0 ∧ Links N t
theorem Links.congr {N M : Int → Int} : ∀ {l : List Int}, Links N l → (∀ x ∈ l, M x = N x) → Links M l
  | [], _, _ => trivial
  | x :: t, ⟨h1, h2⟩, hc => ⟨(hc x (by simp)).trans h1, h2.congr fun y hy => hc y (by simp [hy])⟩
/-- f, but at x it is v. -/
def upd (f : Int → Int) (x v : Int) : Int → Int := fun y => if y = x then v else f y
theorem upd_same (f : Int → Int) (x v : Int) : upd f x v x = v := by unfold upd; simp
theorem upd_ne (f : Int → Int) {x y : Int} (v : Int) (h : y ≠ x) : upd f x v y = f y := by unfold upd; simp [h]
theorem links_end {N : Int → Int} {g : Int} : ∀ {l : List Int}, Links N l → (l ++ [g]).Nodup → N g = 0 → l ≠ [] → Links (upd N (l.getLastD 0) g) (l ++ [g])
  | [], _, _, _, h => absurd rfl h
  | [x], _, hn, h0, _ => by
    have hne : g ≠ x := by simp at hn; exact fun e => hn e.symm
    exact ⟨by simp [upd], by simp [Links]; rw [upd_ne _ _ hne]; exact h0⟩
  | x :: y :: t, ⟨h1, h2⟩, hn, h0, _ => by
    have hn2 : (y :: t ++ [g]).Nodup := by simp only [List.cons_append, List.nodup_cons] at hn ⊢; exact hn.2
    have ih := links_end h2 hn2 h0 (by simp)
    have hl : (x :: y :: t).getLastD 0 = (y :: t).getLastD 0 := by simp [List.getLastD]
    rw [hl]
    refine ⟨?_, ih⟩
    rw [upd_ne]
    · rw [h1]; rfl
    · intro e
      have hx : x ∉ y :: t := by
        simp only [List.cons_append, List.nodup_cons, List.mem_cons, List.mem_append] at hn ⊢
        intro hx; apply hn.1; rcases hx with hx | hx <;> simp [hx]
      apply hx
      rw [e]
      simp [List.getLastD]
theorem links_one {N : Int → Int} {g : Int} (h0 : N g = 0) : Links N [g] := ⟨h0, trivial⟩
theorem links_after {N : Int → Int} {g : Int} : ∀ {a c : List Int}, Links N (a ++ g :: c) → N g = c.headD 0 ∧ Links N c
  | [], _, ⟨h1, h2⟩ => ⟨h1, h2⟩
  | _ :: a, _, ⟨_, h2⟩ => links_after (a := a) h2
/-- Who stood behind one is behind who stood ahead of it. -/
theorem links_out {N : Int → Int} {g : Int} : ∀ {a c : List Int}, Links N (a ++ g :: c) → (a ++ g :: c).Nodup → a ≠ [] → Links (upd N (a.getLastD 0) (c.headD 0)) (a ++ c)
  | [], _, _, _, h => absurd rfl h
  | [x], c, ⟨h1, h2⟩, hn, _ => by
    refine ⟨by simp [upd], ?_⟩
    refine (links_after (a := []) h2).2.congr fun y hy => ?_
    have hne : y ≠ x := by
      intro e; subst e
      simp at hn
      exact hn.1.2 hy
    simp only [List.getLastD_cons, List.getLastD_nil]
    exact upd_ne _ _ hne
  | x :: y :: t, c, ⟨h1, h2⟩, hn, _ => by
    have hn2 : (y :: t ++ g :: c).Nodup := by simp only [List.cons_append, List.nodup_cons] at hn ⊢; exact hn.2
    have ih := links_out (a := y :: t) h2 hn2 (by simp)
    have hl : (x :: y :: t).getLastD 0 = (y :: t).getLastD 0 := by simp [List.getLastD]
    rw [hl]
    refine ⟨?_, ih⟩
    rw [upd_ne]
    · rw [h1]; rfl
    · intro e
      have hx : x ∉ y :: t := by
        simp only [List.cons_append, List.nodup_cons, List.mem_cons, List.mem_append] at hn ⊢
        intro hx; apply hn.1; rcases hx with hx | hx <;> simp [hx]
      apply hx
      rw [e]
      simp [List.getLastD]
end Qp
end Go.Proofs.Ythljecllmdbbbaa

