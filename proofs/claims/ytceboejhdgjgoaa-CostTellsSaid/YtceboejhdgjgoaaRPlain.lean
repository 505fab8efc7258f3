/- Rings in plain mathematics: who is next, and a row of others. -/
namespace Go.Proofs.Ytceboejhdgjgoaa.Rp
set_option linter.unusedVariables false

/-- Sizes below 2 count as 2. -/
def sz (s : Int) : Nat := if s < 2 then 2 else s.toNat
def add (r : Int × List Int) (g s : Int) : (Int × List Int) × List Int :=
  if r.2.length < sz s then ((r.1, r.2 ++ [g]), []) else ((r.1, r.2.drop (sz s / 2)), r.2.take (sz s / 2) ++ [g])
def put (r : Int × List Int) (g s : Int) : (Int × List Int) × List Int :=
  if r.1 = 0 then ((g, r.2), []) else add (g, r.2) r.1 s
def take (r : Int × List Int) : (Int × List Int) × Int :=
  if r.1 = 0 then ((0, r.2.drop 1), r.2.headD 0) else ((0, r.2), r.1)
def all (r : Int × List Int) : List Int := if r.1 = 0 then r.2 else r.1 :: r.2
/-- The first half, rounded up. -/
def hf (l : List Int) : Nat := l.length - l.length / 2
def half (r : Int × List Int) : (Int × List Int) × List Int :=
  if r.2.length = 0 then ((0, []), all r) else ((r.1, r.2.drop (hf r.2)), r.2.take (hf r.2))
/-- All above 0, each once. -/
def Once (l : List Int) : Prop := (∀ x ∈ l, 1 ≤ x) ∧ l.Nodup
instance (l : List Int) : Decidable (Once l) := by unfold Once; infer_instance
def may (r : Int × List Int) (s : Int) : Bool := decide (r.2.length ≤ sz s) && decide (Once (all r))

theorem sz_two (s : Int) : 2 ≤ sz s := by unfold sz; split <;> omega
theorem sz_low {s : Int} (h : s < 2) : sz s = 2 := by unfold sz; rw [if_pos h]
theorem sz_high {s : Int} (h : 2 ≤ s) : ((sz s : Nat) : Int) = s := by unfold sz; rw [if_neg (by omega)]; omega
theorem sz_nat (n : Nat) (h : 2 ≤ n) : sz (n : Int) = n := by unfold sz; rw [if_neg (by omega)]; omega
theorem half_le (l : List Int) (s : Int) (h : ¬ l.length < sz s) : sz s / 2 ≤ l.length := by omega
theorem hf_le (l : List Int) : hf l ≤ l.length := by unfold hf; omega
theorem all_length (r : Int × List Int) : (all r).length ≤ r.2.length + 1 := by
  unfold all; split <;> simp

/-! ### Nothing is lost -/
theorem perm_add (r : Int × List Int) (g s : Int) : (all (add r g s).1 ++ (add r g s).2).Perm (all r ++ [g]) := by
  unfold add all
  by_cases h : r.2.length < sz s
  · rw [if_pos h]
    simp only
    split <;> simp
  · rw [if_neg h]
    simp only
    have e : r.2 = r.2.take (sz s / 2) ++ r.2.drop (sz s / 2) := (List.take_append_drop _ _).symm
    have p : (r.2.drop (sz s / 2) ++ (r.2.take (sz s / 2) ++ [g])).Perm (r.2 ++ [g]) := by
      conv => rhs; rw [e]
      rw [← List.append_assoc]
      exact List.Perm.append_right _ List.perm_append_comm
    split
    · exact p
    · simpa using List.Perm.cons r.1 p
theorem perm_put (r : Int × List Int) (g s : Int) (hg : g ≠ 0) : (all (put r g s).1 ++ (put r g s).2).Perm (all r ++ [g]) := by
  unfold put
  by_cases h : r.1 = 0
  · rw [if_pos h]
    unfold all
    simp only [h, if_pos, if_neg hg, List.append_nil]
    exact (List.perm_append_comm (l₁ := [g]) (l₂ := r.2))
  · rw [if_neg h]
    refine (perm_add (g, r.2) r.1 s).trans ?_
    unfold all
    simp only [if_neg hg, if_neg h]
    have p : (g :: (r.2 ++ [r.1])).Perm (r.1 :: (r.2 ++ [g])) := by
      have p1 : (r.2 ++ [r.1]).Perm (r.1 :: r.2) := List.perm_append_comm (l₁ := r.2) (l₂ := [r.1])
      have p2 : (r.2 ++ [g]).Perm (g :: r.2) := List.perm_append_comm (l₁ := r.2) (l₂ := [g])
      exact ((List.Perm.cons g p1).trans (List.Perm.swap _ _ _)).trans (List.Perm.cons r.1 p2.symm)
    simpa using p
theorem perm_half (r : Int × List Int) : (all (half r).1 ++ (half r).2).Perm (all r) := by
  unfold half
  by_cases h : r.2.length = 0
  · rw [if_pos h]
    show (all (0, []) ++ all r).Perm (all r)
    rw [show all (0, []) = [] from rfl, List.nil_append]
  · rw [if_neg h]
    unfold all
    simp only
    have e : r.2 = r.2.take (hf r.2) ++ r.2.drop (hf r.2) := (List.take_append_drop _ _).symm
    have p : (r.2.drop (hf r.2) ++ r.2.take (hf r.2)).Perm r.2 := by
      conv => rhs; rw [e]
      exact List.perm_append_comm
    split
    · exact p
    · exact List.Perm.cons _ p
/-- What is taken ahead of what is left: all, if none of the row is 0. -/
def told (r : Int × List Int) : List Int := if (take r).2 = 0 then all (take r).1 else (take r).2 :: all (take r).1
theorem told_all (r : Int × List Int) (h : (0 : Int) ∉ r.2) : told r = all r := by
  unfold told take all
  by_cases h1 : r.1 = 0
  · rw [if_pos h1]
    obtain ⟨n, l⟩ := r
    cases l with
    | nil => simp_all
    | cons x xs =>
      have : x ≠ 0 := fun e => h (by simp [e])
      simp_all
  · rw [if_neg h1]
    simp_all

/-! ### Sizes, and who may be -/
theorem Once.perm {a b : List Int} (h : Once a) (p : a.Perm b) : Once b := ⟨fun x hx => h.1 x (p.mem_iff.2 hx), p.nodup_iff.1 h.2⟩
theorem Once.left {a b : List Int} (h : Once (a ++ b)) : Once a := ⟨fun x hx => h.1 x (List.mem_append_left _ hx), (List.nodup_append.1 h.2).1⟩
theorem Once.snoc {a : List Int} {g : Int} (h : Once a) (hg : 1 ≤ g) (hn : g ∉ a) : Once (a ++ [g]) := by
  refine ⟨fun x hx => ?_, ?_⟩
  · rcases List.mem_append.1 hx with h1 | h1
    · exact h.1 x h1
    · rw [List.mem_singleton] at h1; omega
  · rw [List.nodup_append]
    refine ⟨h.2, List.nodup_cons.2 ⟨by simp, List.nodup_nil⟩, fun x hx y hy => ?_⟩
    rw [List.mem_singleton] at hy
    subst hy
    exact fun e => hn (e ▸ hx)
/-- A ring whose row is no longer than n, whose members are from 1 to k, each once. -/
def Good (r : Int × List Int) (n k : Nat) : Prop := r.2.length ≤ n ∧ Once (all r) ∧ ∀ x ∈ all r, x ≤ k
theorem Good.may {r : Int × List Int} {n k : Nat} (h : Good r n k) (hn : 2 ≤ n) : Rp.may r n = true := by
  unfold Rp.may
  rw [sz_nat n hn]
  simp [h.1, h.2.1]
theorem Good.nil (n : Nat) : Good (0, []) n 0 := ⟨Nat.zero_le _, ⟨fun x hx => (List.not_mem_nil hx).elim, List.nodup_nil⟩, fun x hx => (List.not_mem_nil hx).elim⟩
theorem add_len (r : Int × List Int) (g : Int) (n : Nat) (hn : 2 ≤ n) (h : r.2.length ≤ n) : (add r g n).1.2.length ≤ n ∧ ((add r g n).2 = [] ∨ (add r g n).2.length = n / 2 + 1) := by
  unfold add
  rw [sz_nat n hn]
  by_cases h1 : r.2.length < n
  · rw [if_pos h1]
    simp; omega
  · rw [if_neg h1]
    simp; omega
theorem put_len (r : Int × List Int) (g : Int) (n : Nat) (hn : 2 ≤ n) (h : r.2.length ≤ n) : (put r g n).1.2.length ≤ n ∧ ((put r g n).2 = [] ∨ (put r g n).2.length = n / 2 + 1) := by
  unfold put
  by_cases h1 : r.1 = 0
  · rw [if_pos h1]; exact ⟨h, .inl rfl⟩
  · rw [if_neg h1]; exact add_len (g, r.2) r.1 n hn h
theorem Good.grow {r r' : Int × List Int} {t : List Int} {n k : Nat} (h : Good r n k) (hl : r'.2.length ≤ n) (hp : (all r' ++ t).Perm (all r ++ [((k + 1 : Nat) : Int)])) : Good r' n (k + 1) := by
  have o : Once (all r ++ [((k + 1 : Nat) : Int)]) := h.2.1.snoc (by omega) fun hm => by have := h.2.2 _ hm; omega
  have o2 := o.perm hp.symm
  refine ⟨hl, o2.left, fun x hx => ?_⟩
  have := hp.mem_iff.1 (List.mem_append_left _ hx)
  rcases List.mem_append.1 this with h1 | h1
  · have := h.2.2 x h1; omega
  · rw [List.mem_singleton] at h1; omega
theorem Good.add {r : Int × List Int} {n k : Nat} (h : Good r n k) (hn : 2 ≤ n) : Good (Rp.add r ((k + 1 : Nat) : Int) n).1 n (k + 1) :=
  h.grow (add_len r _ n hn h.1).1 (perm_add r _ n)
theorem Good.put {r : Int × List Int} {n k : Nat} (h : Good r n k) (hn : 2 ≤ n) : Good (Rp.put r ((k + 1 : Nat) : Int) n).1 n (k + 1) :=
  h.grow (put_len r _ n hn h.1).1 (perm_put r _ n (by omega))
theorem half_len (r : Int × List Int) : (half r).1.2.length ≤ (half r).2.length ∧ (half r).2.length ≤ (half r).1.2.length + 1 ∧ (half r).1.2.length ≤ r.2.length := by
  unfold half
  by_cases h : r.2.length = 0
  · rw [if_pos h]
    have := all_length r
    simp; omega
  · rw [if_neg h]
    simp [hf]; omega
theorem Good.half {r : Int × List Int} {n k : Nat} (h : Good r n k) : Good (Rp.half r).1 n k := by
  have p := perm_half r
  have o := h.2.1.perm p.symm
  refine ⟨Nat.le_trans (half_len r).2.2 h.1, o.left, fun x hx => h.2.2 x (p.mem_iff.1 (List.mem_append_left _ hx))⟩

/-! ### Halved again and again -/
/-- The row, then who is next. -/
def turn (r : Int × List Int) : List Int := if r.1 = 0 then r.2 else r.2 ++ [r.1]
theorem turn_half (r : Int × List Int) : (half r).2 ++ turn (half r).1 = turn r := by
  unfold half
  by_cases h : r.2.length = 0
  · rw [if_pos h]
    have e : r.2 = [] := List.length_eq_zero_iff.1 h
    unfold turn all
    simp only [e]
    split <;> simp
  · rw [if_neg h]
    unfold turn
    simp only
    have e : r.2.take (hf r.2) ++ r.2.drop (hf r.2) = r.2 := List.take_append_drop _ _
    split
    · exact e
    · rw [← List.append_assoc, e]
/-- Behind j halvings the row is as short; behind nine nobody is there. -/
def Cut (r : Int × List Int) (j : Nat) : Prop := r.2.length ≤ 200 / 2 ^ j ∧ (9 ≤ j → r = (0, []))
theorem Cut.half {r : Int × List Int} {j : Nat} (h : Cut r j) : Cut (Rp.half r).1 (j + 1) := by
  obtain ⟨h1, h2⟩ := h
  have hd : 200 / 2 ^ (j + 1) = 200 / 2 ^ j / 2 := by rw [Nat.pow_succ, Nat.div_div_eq_div_mul]
  unfold Cut Rp.half
  by_cases h0 : r.2.length = 0
  · rw [if_pos h0]
    exact ⟨by simp, fun _ => rfl⟩
  · rw [if_neg h0]
    refine ⟨?_, fun hj => ?_⟩
    · rw [hd]; simp [hf]; omega
    · exfalso
      have h8 : 200 / 2 ^ j = 0 := by
        refine Nat.div_eq_of_lt ?_
        have := Nat.pow_le_pow_right (n := 2) (by omega) (show 8 ≤ j by omega)
        omega
      omega

/-! ### Taken one by one -/
/-- Nobody of the row is 0: what is taken is the first of all, and all others are left. -/
theorem take_all (r : Int × List Int) (h : (0 : Int) ∉ r.2) : (take r).2 = (all r).headD 0 ∧ all (take r).1 = (all r).drop 1 ∧ (0 : Int) ∉ (take r).1.2 ∧ (take r).1.2.length ≤ r.2.length := by
  unfold take all
  by_cases h1 : r.1 = 0
  · rw [if_pos h1]
    simp only [h1, if_pos]
    refine ⟨by first | trivial | rfl, by first | trivial | rfl, fun hm => h (List.mem_of_mem_drop hm), by simp⟩
  · rw [if_neg h1]
    simp only [if_neg h1]
    refine ⟨by simp, by simp, h, Nat.le_refl _⟩
theorem all_zero {r : Int × List Int} (h : (0 : Int) ∉ r.2) : (0 : Int) ∉ all r := by
  unfold all
  split
  · exact h
  · rename_i h1
    intro hm
    rcases List.mem_cons.1 hm with e | e
    · exact h1 e.symm
    · exact h e
end Go.Proofs.Ytceboejhdgjgoaa.Rp

