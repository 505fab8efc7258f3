/- Costs in plain mathematics: sums, cut off at the greatest cost. -/
namespace Go.Proofs.Ytceboejhdgjgoaa.Gp
set_option linter.unusedVariables false

/-- How far, and how often. -/
abbrev Cst := Int × Int
def May (c : Cst) : Prop := 0 ≤ c.2 ∧ c.2 ≤ c.1 ∧ c.1 ≤ 65535
instance (c : Cst) : Decidable (May c) := by unfold May; infer_instance
def add (c : Cst) (far : Int) : Cst := if far < 1 then c else (min (c.1 + far) 65535, min (c.2 + 1) 65535)
def join (a b : Cst) : Cst := (min (a.1 + b.1) 65535, min (a.2 + b.2) 65535)
def sum (l : List Int) : Cst := l.foldl add (0, 0)
/-- All ways together, and as many as there were. -/
def tot (l : List Int) : Int := (l.map fun x => max x 0).sum
def many (l : List Int) : Int := ((l.filter fun x => decide (1 ≤ x)).length : Int)
theorem tot_nil : tot [] = 0 := rfl
theorem tot_cons (x : Int) (l : List Int) : tot (x :: l) = max x 0 + tot l := by simp [tot]
theorem tot_append (a b : List Int) : tot (a ++ b) = tot a + tot b := by simp [tot]
theorem tot_nonneg (l : List Int) : 0 ≤ tot l := by
  induction l with
  | nil => exact Int.le_refl _
  | cons x l ih => rw [tot_cons]; omega
theorem many_nil : many [] = 0 := rfl
theorem many_cons (x : Int) (l : List Int) : many (x :: l) = (if 1 ≤ x then 1 else 0) + many l := by
  unfold many
  by_cases h : 1 ≤ x <;> simp [h] <;> omega
theorem many_append (a b : List Int) : many (a ++ b) = many a + many b := by simp [many]
theorem many_nonneg (l : List Int) : 0 ≤ many l := by unfold many; omega
theorem many_le (l : List Int) : many l ≤ tot l := by
  induction l with
  | nil => exact Int.le_refl _
  | cons x l ih => rw [many_cons, tot_cons]; split <;> omega
theorem may_zero : May (0, 0) := by decide
theorem add_may {c : Cst} (h : May c) (far : Int) : May (add c far) := by
  unfold May at *
  unfold add
  split
  · exact h
  · simp only; omega
theorem fold {l : List Int} : ∀ {c : Cst}, May c → l.foldl add c = (min (c.1 + tot l) 65535, min (c.2 + many l) 65535) := by
  induction l with
  | nil =>
    intro c h
    unfold May at h
    obtain ⟨a, b⟩ := c
    simp only at h
    rw [List.foldl_nil, tot_nil, many_nil, Prod.mk.injEq]
    simp only
    omega
  | cons x l ih =>
    intro c h
    rw [List.foldl_cons, ih (add_may h x), tot_cons, many_cons]
    have h1 := tot_nonneg l
    have h2 := many_nonneg l
    unfold May at h
    unfold add
    by_cases hx : x < 1
    · rw [if_pos hx, if_neg (by omega), Prod.mk.injEq]
      omega
    · rw [if_neg hx, if_pos (by omega), Prod.mk.injEq]
      simp only
      omega
theorem sum_eq (l : List Int) : sum l = (min (tot l) 65535, min (many l) 65535) := by
  unfold sum
  rw [fold may_zero]
  simp
theorem sum_may (l : List Int) : May (sum l) := by
  rw [sum_eq]
  have h1 := tot_nonneg l
  have h2 := many_nonneg l
  have h3 := many_le l
  unfold May
  simp only
  omega
theorem sum_take {l : List Int} {k : Nat} {x : Int} (h : l[k]? = some x) : sum (l.take (k + 1)) = add (sum (l.take k)) x := by
  unfold sum
  rw [List.take_add_one, h, List.foldl_append]
  rfl
theorem tot_perm {a b : List Int} (h : a.Perm b) : tot a = tot b := by
  induction h with
  | nil => rfl
  | cons x _ ih => rw [tot_cons, tot_cons, ih]
  | swap x y l => rw [tot_cons, tot_cons, tot_cons, tot_cons]; omega
  | trans _ _ i1 i2 => exact i1.trans i2
theorem many_perm {a b : List Int} (h : a.Perm b) : many a = many b := by
  unfold many
  rw [(h.filter _).length_eq]
theorem sum_perm {a b : List Int} (h : a.Perm b) : sum a = sum b := by rw [sum_eq, sum_eq, tot_perm h, many_perm h]
theorem sum_join (a b : List Int) : join (sum a) (sum b) = sum (a ++ b) := by
  rw [sum_eq, sum_eq, sum_eq, tot_append, many_append]
  have h1 := tot_nonneg a
  have h2 := tot_nonneg b
  have h3 := many_nonneg a
  have h4 := many_nonneg b
  unfold join
  rw [Prod.mk.injEq]
  simp only
  omega
theorem add_grows {c : Cst} (h : May c) (far : Int) : c.1 ≤ (add c far).1 ∧ c.2 ≤ (add c far).2 := by
  unfold May at h
  unfold add
  split
  · exact ⟨Int.le_refl _, Int.le_refl _⟩
  · simp only; omega
theorem add_none {c : Cst} {far : Int} (h : far < 1) : add c far = c := by unfold add; rw [if_pos h]
/-- As many ways of one length. -/
theorem tot_rep (n : Nat) (d : Int) (hd : 1 ≤ d) : tot (List.replicate n d) = n * d := by
  induction n with
  | zero => simp [tot]
  | succ n ih => rw [List.replicate_succ, tot_cons, ih, Int.natCast_succ, Int.add_mul]; omega
theorem many_rep (n : Nat) (d : Int) (hd : 1 ≤ d) : many (List.replicate n d) = n := by
  induction n with
  | zero => rfl
  | succ n ih => rw [List.replicate_succ, many_cons, ih, if_pos hd]; omega
/-- A way of nowhere more. -/
theorem sum_zero (a b : List Int) {z : Int} (h : z < 1) : sum (a ++ z :: b) = sum (a ++ b) := by
  rw [sum_eq, sum_eq, tot_append, tot_append, many_append, many_append, tot_cons, many_cons, if_neg (by omega)]
  rw [show max z 0 = 0 by omega]
  simp
theorem sum_snoc (l : List Int) (x : Int) : sum (l ++ [x]) = add (sum l) x := by
  unfold sum
  rw [List.foldl_append]
  rfl
/-- Turned round, and from another place on. -/
def rot (zs : List Int) (k : Nat) : List Int := zs.reverse.drop k ++ zs.reverse.take k
theorem rot_perm (zs : List Int) (k : Nat) : (rot zs k).Perm zs := by
  unfold rot
  exact (List.perm_append_comm.trans (by rw [List.take_append_drop])).trans (List.reverse_perm zs)
theorem rot_length (zs : List Int) (k : Nat) : (rot zs k).length = zs.length := (rot_perm zs k).length_eq
theorem rot_get {zs : List Int} {n k i : Nat} (hn : zs.length = n) (hk : k < n) (hi : i < n) : (rot zs k)[i]? = zs[n - 1 - (i + k) % n]? := by
  unfold rot
  by_cases h : i + k < n
  · rw [List.getElem?_append_left (by rw [List.length_drop, List.length_reverse]; omega), List.getElem?_drop, List.getElem?_reverse (by omega), hn, Nat.mod_eq_of_lt h, Nat.add_comm k i]
  · have e : (i + k) % n = i + k - n := by rw [Nat.mod_eq_sub_mod (by omega)]; exact Nat.mod_eq_of_lt (by omega)
    rw [List.getElem?_append_right (by rw [List.length_drop, List.length_reverse]; omega), List.length_drop, List.length_reverse, hn, List.getElem?_take, if_pos (by omega), List.getElem?_reverse (by omega), hn, e]
    congr 1
    omega
theorem tot_take {l : List Int} {k : Nat} {x : Int} (h : l[k]? = some x) (h0 : 0 ≤ x) : tot (l.take (k + 1)) = tot (l.take k) + x := by
  rw [List.take_add_one, h, tot_append]
  simp [tot]
  omega
theorem many_take {l : List Int} {k : Nat} {x : Int} (h : l[k]? = some x) : many (l.take (k + 1)) = many (l.take k) + (if 1 ≤ x then 1 else 0) := by
  rw [List.take_add_one, h, many_append]
  congr 1
  simp only [Option.toList_some]
  rw [many_cons, many_nil]
  omega
theorem many_length (l : List Int) : many l ≤ l.length := by
  unfold many
  have := List.length_filter_le (fun x : Int => decide (1 ≤ x)) l
  omega
theorem tot_most {l : List Int} (h : ∀ x ∈ l, x ≤ 65535) : tot l ≤ l.length * 65535 := by
  induction l with
  | nil => simp [tot]
  | cons x l ih =>
    have h1 := h x (by simp)
    have h2 := ih (fun y hy => h y (List.mem_cons_of_mem _ hy))
    rw [tot_cons, List.length_cons]
    omega
end Go.Proofs.Ytceboejhdgjgoaa.Gp

