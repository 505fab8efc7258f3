/- Layer 7 in plain mathematics: instructions as pairs (the Op, the A); their names, lines and texts as lists of bytes; what a text is read as. -/
namespace Go.Proofs.YtejhlenckdkonaaDoor.Cp

abbrev Ins := Int × Int
def names : List (List UInt8) := [[97, 100, 100], [121, 105, 101, 108, 100], [115, 112, 97, 119, 110], [97, 99, 113, 117, 105, 114, 101], [114, 101, 108, 101, 97, 115, 101], [115, 101, 110, 100], [114, 101, 99, 118], [115, 108, 101, 101, 112], [108, 111, 111, 112], [101, 120, 105, 116]]
/-- An instruction's name. -/
def nm (op : Int) : List UInt8 := if 1 ≤ op ∧ op ≤ 10 then names.getD (op - 1).toNat [] else []
/-- A natural number in figures. -/
def figN (n : Nat) : List UInt8 := if h : n < 10 then [UInt8.ofNat (48 + n)] else figN (n / 10) ++ [UInt8.ofNat (48 + n % 10)]
termination_by n
decreasing_by omega
def figs (z : Int) : List UInt8 := if z < 0 then 45 :: figN z.natAbs else figN z.natAbs
def isBare (x : Ins) : Bool := (x.1 == 2 || x.1 == 10) && x.2 == 0
def head (op : Int) : List UInt8 := if nm op = [] then [63] else nm op
/-- An instruction's line, without its end. -/
def line (x : Ins) : List UInt8 := if isBare x then head x.1 else head x.1 ++ [32] ++ figs x.2
def text (l : List Ins) : List UInt8 := (l.map fun x => line x ++ [10]).flatten
def named (x : Ins) : Bool := decide (1 ≤ x.1) && decide (x.1 ≤ 10)
def In64 (z : Int) : Prop := -9223372036854775808 ≤ z ∧ z ≤ 9223372036854775807

theorem nm_in {op : Int} (h1 : 1 ≤ op) (h2 : op ≤ 10) : nm op ∈ names := by
  unfold nm
  rw [if_pos ⟨h1, h2⟩]
  have : (op - 1).toNat < names.length := by simp [names]; omega
  rw [List.getD_eq_getElem?_getD, List.getElem?_eq_getElem this]
  exact List.getElem_mem _
theorem nm_out {op : Int} (h : ¬ (1 ≤ op ∧ op ≤ 10)) : nm op = [] := if_neg h
theorem nm_ne {op : Int} (h1 : 1 ≤ op) (h2 : op ≤ 10) : nm op ≠ [] := by
  have h := nm_in h1 h2
  have all : ∀ s ∈ names, s ≠ [] := by decide
  exact all _ h
theorem nm_small (op : Int) : ∀ c ∈ nm op, 97 ≤ c ∧ c ≤ 122 := by
  by_cases h : 1 ≤ op ∧ op ≤ 10
  · have all : ∀ s ∈ names, ∀ c ∈ s, (97 : UInt8) ≤ c ∧ c ≤ 122 := by decide
    exact all _ (nm_in h.1 h.2)
  · rw [nm_out h]; intro c hc; cases hc
theorem nm_len (op : Int) : (nm op).length ≤ 7 := by
  by_cases h : 1 ≤ op ∧ op ≤ 10
  · have all : ∀ s ∈ names, s.length ≤ 7 := by decide
    exact all _ (nm_in h.1 h.2)
  · rw [nm_out h]; simp
theorem nm_nil {op : Int} : nm op = [] ↔ ¬ (1 ≤ op ∧ op ≤ 10) := by
  constructor
  · intro e h; exact nm_ne h.1 h.2 e
  · exact nm_out
theorem nm_at (k : Nat) (h : k < 10) : nm ((k : Int) + 1) = names.getD k [] := by
  unfold nm
  rw [if_pos (by omega)]
  congr 1
  omega
theorem nm_one {a b : Int} (ha : 1 ≤ a ∧ a ≤ 10) (hb : 1 ≤ b ∧ b ≤ 10) (h : nm a = nm b) : a = b := by
  obtain ⟨i, rfl⟩ : ∃ i : Nat, a = (i : Int) + 1 := ⟨(a - 1).toNat, by omega⟩
  obtain ⟨j, rfl⟩ : ∃ j : Nat, b = (j : Int) + 1 := ⟨(b - 1).toNat, by omega⟩
  rw [nm_at i (by omega), nm_at j (by omega)] at h
  have all : ∀ i, i < 10 → ∀ j, j < 10 → names.getD i [] = names.getD j [] → i = j := by decide
  rw [all i (by omega) j (by omega) h]
theorem head_named {op : Int} (h : 1 ≤ op ∧ op ≤ 10) : head op = nm op := if_neg (nm_ne h.1 h.2)
theorem head_none {op : Int} (h : ¬ (1 ≤ op ∧ op ≤ 10)) : head op = [63] := if_pos (nm_out h)
theorem head_len (op : Int) : (head op).length ≤ 7 := by
  unfold head; split
  · simp
  · exact nm_len op
/-! Figures. -/
theorem figN_low {n : Nat} (h : n < 10) : figN n = [UInt8.ofNat (48 + n)] := by rw [figN, dif_pos h]
theorem figN_high {n : Nat} (h : ¬ n < 10) : figN n = figN (n / 10) ++ [UInt8.ofNat (48 + n % 10)] := by rw [figN, dif_neg h]
theorem figN_ne (n : Nat) : figN n ≠ [] := by
  by_cases h : n < 10
  · rw [figN_low h]; simp
  · rw [figN_high h]; simp
theorem figN_digits (n : Nat) : ∀ c ∈ figN n, 48 ≤ c ∧ c ≤ 57 := by
  induction n using Nat.strongRecOn with
  | _ n ih =>
    have one : ∀ d, d < 10 → 48 ≤ UInt8.ofNat (48 + d) ∧ UInt8.ofNat (48 + d) ≤ 57 := by decide
    by_cases h : n < 10
    · rw [figN_low h]
      intro c hc
      rw [List.mem_singleton] at hc; subst hc
      exact one n h
    · rw [figN_high h]
      intro c hc
      rcases List.mem_append.1 hc with hc | hc
      · exact ih (n / 10) (by omega) c hc
      · rw [List.mem_singleton] at hc; subst hc
        exact one _ (by omega)
/-- The number of figures, one behind the other. -/
def valN (s : List UInt8) : Nat := s.foldl (fun v c => 10 * v + (c.toNat - 48)) 0
theorem valN_snoc (s : List UInt8) (c : UInt8) : valN (s ++ [c]) = 10 * valN s + (c.toNat - 48) := by simp [valN, List.foldl_append]
theorem valN_figN (n : Nat) : valN (figN n) = n := by
  induction n using Nat.strongRecOn with
  | _ n ih =>
    have one : ∀ d, d < 10 → (UInt8.ofNat (48 + d)).toNat - 48 = d := by decide
    by_cases h : n < 10
    · rw [figN_low h]
      show 10 * 0 + _ = n
      rw [one n h]; omega
    · rw [figN_high h, valN_snoc, ih (n / 10) (by omega), one _ (by omega)]
      omega
theorem figN_len (n k : Nat) (hk : 1 ≤ k) (h : n < 10 ^ k) : (figN n).length ≤ k := by
  induction k generalizing n with
  | zero => omega
  | succ k ih =>
    by_cases h10 : n < 10
    · rw [figN_low h10]; simp
    · rw [figN_high h10, List.length_append]
      cases k with
      | zero => simp at h; omega
      | succ k =>
        have := ih (n / 10) (by omega) (by rw [Nat.pow_succ] at h; omega)
        simp; omega
theorem figs_len {z : Int} (h : In64 z) : (figs z).length ≤ 20 := by
  have : (figN z.natAbs).length ≤ 19 := figN_len _ 19 (by omega) (by have := h.1; have := h.2; omega)
  unfold figs; split <;> simp <;> omega
theorem figs_ten {z : Int} : ∀ c ∈ figs z, c ≠ 10 := by
  have one : ∀ c : UInt8, 48 ≤ c → c ≠ 10 := by intro c h e; subst e; exact absurd h (by decide)
  intro c hc
  unfold figs at hc
  split at hc
  · rcases List.mem_cons.1 hc with e | e
    · rw [e]; decide
    · exact one c (figN_digits _ c e).1
  · exact one c (figN_digits _ c hc).1
theorem line_len {x : Ins} (h : In64 x.2) : (line x).length ≤ 28 := by
  have h1 := head_len x.1
  have h2 := figs_len h
  unfold line
  split
  · omega
  · simp only [List.length_append, List.length_singleton]; omega
theorem line_ten (x : Ins) : ∀ c ∈ line x, c ≠ 10 := by
  have hh : ∀ c ∈ head x.1, c ≠ 10 := by
    intro c hc
    unfold head at hc
    split at hc
    · rw [List.mem_singleton] at hc; subst hc; decide
    · have := (nm_small _ c hc).1
      intro e; subst e; exact absurd this (by decide)
  intro c hc
  unfold line at hc
  split at hc
  · exact hh c hc
  · rcases List.mem_append.1 hc with hc | hc
    · rcases List.mem_append.1 hc with hc | hc
      · exact hh c hc
      · rw [List.mem_singleton] at hc; subst hc; decide
    · exact figs_ten c hc
theorem text_nil : text [] = [] := rfl
theorem text_cons (x : Ins) (l : List Ins) : text (x :: l) = line x ++ [10] ++ text l := by simp [text]
theorem text_app (a b : List Ins) : text (a ++ b) = text a ++ text b := by simp [text]
theorem text_snoc (l : List Ins) (x : Ins) : text (l ++ [x]) = text l ++ line x ++ [10] := by simp [text]
theorem text_len (l : List Ins) (h : ∀ x ∈ l, In64 x.2) : (text l).length ≤ 29 * l.length := by
  induction l with
  | nil => simp [text]
  | cons x l ih =>
    have h1 := line_len (h x (List.mem_cons_self ..))
    have h2 := ih fun y hy => h y (List.mem_cons_of_mem _ hy)
    rw [text_cons]
    simp only [List.length_append, List.length_cons, List.length_nil]; omega
/-! What a line is read as. -/
/-- The letters that a line begins with. -/
def lead (s : List UInt8) : List UInt8 := s.takeWhile fun c => decide (97 ≤ c)
theorem lead_app (a b : List UInt8) (h : ∀ c ∈ a, 97 ≤ c) (hb : ∀ c t, b = c :: t → ¬ 97 ≤ c) : lead (a ++ b) = a := by
  unfold lead
  rw [List.takeWhile_append_of_pos (by intro c hc; simpa using h c hc)]
  cases b with
  | nil => simp
  | cons c t => rw [List.takeWhile_cons_of_neg (by simpa using hb c t rfl), List.append_nil]
theorem lead_line {x : Ins} (h : named x = true) : lead (line x) = nm x.1 := by
  unfold named at h
  rw [Bool.and_eq_true, decide_eq_true_eq, decide_eq_true_eq] at h
  unfold line
  rw [head_named h]
  split
  · have := lead_app (nm x.1) [] (fun c hc => (nm_small _ c hc).1) (by intro c t e; cases e)
    rwa [List.append_nil] at this
  · rw [List.append_assoc]
    exact lead_app _ _ (fun c hc => (nm_small _ c hc).1) (by intro c t e; injection e with e; subst e; decide)
theorem figs_one {a b : Int} (h : figs a = figs b) : a = b := by
  unfold figs at h
  have no45 : ∀ (n : Nat) (t : List UInt8), figN n ≠ 45 :: t := by
    intro n t e
    have := (figN_digits n 45 (by rw [e]; exact List.mem_cons_self ..)).1
    exact absurd this (by decide)
  split at h <;> split at h
  · injection h with _ h
    have := congrArg valN h
    rw [valN_figN, valN_figN] at this; omega
  · exact absurd h.symm (no45 _ _)
  · exact absurd h (no45 _ _)
  · have := congrArg valN h
    rw [valN_figN, valN_figN] at this; omega
theorem figs_ne (z : Int) : figs z ≠ [] := by
  unfold figs; split
  · simp
  · exact figN_ne _
/-- Unlike instructions that have names have unlike lines. -/
theorem line_one {x y : Ins} (hx : named x = true) (hy : named y = true) (h : line x = line y) : x = y := by
  have h1 : nm x.1 = nm y.1 := by rw [← lead_line hx, ← lead_line hy, h]
  have hx' := hx
  have hy' := hy
  unfold named at hx' hy'
  rw [Bool.and_eq_true, decide_eq_true_eq, decide_eq_true_eq] at hx' hy'
  have e := nm_one hx' hy' h1
  obtain ⟨o, a⟩ := x
  obtain ⟨p, b⟩ := y
  simp only at e
  subst e
  congr 1
  unfold line at h
  simp only at h
  split at h <;> split at h
  · rename_i u v
    unfold isBare at u v
    simp only [Bool.and_eq_true, beq_iff_eq] at u v
    rw [u.2, v.2]
  · have := congrArg List.length h
    have := List.length_pos_iff.2 (figs_ne b)
    simp at *
  · have := congrArg List.length h
    have := List.length_pos_iff.2 (figs_ne a)
    simp at *
  · rw [List.append_assoc, List.append_assoc] at h
    have := List.append_cancel_left h
    simp at this
    exact figs_one this
end Go.Proofs.YtejhlenckdkonaaDoor.Cp

