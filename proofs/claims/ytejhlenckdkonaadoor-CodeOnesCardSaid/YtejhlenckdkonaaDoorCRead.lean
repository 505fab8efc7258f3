/- What lines and texts are read as, in plain mathematics: there and back. -/
import Derived.Test.YtejhlenckdkonaaDoorCPlain
namespace Go.Proofs.YtejhlenckdkonaaDoor.Cp

/-- An int's way round. -/
def w64 (n : Int) : Int := (n + 9223372036854775808) % 18446744073709551616 - 9223372036854775808
theorem w64_in {n : Int} (h : In64 n) : w64 n = n := by
  unfold w64
  have h1 := h.1
  have h2 := h.2
  rw [Int.emod_eq_of_lt (by omega) (by omega), Int.add_sub_cancel]
theorem w64_fits (n : Int) : In64 (w64 n) := by
  unfold w64 In64
  have h1 := Int.emod_nonneg (n + 9223372036854775808) (b := 18446744073709551616) (by decide)
  have h2 := Int.emod_lt_of_pos (n + 9223372036854775808) (b := 18446744073709551616) (by decide)
  omega
def isDig (c : UInt8) : Bool := decide (48 ≤ c) && decide (c ≤ 57)
/-- Figures, added up below zero, as an int reckons. -/
def numW (s : List UInt8) : Int := s.foldl (fun n c => if isDig c then w64 (w64 (10 * n) - ((c.toNat : Int) - 48)) else n) 0
def num (s : List UInt8) : Int := if s.head? = some 45 then numW s else w64 (- numW s)
theorem numW_snoc (s : List UInt8) (c : UInt8) : numW (s ++ [c]) = if isDig c then w64 (w64 (10 * numW s) - ((c.toNat : Int) - 48)) else numW s := by simp [numW, List.foldl_append]
theorem dig_at (d : Nat) (h : d < 10) : isDig (UInt8.ofNat (48 + d)) = true ∧ ((UInt8.ofNat (48 + d)).toNat : Int) - 48 = d := by
  have all : ∀ d, d < 10 → isDig (UInt8.ofNat (48 + d)) = true ∧ ((UInt8.ofNat (48 + d)).toNat : Int) - 48 = d := by decide
  exact all d h
theorem numW_figN (n : Nat) (h : n ≤ 9223372036854775808) : numW (figN n) = -(n : Int) := by
  induction n using Nat.strongRecOn with
  | _ n ih =>
    by_cases hn : n < 10
    · obtain ⟨h1, h2⟩ := dig_at n hn
      rw [figN_low hn, ← List.nil_append [UInt8.ofNat (48 + n)], numW_snoc, h1, if_pos rfl, h2, show numW [] = 0 from rfl, w64_in (n := 10 * 0) ⟨by omega, by omega⟩, w64_in ⟨by omega, by omega⟩]
      omega
    · obtain ⟨h1, h2⟩ := dig_at (n % 10) (by omega)
      rw [figN_high hn, numW_snoc, h1, if_pos rfl, h2, ih (n / 10) (by omega) (by omega), w64_in (n := 10 * _) ⟨by omega, by omega⟩, w64_in ⟨by omega, by omega⟩]
      omega
theorem num_figs {z : Int} (h : In64 z) : num (figs z) = z := by
  have h1 := h.1
  have h2 := h.2
  unfold num figs
  by_cases hz : z < 0
  · rw [if_pos hz]
    rw [List.head?_cons, if_pos rfl]
    show numW (45 :: figN z.natAbs) = z
    rw [show numW (45 :: figN z.natAbs) = numW (figN z.natAbs) from rfl, numW_figN _ (by omega)]
    omega
  · rw [if_neg hz]
    have hne : (figN z.natAbs).head? ≠ some 45 := by
      intro e
      have := (figN_digits z.natAbs 45 (List.mem_of_mem_head? (by rw [e]; rfl))).1
      exact absurd this (by decide)
    rw [if_neg hne, numW_figN _ (by omega), w64_in ⟨by omega, by omega⟩]
    omega
/-- An instruction whose line a text is. -/
def Reads (s : List UInt8) (x : Ins) : Prop := named x = true ∧ In64 x.2 ∧ line x = s
theorem Reads.one {s : List UInt8} {x y : Ins} (hx : Reads s x) (hy : Reads s y) : x = y := line_one hx.1 hy.1 (hx.2.2.trans hy.2.2.symm)
/-- The document's way: one name by one. -/
def tryOp (op : Int) (s : List UInt8) : Option Ins :=
  if line (op, 0) = s then some (op, 0)
  else if (nm op).length < s.length ∧ s.take (nm op).length = nm op then
    (if line (op, num (s.drop ((nm op).length + 1))) = s then some (op, num (s.drop ((nm op).length + 1))) else none)
  else none
def rdF (s : List UInt8) (k : Nat) : Option Ins := (List.range k).findSome? fun i : Nat => tryOp ((i : Int) + 1) s
def rd (s : List UInt8) : Option Ins := rdF s 10
theorem num_fits (s : List UInt8) : In64 (num s) := by
  have hw : ∀ s, In64 (numW s) := by
    intro s
    unfold numW
    have : ∀ (s : List UInt8) (n : Int), In64 n → In64 (s.foldl (fun n c => if isDig c then w64 (w64 (10 * n) - ((c.toNat : Int) - 48)) else n) n) := by
      intro s
      induction s with
      | nil => intro n h; exact h
      | cons c s ih =>
        intro n h
        rw [List.foldl_cons]
        apply ih
        split
        · exact w64_fits _
        · exact h
    exact this s 0 ⟨by omega, by omega⟩
  unfold num
  split
  · exact hw s
  · exact w64_fits _
theorem tryOp_reads {op : Int} {s : List UInt8} {x : Ins} (h1 : 1 ≤ op) (h2 : op ≤ 10) (h : tryOp op s = some x) : Reads s x := by
  have hn : ∀ a, named (op, a) = true := fun a => by unfold named; simp [h1, h2]
  unfold tryOp at h
  split at h
  · rename_i hl
    injection h with h
    subst h
    exact ⟨hn _, ⟨by simp, by simp⟩, hl⟩
  · split at h
    · split at h
      · rename_i hl
        injection h with h
        subst h
        exact ⟨hn _, num_fits _, hl⟩
      · cases h
    · cases h
theorem tryOp_hit {s : List UInt8} {x : Ins} (h : Reads s x) : tryOp x.1 s = some x := by
  obtain ⟨h1, h2, h3⟩ := h
  obtain ⟨op, a⟩ := x
  have hn := h1
  unfold named at hn
  rw [Bool.and_eq_true, decide_eq_true_eq, decide_eq_true_eq] at hn
  unfold tryOp
  split
  · rename_i hl
    have : ((op, 0) : Ins) = (op, a) := line_one (by unfold named; simp [hn.1, hn.2]) h1 (hl.trans h3.symm)
    rw [this]
  · rename_i hl
    have hb : isBare (op, a) = false := by
      cases hb : isBare (op, a) with
      | false => rfl
      | true =>
        exfalso
        have ha : a = 0 := by
          unfold isBare at hb
          simp only [Bool.and_eq_true, beq_iff_eq] at hb
          exact hb.2
        subst ha
        exact hl h3
    have hs : s = nm op ++ (32 :: figs a) := by
      rw [← h3]
      unfold line
      rw [hb, head_named hn]
      simp
    have e1 : s.take (nm op).length = nm op := by rw [hs, List.take_left]
    have e2 : s.drop ((nm op).length + 1) = figs a := by
      rw [hs, show (nm op).length + 1 = (nm op).length + 1 from rfl, ← List.drop_drop, List.drop_left]; rfl
    rw [if_pos ⟨by rw [hs, List.length_append]; simp, e1⟩, e2, num_figs h2, if_pos h3]
theorem rdF_succ (s : List UInt8) (k : Nat) : rdF s (k + 1) = (rdF s k).or (tryOp ((k : Int) + 1) s) := by
  unfold rdF
  rw [List.range_succ, List.findSome?_append]
  cases (List.range k).findSome? fun i : Nat => tryOp ((i : Int) + 1) s <;> simp
theorem rdF_reads {s : List UInt8} {x : Ins} : ∀ {k : Nat}, k ≤ 10 → rdF s k = some x → Reads s x := by
  intro k
  induction k with
  | zero => intro _ h; cases h
  | succ k ih =>
    intro hk h
    rw [rdF_succ] at h
    cases hr : rdF s k with
    | some y =>
      rw [hr] at h
      exact ih (by omega) (hr.trans h)
    | none =>
      rw [hr, Option.none_or] at h
      exact tryOp_reads (by omega) (by omega) h
theorem rd_iff {s : List UInt8} {x : Ins} : rd s = some x ↔ Reads s x := by
  constructor
  · exact rdF_reads (Nat.le_refl _)
  · intro h
    cases hr : rd s with
    | some y => rw [(rdF_reads (Nat.le_refl 10) hr).one h]
    | none =>
      exfalso
      have hn := h.1
      unfold named at hn
      rw [Bool.and_eq_true, decide_eq_true_eq, decide_eq_true_eq] at hn
      have h2 := tryOp_hit h
      unfold rd rdF at hr
      rw [List.findSome?_eq_none_iff] at hr
      have := hr (x.1 - 1).toNat (List.mem_range.2 (by omega))
      rw [show (((x.1 - 1).toNat : Nat) : Int) + 1 = x.1 by omega, h2] at this
      cases this
theorem rd_line {x : Ins} (h1 : named x = true) (h2 : In64 x.2) : rd (line x) = some x := rd_iff.2 ⟨h1, h2, rfl⟩
theorem rd_none {x : Ins} (h : named x = false) : rd (line x) = none := by
  cases hr : rd (line x) with
  | none => rfl
  | some y =>
    exfalso
    obtain ⟨h1, _, h3⟩ := rd_iff.1 hr
    have e := lead_line h1
    have hy := h1
    unfold named at hy
    rw [Bool.and_eq_true, decide_eq_true_eq, decide_eq_true_eq] at hy
    have hx : ¬ (1 ≤ x.1 ∧ x.1 ≤ 10) := by
      unfold named at h
      intro hh
      rw [decide_eq_true hh.1, decide_eq_true hh.2] at h
      cases h
    have : lead (line x) = [] := by
      unfold line lead
      rw [head_none hx]
      split <;> rfl
    rw [h3, this] at e
    exact nm_ne hy.1 hy.2 e.symm
/-! Texts. -/
def pf : List UInt8 → List UInt8 → List Ins → List Ins × Nat × Int
  | [], cur, out => if cur = [] then (out, 0, 0) else ([], out.length, 2)
  | c :: t, cur, out => if c = 10 then (match rd cur with | some x => pf t [] (out ++ [x]) | none => ([], out.length, 2)) else pf t (cur ++ [c]) out
def parse (s : List UInt8) : List Ins × Nat × Int := pf s [] []
theorem pf_line (l : List UInt8) (h : ∀ c ∈ l, c ≠ 10) (t : List UInt8) : ∀ (cur : List UInt8) (out : List Ins), pf (l ++ 10 :: t) cur out = match rd (cur ++ l) with | some x => pf t [] (out ++ [x]) | none => ([], out.length, 2) := by
  induction l with
  | nil => intro cur out; rw [List.nil_append, List.append_nil, pf, if_pos rfl]
  | cons c l ih =>
    intro cur out
    rw [List.cons_append, pf, if_neg (h c (List.mem_cons_self ..)), ih (fun d hd => h d (List.mem_cons_of_mem _ hd))]
    simp
theorem pf_text (l : List Ins) (t : List UInt8) : ∀ out, (∀ x ∈ l, named x = true ∧ In64 x.2) → pf (text l ++ t) [] out = pf t [] (out ++ l) := by
  induction l with
  | nil => intro out _; simp [text]
  | cons x l ih =>
    intro out h
    obtain ⟨h1, h2⟩ := h x (List.mem_cons_self ..)
    rw [text_cons, List.append_assoc, List.append_assoc, List.singleton_append, pf_line _ (line_ten x), List.nil_append, rd_line h1 h2]
    show pf (text l ++ t) [] (out ++ [x]) = _
    rw [ih _ fun y hy => h y (List.mem_cons_of_mem _ hy)]
    simp
/-- What is printed is parsed as it was. -/
theorem parse_text {l : List Ins} (h : ∀ x ∈ l, named x = true ∧ In64 x.2) : parse (text l) = (l, 0, 0) := by
  have := pf_text l [] [] h
  rw [List.append_nil, List.nil_append] at this
  unfold parse
  rw [this, pf, if_pos rfl]
/-- The first instruction without a name is told. -/
theorem parse_bad {l : List Ins} {k : Nat} {x : Ins} (hx : l[k]? = some x) (hn : named x = false) (h : ∀ y ∈ l.take k, named y = true ∧ In64 y.2) : parse (text l) = ([], k, 2) := by
  have hk := (List.getElem?_eq_some_iff.1 hx).1
  have e : l = l.take k ++ x :: l.drop (k + 1) := by
    rw [← (List.getElem?_eq_some_iff.1 hx).2, List.getElem_cons_drop, List.take_append_drop]
  unfold parse
  rw [e, text_app, pf_text _ _ _ h, text_cons, List.append_assoc, List.singleton_append, pf_line _ (line_ten x), List.nil_append, rd_none hn]
  simp only [List.nil_append, List.length_take]
  rw [Nat.min_eq_left (by omega)]
theorem pf_back (s : List UInt8) : ∀ cur out l i, pf s cur out = (l, i, 0) → ∃ u, l = out ++ u ∧ text u = cur ++ s ∧ i = 0 ∧ ∀ x ∈ u, named x = true ∧ In64 x.2 := by
  induction s with
  | nil =>
    intro cur out l i h
    rw [pf] at h
    split at h
    · rename_i hc
      injection h with h1 h2
      injection h2 with h2 _
      subst h1 h2
      exact ⟨[], by simp, by rw [hc]; rfl, rfl, fun x hx => by cases hx⟩
    · injection h with _ h2
      injection h2 with _ h3
      cases h3
  | cons c t ih =>
    intro cur out l i h
    rw [pf] at h
    split at h
    · rename_i hc
      subst hc
      cases hr : rd cur with
      | none =>
        rw [hr] at h
        injection h with _ h2
        injection h2 with _ h3
        cases h3
      | some x =>
        rw [hr] at h
        obtain ⟨u, h1, h2, h3, h4⟩ := ih [] (out ++ [x]) l i h
        obtain ⟨r1, r2, r3⟩ := rd_iff.1 hr
        refine ⟨x :: u, by rw [h1]; simp, by rw [text_cons, h2, r3]; simp, h3, fun y hy => ?_⟩
        rcases List.mem_cons.1 hy with e | e
        · rw [e]; exact ⟨r1, r2⟩
        · exact h4 y e
    · obtain ⟨u, h1, h2, h3⟩ := ih (cur ++ [c]) out l i h
      exact ⟨u, h1, by rw [h2]; simp, h3⟩
/-- What is parsed has the very text. -/
theorem parse_back {s : List UInt8} {l : List Ins} {i : Nat} (h : parse s = (l, i, 0)) : text l = s ∧ i = 0 ∧ ∀ x ∈ l, named x = true ∧ In64 x.2 := by
  obtain ⟨u, h1, h2, h3, h4⟩ := pf_back s [] [] l i h
  rw [List.nil_append] at h1 h2
  subst h1
  exact ⟨h2, h3, h4⟩
theorem pf_no (s : List UInt8) : ∀ cur out, (pf s cur out).2.2 = 0 ∨ (pf s cur out).2.2 = 2 ∧ (pf s cur out).1 = [] := by
  induction s with
  | nil => intro cur out; rw [pf]; split <;> simp
  | cons c t ih =>
    intro cur out
    rw [pf]
    split
    · cases rd cur with
      | none => exact .inr ⟨rfl, rfl⟩
      | some x => exact ih _ _
    · exact ih _ _
/-! Lines are counted. -/
theorem count_text (l : List Ins) : (text l).count 10 = l.length := by
  induction l with
  | nil => rfl
  | cons x l ih =>
    have : (line x).count 10 = 0 := List.count_eq_zero.2 fun h => line_ten x 10 h rfl
    rw [text_cons, List.count_append, List.count_append, ih, this]
    simp; omega
theorem parse_len (s : List UInt8) : (parse s).1.length ≤ s.length := by
  rcases pf_no s [] [] with h | ⟨_, h⟩
  · obtain ⟨h1, _⟩ := parse_back (s := s) (l := (parse s).1) (i := (parse s).2.1) (by unfold parse; rw [← h])
    have h2 := count_text (parse s).1
    rw [h1] at h2
    rw [← h2]
    exact List.count_le_length
  · unfold parse; rw [h]; exact Nat.zero_le _
theorem parse_err {s l i e} (h : parse s = (l, i, e)) : e = 0 ∨ e = 2 ∧ l = [] := by
  have := pf_no s [] []
  unfold parse at h
  rw [h] at this
  exact this
end Go.Proofs.YtejhlenckdkonaaDoor.Cp

