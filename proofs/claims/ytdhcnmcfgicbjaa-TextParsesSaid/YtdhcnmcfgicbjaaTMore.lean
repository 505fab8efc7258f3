/- Layer 3 in plain mathematics: what becomes of a text that is cut, goes on, or has another byte; how vertices follow each other; what holds all along while a text is read. -/
import Derived.Test.YtdhcnmcfgicbjaaTCount
namespace Go.Proofs.Ytdhcnmcfgicbjaa.Tx
open Tp

theorem run_append : ∀ (a c : List UInt8) (σ : St), run σ (a ++ c) = if (run σ a).2 = [] then run (run σ a).1 c else ((run σ a).1, (run σ a).2 ++ c) := by
  intro a
  induction a with
  | nil => intro c σ; rfl
  | cons x xs ih =>
    intro c σ
    cases h : goes σ.q x σ.lv
    · rw [List.cons_append, run_no h, run_no h]; simp
    · rw [List.cons_append, run_yes h, run_yes h, ih]
/-- What holds at each place of a text that is read. -/
def Inv (σ : St) : Prop :=
  (σ.q = 0 ∧ σ.vs = [] ∧ σ.lv = 0) ∨ (σ.q = 109 ∧ σ.vs.length = 1 ∧ σ.lv = 0) ∨ (σ.q = 110 ∧ σ.lv = 1) ∨ (σ.q = 99 ∧ σ.lv = 2) ∨ (σ.q = 40 ∧ 1 ≤ σ.lv ∧ σ.lv ≤ 3) ∨ (σ.q = 112 ∧ σ.lv = 3) ∨ (σ.q = 41 ∧ σ.lv ≤ 2)
theorem Inv.le {σ : St} (h : Inv σ) : σ.lv ≤ 3 := by
  rcases h with h | h | h | h | h | h | h <;> omega
theorem inv0 : Inv st0 := .inl ⟨rfl, rfl, rfl⟩
theorem goes_cases {q c : UInt8} {l : Nat} (h : goes q c l = true) : c = lt l ∨ c = 40 ∨ c = 41 := by
  unfold goes at h
  split at h
  · exact .inl (by simpa using h)
  · split at h
    · exact .inr (.inl (by simpa using h))
    · simp only [Bool.and_eq_true, Bool.or_eq_true, beq_iff_eq] at h
      rcases h.2 with h | h
      · exact .inl h
      · exact .inr (.inr h)
theorem lt_inv {vs : List (Int × Int)} {ab : Nat → Int} {l : Nat} (hl : l ≤ 3) (h0 : l = 0 → vs.length = 1) : Inv ⟨vs, ab, l, lt l⟩ := by
  rcases (show l = 0 ∨ l = 1 ∨ l = 2 ∨ l = 3 by omega) with rfl | rfl | rfl | rfl
  · exact .inr (.inl ⟨rfl, h0 rfl, rfl⟩)
  · exact .inr (.inr (.inl ⟨rfl, rfl⟩))
  · exact .inr (.inr (.inr (.inl ⟨rfl, rfl⟩)))
  · exact .inr (.inr (.inr (.inr (.inr (.inl ⟨rfl, rfl⟩)))))
theorem Inv.adv {σ : St} (h : Inv σ) {c : UInt8} (hg : goes σ.q c σ.lv = true) : Inv (adv σ c) := by
  have hle := h.le
  rcases h with ⟨h1, h2, h3⟩ | ⟨h1, h2, h3⟩ | ⟨h1, h2⟩ | ⟨h1, h2⟩ | ⟨h1, h2, h3⟩ | ⟨h1, h2⟩ | ⟨h1, h2⟩
  · rw [goes_opn (.inl h1), beq_iff_eq] at hg
    rw [hg, adv_letter]
    exact lt_inv hle (fun _ => by rw [h2]; rfl)
  · rw [h1, show (109 : UInt8) = lt 0 from rfl, goes_letter _ _ _ (by omega), beq_iff_eq] at hg
    rw [hg, adv_open]
    exact .inr (.inr (.inr (.inr (.inl ⟨rfl, by simp only; omega, by simp only; omega⟩))))
  · rw [h1, show (110 : UInt8) = lt 1 from rfl, goes_letter _ _ _ (by omega), beq_iff_eq] at hg
    rw [hg, adv_open]
    exact .inr (.inr (.inr (.inr (.inl ⟨rfl, by simp only; omega, by simp only; omega⟩))))
  · rw [h1, show (99 : UInt8) = lt 2 from rfl, goes_letter _ _ _ (by omega), beq_iff_eq] at hg
    rw [hg, adv_open]
    exact .inr (.inr (.inr (.inr (.inl ⟨rfl, by simp only; omega, by simp only; omega⟩))))
  · rw [goes_opn (.inr h1), beq_iff_eq] at hg
    rw [hg, adv_letter]
    exact lt_inv hle (fun h0 => by omega)
  · rw [goes_whl (.inl h1)] at hg
    simp only [Bool.and_eq_true, Bool.or_eq_true, beq_iff_eq, decide_eq_true_eq] at hg
    rcases hg.2 with hc | hc
    · rw [hc, adv_letter]
      exact lt_inv hle (fun h0 => by omega)
    · rw [hc, adv_shut]
      exact .inr (.inr (.inr (.inr (.inr (.inr ⟨rfl, by simp only; omega⟩)))))
  · rw [goes_whl (.inr h1)] at hg
    simp only [Bool.and_eq_true, Bool.or_eq_true, beq_iff_eq, decide_eq_true_eq] at hg
    rcases hg.2 with hc | hc
    · rw [hc, adv_letter]
      exact lt_inv hle (fun h0 => by omega)
    · rw [hc, adv_shut]
      exact .inr (.inr (.inr (.inr (.inr (.inr ⟨rfl, by simp only; omega⟩)))))
theorem Inv.run : ∀ (l : List UInt8) (σ : St), Inv σ → Inv (run σ l).1 := by
  intro l
  induction l with
  | nil => intro σ h; exact h
  | cons c cs ih =>
    intro σ h
    cases hg : goes σ.q c σ.lv
    · rw [run_no hg]; exact h
    · rw [run_yes hg]; exact ih _ (h.adv hg)
/-- Where nothing goes on, and no tree is whole: the place is where it stopped. -/
theorem parse_stuck {l : List UInt8} (h : (run st0 l).2 ≠ []) : parse l = ([], l.length - (run st0 l).2.length, 2) := by
  unfold parse
  rw [if_neg (fun hh => h hh.1)]
/-- A tree's text, cut. -/
theorem whole_parts {vs : List (Int × Int)} (h : Tree vs) (k : Nat) (hk : k < (tx vs 3 0).length) : (run st0 ((tx vs 3 0).take k)).2 = [] ∧ ∃ c cs, (tx vs 3 0).drop k = c :: cs ∧ goes (run st0 ((tx vs 3 0).take k)).1.q c (run st0 ((tx vs 3 0).take k)).1.lv = true := by
  obtain ⟨σ', a1, _, _, _⟩ := whole_run _ (ne_shp h) []
  rw [List.append_nil] at a1
  have a1 : run st0 (tx vs 3 0) = (σ', []) := a1
  rw [← List.take_append_drop k (tx vs 3 0), run_append] at a1
  split at a1
  · rename_i h2
    refine ⟨h2, ?_⟩
    cases hd : (tx vs 3 0).drop k with
    | nil => rw [List.drop_eq_nil_iff] at hd; omega
    | cons c cs =>
      refine ⟨c, cs, rfl, ?_⟩
      rw [hd] at a1
      cases hg : goes (run st0 ((tx vs 3 0).take k)).1.q c (run st0 ((tx vs 3 0).take k)).1.lv
      · rw [run_no hg] at a1
        injection a1 with _ a1
        cases a1
      · rfl
  · rename_i h2
    injection a1 with _ a1
    exact absurd (List.append_eq_nil_iff.1 a1).1 h2
theorem parse_cut {vs : List (Int × Int)} (h : Tree vs) {k : Nat} (hk : k < (tx vs 3 0).length) : parse ((tx vs 3 0).take k) = ([], k, 2) := by
  obtain ⟨h1, c, cs, _, hg⟩ := whole_parts h k hk
  have hi := inv0.run ((tx vs 3 0).take k)
  unfold parse
  rw [if_neg, h1, List.length_take]
  · simp; omega
  · rintro ⟨_, b, m⟩
    have h2 := ((tree_iff _).1 m).two
    generalize (run st0 ((tx vs 3 0).take k)).1 = σ at *
    rcases hi with ⟨_, i2, _⟩ | ⟨_, i2, _⟩ | ⟨_, i2⟩ | ⟨_, i2⟩ | ⟨_, i2, _⟩ | ⟨_, i2⟩ | ⟨i1, _⟩
    · rw [i2] at h2; simp at h2
    all_goals try omega
    rw [goes_whl (.inr i1), b] at hg
    cases hg
theorem parse_on {vs : List (Int × Int)} (h : Tree vs) (c : UInt8) (r : List UInt8) : parse (tx vs 3 0 ++ c :: r) = ([], (tx vs 3 0).length, 2) := by
  obtain ⟨σ', a1, _, a3, a4⟩ := whole_run _ (ne_shp h) (c :: r)
  have a1 : run st0 (tx vs 3 0 ++ c :: r) = run σ' (c :: r) := a1
  rw [run_no (by rw [goes_whl a4, a3]; rfl)] at a1
  rw [parse_stuck (by rw [a1]; simp), a1]
  simp
/-- Is a byte in no text? -/
def odd (c : UInt8) : Bool := c != 109 && c != 110 && c != 99 && c != 112 && c != 40 && c != 41
theorem odd_no {c : UInt8} (h : odd c = true) (q : UInt8) (l : Nat) : goes q c l = false := by
  cases hg : goes q c l
  · rfl
  · simp only [odd, Bool.and_eq_true, bne_iff_ne] at h
    obtain ⟨⟨⟨⟨⟨h1, h2⟩, h3⟩, h4⟩, h5⟩, h6⟩ := h
    rcases goes_cases hg with e | e | e
    · unfold lt at e
      split at e <;> contradiction
    · exact absurd e h5
    · exact absurd e h6
theorem parse_odd {vs : List (Int × Int)} (h : Tree vs) {k : Nat} (hk : k < (tx vs 3 0).length) {c : UInt8} (hc : odd c = true) (r : List UInt8) : parse ((tx vs 3 0).take k ++ c :: r) = ([], k, 2) := by
  obtain ⟨h1, _⟩ := whole_parts h k hk
  have e : run st0 ((tx vs 3 0).take k ++ c :: r) = ((run st0 ((tx vs 3 0).take k)).1, c :: r) := by
    rw [run_append, if_pos h1, run_no (odd_no hc _ _)]
  rw [parse_stuck (by rw [e]; simp), e, List.length_append, List.length_take]
  simp
  omega
/-- A letter more is a vertex more, if it is a text. -/
theorem parse_grown {vs : List (Int × Int)} (h : Tree vs) (k : Nat) (hp : (parse ((tx vs 3 0).take k ++ 112 :: (tx vs 3 0).drop k)).2.2 = 0) :
    (parse ((tx vs 3 0).take k ++ 112 :: (tx vs 3 0).drop k)).1.length = vs.length + 1 := by
  obtain ⟨s, _, e2, _, e4⟩ := parse_ok hp
  rw [e4]
  have l1 := len_tS 3 (Nat.le_refl _) s 0 (-1)
  have l2 := (brackets_tS 3 (Nat.le_refl _) s).1
  rw [← e2] at l1 l2
  obtain ⟨_, _, _, _, c5, _, c7⟩ := text_counts h
  have l3 : many 40 ((tx vs 3 0).take k ++ 112 :: (tx vs 3 0).drop k) = many 40 (tx vs 3 0) := by
    conv => rhs; rw [← List.take_append_drop k (tx vs 3 0)]
    rw [many_append, many_append, many_cons, if_neg (by decide), Nat.zero_add]
  have l4 : ((tx vs 3 0).take k ++ 112 :: (tx vs 3 0).drop k).length = (tx vs 3 0).length + 1 := by
    simp only [List.length_append, List.length_take, List.length_cons, List.length_drop]
    omega
  simp only
  omega
/-- No vertex is of a greater level than the one ahead of it, and below one ahead of whom that one is below. -/
def Turn (vs : List (Int × Int)) : Prop := ∀ i x y, vs[i]? = some x → vs[i + 1]? = some y → ¬ (y.1 < x.1 ∧ x.2 < y.2)
theorem Turn.append {a b : List (Int × Int)} (ha : Turn a) (hb : Turn b) (hab : ∀ x ∈ a, ∀ y, b[0]? = some y → ¬ (y.1 < x.1 ∧ x.2 < y.2)) : Turn (a ++ b) := by
  intro i x y hx hy
  by_cases h1 : i + 1 < a.length
  · rw [List.getElem?_append_left (by omega)] at hx
    rw [List.getElem?_append_left h1] at hy
    exact ha i x y hx hy
  · by_cases h2 : i < a.length
    · rw [List.getElem?_append_left h2] at hx
      rw [List.getElem?_append_right (by omega), show i + 1 - a.length = 0 by omega] at hy
      exact hab x (List.mem_of_getElem? hx) y hy
    · rw [List.getElem?_append_right (by omega)] at hx
      rw [List.getElem?_append_right (by omega), show i + 1 - a.length = i - a.length + 1 by omega] at hy
      exact hb _ x y hx hy
theorem turn_bS : ∀ (d : Nat), d ≤ 3 → ∀ (s : Sh d) (b : Nat) (p : Int), p < b → Turn (bS d s b p) := by
  intro d
  induction d with
  | zero =>
    intro _ s b p _ i x y _ hy
    rw [show bS 0 s b p = [(p, 3)] from rfl] at hy
    simp at hy
  | succ d ih =>
    intro hd (s : List (Sh d)) b p hp
    have K : ∀ (ks : List (Sh d)) (b' : Nat), b < b' → Turn (bSs (bS d) ks b' (b : Int)) := by
      intro ks
      induction ks with
      | nil => intro b' _ i x y hx _; simp [bSs] at hx
      | cons k ks ihk =>
        intro b' hb
        rw [bSs]
        refine (ih (by omega) k b' _ (by omega)).append (ihk _ (by omega)) (fun x hx y hy => ?_)
        have hx2 := levels_bS d (by omega) k b' (b : Int) x hx
        cases ks with
        | nil => simp [bSs] at hy
        | cons k' ks' =>
          obtain ⟨tl, e, _⟩ := bS_split d (by omega) k' (b' + (bS d k b' (b : Int)).length) (b : Int)
          rw [bSs, e] at hy
          injection hy with hy
          subst hy
          simp only
          omega
    rw [bS_succ d s]
    refine Turn.append (a := [(p, ((2 - d : Nat) : Int))]) (fun i x y _ hy => by simp at hy) (K s (b + 1) (by omega)) (fun x hx y hy => ?_)
    rw [List.mem_singleton.1 hx]
    have hy' := bSs_range (d := d) (by omega) (b : Int) s (b + 1) y (List.mem_of_getElem? hy)
    simp only
    omega
theorem turn_sm (vs : List (Int × Int)) : Turn (sm vs) := turn_bS 3 (Nat.le_refl _) _ 0 (-1) (by omega)
/-- A text is no longer than this. -/
def big : Nat → Nat | 0 => 1 | 1 => 11 | 2 => 91 | _ => 731
theorem tx_len {vs : List (Int × Int)} (h : Tree vs) : ∀ (d : Nat), d ≤ 3 → ∀ (k : Nat) (x : Int × Int), vs[k]? = some x → x.2 = ((3 - d : Nat) : Int) → (tx vs d k).length ≤ big d := by
  have K : ∀ (f : Int → List UInt8) (B : Nat) (l : List Int), (∀ z ∈ l, (f z).length ≤ B) → (l.flatMap f).length ≤ l.length * B := by
    intro f B l
    induction l with
    | nil => intro _; simp
    | cons z zs ih =>
      intro hz
      have h1 := ih (fun y hy => hz y (List.mem_cons_of_mem _ hy))
      have h2 := hz z List.mem_cons_self
      rw [List.flatMap_cons, List.length_append, List.length_cons, Nat.succ_mul]
      omega
  have S : ∀ (d : Nat) (k B : Nat) (x : Int × Int), vs[k]? = some x → (∀ z ∈ kidsL vs k, (tx vs d z).length ≤ B) → (tx vs (d + 1) k).length ≤ 3 + 8 * B := by
    intro d k B x hx hB
    have h1 := K (tx vs d) B (kidsL vs k) hB
    have h2 : (kidsL vs k).length ≤ 8 := (h.kids hx).1
    have h3 : (kidsL vs k).length * B ≤ 8 * B := Nat.mul_le_mul_right _ h2
    rw [tx_succ, List.length_cons, List.length_cons, List.length_append]
    simp only [List.length_singleton]
    omega
  intro d
  induction d with
  | zero => intro _ k x _ _; exact Nat.le_refl _
  | succ d ih =>
    intro hd k x hx hl
    have hB : ∀ z ∈ kidsL vs k, (tx vs d z).length ≤ big d := by
      intro z hz
      obtain ⟨j, y, rfl, hy, hp⟩ := mem_those.1 hz
      obtain ⟨_, u, hu, hl2⟩ := h.kid hy (by simpa using hp)
      rw [hx] at hu
      injection hu with hu
      subst hu
      exact ih (by omega) j y hy (by omega)
    have := S d k _ x hx hB
    rcases (show d = 0 ∨ d = 1 ∨ d = 2 by omega) with rfl | rfl | rfl <;> simp only [big] at this ⊢ <;> omega
theorem tx_fits {vs : List (Int × Int)} (h : Tree vs) : (tx vs 3 0).length ≤ 731 := tx_len h 3 (Nat.le_refl _) 0 (-1, 0) h.first rfl
end Go.Proofs.Ytdhcnmcfgicbjaa.Tx

