/- Layer 3 in plain mathematics: how many letters a text has, and how many vertices of each level; a tree, and the one that is parsed of its text, have as many. -/
import Derived.Test.YtdhcnmcfgicbjaaTTree
namespace Go.Proofs.Ytdhcnmcfgicbjaa.Tx
open Tp

def sumL {α : Type} (f : α → Nat) : List α → Nat
  | [] => 0
  | a :: as => f a + sumL f as
theorem sumL_append {α : Type} (f : α → Nat) : ∀ a b, sumL f (a ++ b) = sumL f a + sumL f b := by
  intro a b
  induction a with
  | nil => simp [sumL]
  | cons x xs ih => rw [List.cons_append, sumL, sumL, ih]; omega
theorem sumL_flatMap {α β : Type} (f : β → Nat) (g : α → List β) : ∀ l, sumL f (l.flatMap g) = sumL (fun a => sumL f (g a)) l := by
  intro l
  induction l with
  | nil => rfl
  | cons x xs ih => rw [List.flatMap_cons, sumL_append, sumL, ih]
theorem sumL_map {α β : Type} (f : β → Nat) (g : α → β) : ∀ l, sumL f (l.map g) = sumL (fun a => f (g a)) l := by
  intro l
  induction l with
  | nil => rfl
  | cons x xs ih => rw [List.map_cons, sumL, sumL, ih]
theorem sumL_congr {α : Type} (f g : α → Nat) : ∀ l, (∀ a ∈ l, f a = g a) → sumL f l = sumL g l := by
  intro l
  induction l with
  | nil => intro _; rfl
  | cons x xs ih => intro h; rw [sumL, sumL, h x List.mem_cons_self, ih (fun a ha => h a (List.mem_cons_of_mem _ ha))]
theorem sumL_perm {α : Type} (f : α → Nat) {a b : List α} (h : a.Perm b) : sumL f a = sumL f b := by
  induction h with
  | nil => rfl
  | cons x _ ih => rw [sumL, sumL, ih]
  | swap x y l => rw [sumL, sumL, sumL, sumL]; omega
  | trans _ _ h1 h2 => rw [h1, h2]
theorem sumL_add {α : Type} (f g : α → Nat) : ∀ l, sumL (fun a => f a + g a) l = sumL f l + sumL g l := by
  intro l
  induction l with
  | nil => rfl
  | cons x xs ih => rw [sumL, sumL, sumL, ih]; omega
theorem sumL_const {α : Type} (c : Nat) : ∀ l : List α, sumL (fun _ => c) l = l.length * c := by
  intro l
  induction l with
  | nil => simp [sumL]
  | cons x xs ih => rw [sumL, ih, List.length_cons, Nat.succ_mul, Nat.add_comm]
/-- How many vertices of a level a shape has. -/
def cnt : (d : Nat) → Sh d → Nat → Nat
  | 0, _, l => if l = 3 then 1 else 0
  | d + 1, s, l => (if l = 2 - d then 1 else 0) + sumL (fun k => cnt d k l) (show List (Sh d) from s)
theorem cnt_succ (d : Nat) (s : List (Sh d)) (l : Nat) : cnt (d + 1) s l = (if l = 2 - d then 1 else 0) + sumL (fun k => cnt d k l) s := rfl
theorem count_bS (l : Nat) (h : l ≤ 3) : ∀ (d : Nat), d ≤ 3 → ∀ (s : Sh d) (b : Nat) (p : Int), countF (fun x => x.2 == (l : Int)) (bS d s b p) = cnt d s l := by
  intro d
  induction d with
  | zero =>
    intro _ s b p
    show (if (((3 : Int) == (l : Int)) = true) then 1 else 0) + 0 = if l = 3 then 1 else 0
    by_cases e : l = 3
    · subst e; rfl
    · rw [if_neg (by rw [beq_iff_eq]; omega), if_neg e]
  | succ d ih =>
    intro hd (s : List (Sh d)) b p
    have K : ∀ (ks : List (Sh d)) (b : Nat) (p : Int), countF (fun x => x.2 == (l : Int)) (bSs (bS d) ks b p) = sumL (fun k => cnt d k l) ks := by
      intro ks
      induction ks with
      | nil => intro b p; rfl
      | cons k ks ihk => intro b p; rw [bSs, countF_append, ih (by omega), ihk, sumL]
    rw [bS_succ d s, countF, K s, cnt_succ d s]
    congr 1
    by_cases e : l = 2 - d
    · rw [if_pos e, if_pos (by rw [beq_iff_eq]; simp only; omega)]
    · rw [if_neg e, if_neg (by rw [beq_iff_eq]; simp only; omega)]
theorem cnt_low : ∀ (d : Nat), d ≤ 3 → ∀ (s : Sh d) (l : Nat), l < 3 - d → cnt d s l = 0 := by
  intro d
  induction d with
  | zero => intro _ s l h; exact if_neg (by omega)
  | succ d ih =>
    intro hd (s : List (Sh d)) l h
    rw [cnt_succ d s, if_neg (by omega), sumL_congr _ (fun _ => 0) _ (fun k _ => ih (by omega) k l (by omega)), sumL_const]; simp
theorem cnt_top : ∀ (s : List (Sh 2)), cnt 3 s 0 = 1 := by
  intro s
  rw [cnt_succ 2 s, if_pos rfl, sumL_congr _ (fun _ => 0) _ (fun k _ => cnt_low 2 (by omega) k 0 (by omega)), sumL_const]; simp
/-- How many of a letter a text has. -/
def many (c : UInt8) (l : List UInt8) : Nat := l.count c
theorem many_append (c : UInt8) (a b : List UInt8) : many c (a ++ b) = many c a + many c b := List.count_append
theorem many_flatMap {α : Type} (c : UInt8) (f : α → List UInt8) : ∀ l : List α, many c (l.flatMap f) = sumL (fun a => many c (f a)) l := by
  intro l
  induction l with
  | nil => rfl
  | cons x xs ih => rw [List.flatMap_cons, many_append, ih, sumL]
theorem many_cons (c a : UInt8) (l : List UInt8) : many c (a :: l) = (if a = c then 1 else 0) + many c l := by
  unfold many
  rw [List.count_cons, Nat.add_comm]
  by_cases e : a = c <;> simp [e]
theorem many_tS (d : Nat) (s : List (Sh d)) (c : UInt8) : many c (tS (d + 1) s) = (if lt (2 - d) = c then 1 else 0) + ((if 40 = c then 1 else 0) + (sumL (fun k => many c (tS d k)) s + if 41 = c then 1 else 0)) := by
  rw [tS_succ, many_cons, many_cons, many_append, many_flatMap, many_cons]
  simp [many]
theorem lt_inj {a b : Nat} (ha : a ≤ 3) (hb : b ≤ 3) (h : lt a = lt b) : a = b := by
  rcases (show a = 0 ∨ a = 1 ∨ a = 2 ∨ a = 3 by omega) with rfl | rfl | rfl | rfl <;>
  rcases (show b = 0 ∨ b = 1 ∨ b = 2 ∨ b = 3 by omega) with rfl | rfl | rfl | rfl <;>
  first | rfl | (exact absurd h (by decide))
theorem letters_tS (l : Nat) (hl : l ≤ 3) : ∀ (d : Nat), d ≤ 3 → ∀ (s : Sh d), many (lt l) (tS d s) = cnt d s l := by
  intro d
  induction d with
  | zero =>
    intro _ s
    show many (lt l) [lt 3] = if l = 3 then 1 else 0
    rw [many_cons]
    by_cases e : l = 3
    · subst e; rfl
    · rw [if_neg e, if_neg (fun h => e (lt_inj (by omega) hl h).symm)]; rfl
  | succ d ih =>
    intro hd (s : List (Sh d))
    rw [many_tS d s, cnt_succ d s, if_neg (show ¬ 40 = lt l from fun h => lt_no40 l h.symm), if_neg (show ¬ 41 = lt l from fun h => lt_no41 l h.symm), sumL_congr _ _ _ (fun k _ => ih (by omega) k)]
    by_cases e : l = 2 - d
    · rw [if_pos e, if_pos (by rw [e])]; omega
    · rw [if_neg e, if_neg (fun h => e (lt_inj (by omega) hl h).symm)]; omega
def tops (d : Nat) (s : Sh d) : Nat := cnt d s 0 + cnt d s 1 + cnt d s 2
theorem brackets_tS : ∀ (d : Nat), d ≤ 3 → ∀ (s : Sh d), many 40 (tS d s) = tops d s ∧ many 41 (tS d s) = tops d s := by
  intro d
  induction d with
  | zero => intro _ s; exact ⟨rfl, rfl⟩
  | succ d ih =>
    intro hd (s : List (Sh d))
    have e : sumL (fun k => tops d k) s = sumL (fun k => cnt d k 0) s + sumL (fun k => cnt d k 1) s + sumL (fun k => cnt d k 2) s := by
      unfold tops
      rw [sumL_add (fun k => cnt d k 0 + cnt d k 1) (fun k => cnt d k 2), sumL_add (fun k => cnt d k 0) (fun k => cnt d k 1)]
    have e2 : tops (d + 1) s = 1 + sumL (fun k => tops d k) s := by
      rw [e]
      unfold tops
      rw [cnt_succ d s, cnt_succ d s, cnt_succ d s]
      rcases (show d = 0 ∨ d = 1 ∨ d = 2 by omega) with rfl | rfl | rfl <;> simp <;> omega
    constructor
    · rw [many_tS d s, if_neg (lt_no40 _), if_pos rfl, if_neg (by decide), sumL_congr _ _ _ (fun k _ => (ih (by omega) k).1), e2, show sumL (tops d) s = sumL (fun k => tops d k) s from rfl]; omega
    · rw [many_tS d s, if_neg (lt_no41 _), if_neg (by decide), if_pos rfl, sumL_congr _ _ _ (fun k _ => (ih (by omega) k).2), e2, show sumL (tops d) s = sumL (fun k => tops d k) s from rfl]; omega
theorem flatMap_len {α : Type} (f : α → List UInt8) : ∀ l : List α, (l.flatMap f).length = sumL (fun a => (f a).length) l := by
  intro l
  induction l with
  | nil => rfl
  | cons x xs ih => rw [List.flatMap_cons, List.length_append, ih, sumL]
theorem len_tS : ∀ (d : Nat), d ≤ 3 → ∀ (s : Sh d) (b : Nat) (p : Int), (tS d s).length = (bS d s b p).length + 2 * tops d s := by
  intro d
  induction d with
  | zero => intro _ s b p; rfl
  | succ d ih =>
    intro hd (s : List (Sh d)) b p
    have K : ∀ (ks : List (Sh d)) (b : Nat) (p : Int), sumL (fun k => (tS d k).length) ks = (bSs (bS d) ks b p).length + 2 * sumL (fun k => tops d k) ks := by
      intro ks
      induction ks with
      | nil => intro b p; rfl
      | cons k ks ihk => intro b p; rw [sumL, bSs, List.length_append, sumL, ihk (b + (bS d k b p).length) p, ih (by omega) k b p]; omega
    have e : sumL (fun k => tops d k) s = sumL (fun k => cnt d k 0) s + sumL (fun k => cnt d k 1) s + sumL (fun k => cnt d k 2) s := by
      unfold tops
      rw [sumL_add (fun k => cnt d k 0 + cnt d k 1) (fun k => cnt d k 2), sumL_add (fun k => cnt d k 0) (fun k => cnt d k 1)]
    have e2 : tops (d + 1) s = 1 + sumL (fun k => tops d k) s := by
      rw [e]
      unfold tops
      rw [cnt_succ d s, cnt_succ d s, cnt_succ d s]
      rcases (show d = 0 ∨ d = 1 ∨ d = 2 by omega) with rfl | rfl | rfl <;> simp <;> omega
    rw [e2, bS_succ d s, List.length_cons, tS_succ, List.length_cons, List.length_cons, List.length_append, flatMap_len, K s (b + 1) b]
    simp only [List.length_singleton]
    omega
theorem levels_bS : ∀ (d : Nat), d ≤ 3 → ∀ (s : Sh d) (b : Nat) (p : Int), ∀ x ∈ bS d s b p, ((3 - d : Nat) : Int) ≤ x.2 ∧ x.2 ≤ 3 := by
  intro d
  induction d with
  | zero => intro _ s b p x hx; rw [List.mem_singleton.1 (show x ∈ [(p, 3)] from hx)]; simp
  | succ d ih =>
    intro hd (s : List (Sh d)) b p x hx
    have K : ∀ (ks : List (Sh d)) (b : Nat) (p : Int), ∀ x ∈ bSs (bS d) ks b p, ((3 - d : Nat) : Int) ≤ x.2 ∧ x.2 ≤ 3 := by
      intro ks
      induction ks with
      | nil => intro b p x hx; cases hx
      | cons k ks ihk =>
        intro b p x hx
        rcases List.mem_append.1 (show x ∈ bS d k b p ++ bSs (bS d) ks (b + (bS d k b p).length) p from hx) with hx | hx
        · exact ih (by omega) k b p x hx
        · exact ihk _ p x hx
    rcases List.mem_cons.1 (show x ∈ (p, ((2 - d : Nat) : Int)) :: bSs (bS d) s (b + 1) b from hx) with rfl | hx
    · simp only; omega
    · have := K s _ _ x hx; omega
theorem len_levels : ∀ (vs : List (Int × Int)), (∀ x ∈ vs, 0 ≤ x.2 ∧ x.2 ≤ 3) → vs.length = countF (fun x => x.2 == ((0 : Nat) : Int)) vs + countF (fun x => x.2 == ((1 : Nat) : Int)) vs + countF (fun x => x.2 == ((2 : Nat) : Int)) vs + countF (fun x => x.2 == ((3 : Nat) : Int)) vs := by
  intro vs
  induction vs with
  | nil => intro _; rfl
  | cons y ys ih =>
    intro h
    have h0 := h y List.mem_cons_self
    rw [List.length_cons, ih (fun x hx => h x (List.mem_cons_of_mem _ hx)), countF, countF, countF, countF]
    obtain ⟨a, l⟩ := y
    simp only at h0 ⊢
    rcases (show l = 0 ∨ l = 1 ∨ l = 2 ∨ l = 3 by omega) with rfl | rfl | rfl | rfl <;> simp <;> omega
theorem len_cnt (s : Sh 3) : (bS 3 s 0 (-1)).length = cnt 3 s 0 + cnt 3 s 1 + cnt 3 s 2 + cnt 3 s 3 := by
  rw [len_levels _ (fun x hx => by have := levels_bS 3 (Nat.le_refl _) s 0 (-1) x hx; omega)]
  rw [count_bS 0 (by omega) 3 (Nat.le_refl _), count_bS 1 (by omega) 3 (Nat.le_refl _), count_bS 2 (by omega) 3 (Nat.le_refl _), count_bS 3 (by omega) 3 (Nat.le_refl _)]

/-! A tree that may be: those below those of a level are those of the next. -/
theorem count_those {p : Int × Int → Bool} {vs : List (Int × Int)} (z : Int) : (those p vs).count z = match z with | .ofNat j => (match vs[j]? with | some x => if p x then 1 else 0 | none => 0) | .negSucc _ => 0 := by
  have hnd : (those p vs).Nodup := (thoseF_rise p vs 0).1.imp (fun h e => by rw [e] at h; exact absurd h (Int.lt_irrefl _))
  rw [hnd.count]
  cases z with
  | ofNat j =>
    simp only
    cases hx : vs[j]? with
    | none =>
      simp only
      rw [if_neg]
      intro h
      obtain ⟨i, x, e, hx', _⟩ := mem_those.1 h
      injection e with e
      subst e
      rw [hx] at hx'
      cases hx'
    | some x =>
      simp only
      by_cases hp : p x = true
      · rw [if_pos hp, if_pos]
        exact mem_those.2 ⟨j, x, rfl, hx, hp⟩
      · rw [if_neg hp, if_neg]
        intro h
        obtain ⟨i, y, e, hy, hq⟩ := mem_those.1 h
        injection e with e
        subst e
        rw [hx] at hy
        injection hy with hy
        subst hy
        exact hp hq
  | negSucc j =>
    simp only
    rw [if_neg]
    intro h
    obtain ⟨i, x, e, _⟩ := mem_those.1 h
    cases e
theorem count_flatMap (g : Int → List Int) (z : Int) : ∀ l : List Int, (l.flatMap g).count z = sumL (fun v => (g v).count z) l := by
  intro l
  induction l with
  | nil => rfl
  | cons x xs ih => rw [List.flatMap_cons, List.count_append, ih, sumL]
theorem sumL_eq (a : Int) : ∀ l : List Int, sumL (fun v => if a = v then 1 else 0) l = l.count a := by
  intro l
  induction l with
  | nil => rfl
  | cons x xs ih =>
    rw [sumL, ih, List.count_cons, Nat.add_comm]
    congr 1
    by_cases e : x = a
    · rw [if_pos e.symm, if_pos (by simpa using e)]
    · rw [if_neg (fun h => e h.symm), if_neg (by simpa using e)]
def lvl (l : Nat) (vs : List (Int × Int)) : List Int := those (fun x => x.2 == (l : Int)) vs
theorem next_level {vs : List (Int × Int)} (h : Tree vs) {a : Nat} (L : List Int) (hL : L.Perm (lvl a vs)) : (L.flatMap (kidsL vs)).Perm (lvl (a + 1) vs) := by
  rw [List.perm_iff_count]
  intro z
  rw [count_flatMap]
  have e : ∀ v, (kidsL vs v).count z = _ := fun v => count_those z
  unfold lvl at hL ⊢
  rw [count_those]
  cases z with
  | negSucc j =>
    simp only at e ⊢
    rw [sumL_congr _ _ _ (fun v _ => e v), sumL_const]; simp
  | ofNat j =>
    simp only at e ⊢
    cases hx : vs[j]? with
    | none =>
      rw [hx] at e
      simp only at e ⊢
      rw [sumL_congr _ _ _ (fun v _ => e v), sumL_const]; simp
    | some x =>
      rw [hx] at e
      simp only [beq_iff_eq] at e ⊢
      rw [sumL_congr _ _ _ (fun v _ => e v), sumL_eq, List.perm_iff_count.1 hL, count_those]
      by_cases h0 : j = 0
      · subst h0
        rw [h.first] at hx
        injection hx with hx
        subst hx
        show (0 : Nat) = if (0 : Int) = ((a + 1 : Nat) : Int) then 1 else 0
        rw [if_neg (by omega)]
      · obtain ⟨p, y, e1, _, e3, e4, _⟩ := h.next j x hx (by omega)
        rw [e1]
        simp only [beq_iff_eq]
        show (match vs[p]? with | some x => if x.2 = (a : Int) then 1 else 0 | none => 0) = _
        rw [e3]
        simp only
        by_cases hy : y.2 = a
        · rw [if_pos hy, if_pos (by omega)]
        · rw [if_neg hy, if_neg (by omega)]
theorem cnt_shp {vs : List (Int × Int)} (h : Tree vs) (l : Nat) (hl : l ≤ 3) : ∀ (d : Nat), d ≤ 3 → ∀ (L : List Int), L.Perm (lvl (3 - d) vs) →
    sumL (fun v => cnt d (shp vs d v) l) L = if 3 - d ≤ l then (lvl l vs).length else 0 := by
  intro d
  induction d with
  | zero =>
    intro _ L hL
    show sumL (fun _ => if l = 3 then 1 else 0) L = _
    rw [sumL_const]
    by_cases e : l = 3
    · subst e
      rw [if_pos rfl, if_pos (by omega), hL.length_eq]; simp
    · rw [if_neg e, if_neg (by omega)]; simp
  | succ d ih =>
    intro hd L hL
    have e : sumL (fun v => cnt (d + 1) (shp vs (d + 1) v) l) L = sumL (fun v => (if l = 2 - d then 1 else 0) + sumL (fun k => cnt d (shp vs d k) l) (kidsL vs v)) L := by
      refine sumL_congr _ _ _ (fun v _ => ?_)
      refine Eq.trans (cnt_succ d ((kidsL vs v).map (shp vs d)) l) ?_
      rw [sumL_map]
    rw [e, sumL_add, sumL_const, ← sumL_flatMap (fun k => cnt d (shp vs d k) l) (kidsL vs)]
    have hL' := next_level h L hL
    rw [show 3 - (d + 1) + 1 = 3 - d by omega] at hL'
    rw [ih (by omega) _ hL', hL.length_eq]
    by_cases e1 : l = 2 - d
    · subst e1
      rw [if_pos rfl, if_neg (by omega), if_pos (by omega), show 3 - (d + 1) = 2 - d by omega]; simp
    · rw [if_neg e1]
      by_cases e2 : 3 - d ≤ l
      · rw [if_pos e2, if_pos (by omega)]; simp
      · rw [if_neg e2, if_neg (by omega)]; simp
theorem lvl_zero {vs : List (Int × Int)} (h : Tree vs) : lvl 0 vs = [0] := by
  obtain ⟨y, ys, rfl⟩ : ∃ y ys, vs = y :: ys := by
    cases vs with
    | nil => exact absurd h.pos (by simp)
    | cons y ys => exact ⟨y, ys, rfl⟩
  have h0 := h.first
  injection h0 with h0
  subst h0
  unfold lvl those
  rw [thoseF, if_pos (by rfl), thoseF_none]
  · rfl
  · intro x hx
    obtain ⟨i, hi⟩ := List.mem_iff_getElem?.1 hx
    obtain ⟨_, _, _, _, _, a, b, _⟩ := h.next (i + 1) x hi (by omega)
    rw [beq_eq_false_iff_ne]
    simp
    omega
theorem cnt_tree {vs : List (Int × Int)} (h : Tree vs) (l : Nat) (hl : l ≤ 3) : cnt 3 (shp vs 3 0) l = (lvl l vs).length := by
  have := cnt_shp h l hl 3 (Nat.le_refl _) [0] (by rw [lvl_zero h])
  rw [if_pos (by omega)] at this
  rw [← this]; rfl
theorem levels_tree {vs : List (Int × Int)} (h : Tree vs) : ∀ x ∈ vs, 0 ≤ x.2 ∧ x.2 ≤ 3 := by
  intro x hx
  obtain ⟨i, hi⟩ := List.mem_iff_getElem?.1 hx
  exact h.level hi
theorem lvl_len (l : Nat) (vs : List (Int × Int)) : (lvl l vs).length = countF (fun x => x.2 == (l : Int)) vs := thoseF_len _ vs 0
theorem lvl_sm {vs : List (Int × Int)} (h : Tree vs) (l : Nat) (hl : l ≤ 3) : (lvl l (sm vs)).length = (lvl l vs).length := by
  rw [lvl_len, ← cnt_tree h l hl]
  exact count_bS l hl 3 (Nat.le_refl _) _ _ _
theorem len_sm {vs : List (Int × Int)} (h : Tree vs) : (sm vs).length = vs.length := by
  rw [len_levels vs (levels_tree h), ← lvl_len, ← lvl_len, ← lvl_len, ← lvl_len, ← cnt_tree h 0 (by omega), ← cnt_tree h 1 (by omega), ← cnt_tree h 2 (by omega), ← cnt_tree h 3 (by omega)]
  exact len_cnt _
/-- The tree that is numbered in the turn of the letters may be, if the tree may. -/
theorem tree_sm {vs : List (Int × Int)} (h : Tree vs) : Tree (sm vs) := by
  refine tree_whole _ (wf_shp h 3 (Nat.le_refl _) 0 (-1, 0) h.first rfl) ?_ ?_
  · have := len_sm h
    have := h.few
    unfold sm at *
    omega
  · have h1 : (those (fun x => x.2 == 3) (bS 3 (shp vs 3 0) 0 (-1))).length = (those (fun x => x.2 == 3) vs).length := lvl_sm h 3 (Nat.le_refl _)
    have := h.procs
    omega
theorem ne_shp {vs : List (Int × Int)} (h : Tree vs) : ne 3 (shp vs 3 0) := wf_ne 3 _ (wf_shp h 3 (Nat.le_refl _) 0 (-1, 0) h.first rfl)
/-- A tree's text is parsed to the tree numbered in its turn. -/
theorem parse_tx {vs : List (Int × Int)} (h : Tree vs) : parse (tx vs 3 0) = (sm vs, 0, 0) := parse_shape _ (ne_shp h) ((tree_iff _).2 (tree_sm h))
theorem tx_sm (vs : List (Int × Int)) : tx (sm vs) 3 0 = tx vs 3 0 := tx_whole _
theorem sm_sm (vs : List (Int × Int)) : sm (sm vs) = sm vs := sm_whole _
/-- What is parsed has the very text. -/
theorem tx_parse {l : List UInt8} (h : (parse l).2.2 = 0) : may (parse l).1 = true ∧ tx (parse l).1 3 0 = l ∧ sm (parse l).1 = (parse l).1 := by
  obtain ⟨s, _, e2, e3, e4⟩ := parse_ok h
  rw [e4]
  exact ⟨e3, by rw [tx_whole, e2], sm_whole s⟩
/-- How many letters a tree's text has. -/
theorem text_counts {vs : List (Int × Int)} (h : Tree vs) : many 109 (tx vs 3 0) = 1 ∧ many 110 (tx vs 3 0) = (lvl 1 vs).length ∧ many 99 (tx vs 3 0) = (lvl 2 vs).length ∧ many 112 (tx vs 3 0) = (lvl 3 vs).length
    ∧ many 40 (tx vs 3 0) = vs.length - (lvl 3 vs).length ∧ many 41 (tx vs 3 0) = vs.length - (lvl 3 vs).length ∧ (tx vs 3 0).length = vs.length + 2 * (vs.length - (lvl 3 vs).length) := by
  have hl : vs.length = cnt 3 (shp vs 3 0) 0 + cnt 3 (shp vs 3 0) 1 + cnt 3 (shp vs 3 0) 2 + cnt 3 (shp vs 3 0) 3 := by rw [← len_sm h]; exact len_cnt _
  have ht : tops 3 (shp vs 3 0) = vs.length - (lvl 3 vs).length := by rw [← cnt_tree h 3 (by omega), hl]; unfold tops; omega
  refine ⟨?_, ?_, ?_, ?_, ?_, ?_, ?_⟩
  · exact (letters_tS 0 (by omega) 3 (Nat.le_refl _) _).trans (cnt_top _)
  · exact (letters_tS 1 (by omega) 3 (Nat.le_refl _) _).trans (cnt_tree h 1 (by omega))
  · exact (letters_tS 2 (by omega) 3 (Nat.le_refl _) _).trans (cnt_tree h 2 (by omega))
  · exact (letters_tS 3 (by omega) 3 (Nat.le_refl _) _).trans (cnt_tree h 3 (by omega))
  · exact (brackets_tS 3 (Nat.le_refl _) _).1.trans ht
  · exact (brackets_tS 3 (Nat.le_refl _) _).2.trans ht
  · refine (len_tS 3 (Nat.le_refl _) _ 0 (-1)).trans ?_
    rw [ht]
    have := len_sm h
    unfold sm at this
    omega
end Go.Proofs.Ytdhcnmcfgicbjaa.Tx

