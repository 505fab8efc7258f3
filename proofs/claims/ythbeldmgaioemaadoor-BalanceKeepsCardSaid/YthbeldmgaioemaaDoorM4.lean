/- Contracts and plain mathematics, put together by program (wip/merge.py) out of: TCount TMore TGoes Up DApart DFar DTable Vx. -/
import Derived.Test.YthbeldmgaioemaaDoorM3
import Derived.Test.YthbeldmgaioemaaDoorM2
import Derived.Test.YthbeldmgaioemaaDoorM0
import Derived.Deep.RegionHeld3
import Derived.Laws.OwnMore
import Derived.Maps.AppendAt
/- Layer 3 in plain mathematics: how many letters a text has, and how many vertices of each level; a tree, and the one that is parsed of its text, have as many. -/
namespace Go.Proofs.YthbeldmgaioemaaDoor.Tx
open Tp

def sumL {α : Type} (f : α → Nat) : List α → Nat
  | [] => 0
  | a :: al => f a + sumL f al
theorem sumL_append {α : Type} (f : α → Nat) : ∀ a b, sumL f (a ++ b) = sumL f a + sumL f b := by
  intro a b
  induction a with
  | nil => simp [sumL]
  | cons x xs ih => rw [List.cons_append, sumL, sumL, ih]; omega
theorem sumL_flatMap {α β : Type} (f : β → Nat) (g : α → List β) : ∀ l, sumL f (l.flatMap g) = sumL (fun a => sumL f (g a)) l := by
  intro l
  induction l with
  | nil => rfl
  | cons x xs ih => rw [List.flatMap_cons, sumL_append, sumL, ih]
theorem sumL_map {α β : Type} (f : β → Nat) (g : α → β) : ∀ l, sumL f (l.map g) = sumL (fun a => f (g a)) l := by
  intro l
  induction l with
  | nil => rfl
  | cons x xs ih => rw [List.map_cons, sumL, sumL, ih]
theorem sumL_congr {α : Type} (f g : α → Nat) : ∀ l, (∀ a ∈ l, f a = g a) → sumL f l = sumL g l := by
  intro l
  induction l with
  | nil => intro _; rfl
  | cons x xs ih => intro h; rw [sumL, sumL, h x List.mem_cons_self, ih (fun a ha => h a (List.mem_cons_of_mem _ ha))]
theorem sumL_perm {α : Type} (f : α → Nat) {a b : List α} (h : a.Perm b) : sumL f a = sumL f b := by
  induction h with
  | nil => rfl
  | cons x _ ih => rw [sumL, sumL, ih]
  | swap x y l => rw [sumL, sumL, sumL, sumL]; omega
  | trans _ _ h1 h2 => rw [h1, h2]
theorem sumL_add {α : Type} (f g : α → Nat) : ∀ l, sumL (fun a => f a + g a) l = sumL f l + sumL g l := by
  intro l
  induction l with
  | nil => rfl
  | cons x xs ih => rw [sumL, sumL, sumL, ih]; omega
theorem sumL_const {α : Type} (c : Nat) : ∀ l : List α, sumL (fun _ => c) l = l.length * c := by
  intro l
  induction l with
  | nil => simp [sumL]
  | cons x xs ih => rw [sumL, ih, List.length_cons, Nat.succ_mul, Nat.add_comm]
/-- How many vertices of a level a shape has. -/
def cnt : (d : Nat) → Sh d → Nat → Nat
  | 0, _, l => if l = 3 then 1 else 0
  | d + 1, s, l => (if l = 2 - d then 1 else 0) + sumL (fun k => cnt d k l) (show List (Sh d) from s)
theorem cnt_succ (d : Nat) (s : List (Sh d)) (l : Nat) : cnt (d + 1) s l = (if l = 2 - d then 1 else 0) + sumL (fun k => cnt d k l) s := rfl
theorem count_bS (l : Nat) (h : l ≤ 3) : ∀ (d : Nat), d ≤ 3 → ∀ (s : Sh d) (b : Nat) (p : Int), countF (fun x => x.2 == (l : Int)) (bS d s b p) = cnt d s l := by
  intro d
  induction d with
  | zero =>
    intro _ s b p
    show (if (((3 : Int) == (l : Int)) = true) then 1 else 0) + 0 = if l = 3 then 1 else 0
    by_cases e : l = 3
    · subst e; rfl
    · rw [if_neg (by rw [beq_iff_eq]; omega), if_neg e]
  | succ d ih =>
    intro hd (s : List (Sh d)) b p
    have K : ∀ (ks : List (Sh d)) (b : Nat) (p : Int), countF (fun x => x.2 == (l : Int)) (bSs (bS d) ks b p) = sumL (fun k => cnt d k l) ks := by
      intro ks
      induction ks with
      | nil => intro b p; rfl
      | cons k ks ihk => intro b p; rw [bSs, countF_append, ih (by omega), ihk, sumL]
    rw [bS_succ d s, countF, K s, cnt_succ d s]
    congr 1
    by_cases e : l = 2 - d
    · rw [if_pos e, if_pos (by rw [beq_iff_eq]; simp only; omega)]
    · rw [if_neg e, if_neg (by rw [beq_iff_eq]; simp only; omega)]
theorem cnt_low : ∀ (d : Nat), d ≤ 3 → ∀ (s : Sh d) (l : Nat), l < 3 - d → cnt d s l = 0 := by
  intro d
  induction d with
  | zero => intro _ s l h; exact if_neg (by omega)
  | succ d ih =>
    intro hd (s : List (Sh d)) l h
    rw [cnt_succ d s, if_neg (by omega), sumL_congr _ (fun _ => 0) _ (fun k _ => ih (by omega) k l (by omega)), sumL_const]; simp
theorem cnt_top : ∀ (s : List (Sh 2)), cnt 3 s 0 = 1 := by
  intro s
  rw [cnt_succ 2 s, if_pos rfl, sumL_congr _ (fun _ => 0) _ (fun k _ => cnt_low 2 (by omega) k 0 (by omega)), sumL_const]; simp
/-- How many of a letter a text has. -/
def many (c : UInt8) (l : List UInt8) : Nat := l.count c
theorem many_append (c : UInt8) (a b : List UInt8) : many c (a ++ b) = many c a + many c b := List.count_append
theorem many_flatMap {α : Type} (c : UInt8) (f : α → List UInt8) : ∀ l : List α, many c (l.flatMap f) = sumL (fun a => many c (f a)) l := by
  intro l
  induction l with
  | nil => rfl
  | cons x xs ih => rw [List.flatMap_cons, many_append, ih, sumL]
theorem many_cons (c a : UInt8) (l : List UInt8) : many c (a :: l) = (if a = c then 1 else 0) + many c l := by
  unfold many
  rw [List.count_cons, Nat.add_comm]
  by_cases e : a = c <;> simp [e]
theorem many_tS (d : Nat) (s : List (Sh d)) (c : UInt8) : many c (tS (d + 1) s) = (if lt (2 - d) = c then 1 else 0) + ((if 40 = c then 1 else 0) + (sumL (fun k => many c (tS d k)) s + if 41 = c then 1 else 0)) := by
  rw [tS_succ, many_cons, many_cons, many_append, many_flatMap, many_cons]
  simp [many]
theorem lt_inj {a b : Nat} (ha : a ≤ 3) (hb : b ≤ 3) (h : lt a = lt b) : a = b := by
  rcases (show a = 0 ∨ a = 1 ∨ a = 2 ∨ a = 3 by omega) with rfl | rfl | rfl | rfl <;>
  rcases (show b = 0 ∨ b = 1 ∨ b = 2 ∨ b = 3 by omega) with rfl | rfl | rfl | rfl <;>
  first | rfl | (exact absurd h (by decide))
theorem letters_tS (l : Nat) (hl : l ≤ 3) : ∀ (d : Nat), d ≤ 3 → ∀ (s : Sh d), many (lt l) (tS d s) = cnt d s l := by
  intro d
  induction d with
  | zero =>
    intro _ s
    show many (lt l) [lt 3] = if l = 3 then 1 else 0
    rw [many_cons]
    by_cases e : l = 3
    · subst e; rfl
    · rw [if_neg e, if_neg (fun h => e (lt_inj (by omega) hl h).symm)]; rfl
  | succ d ih =>
    intro hd (s : List (Sh d))
    rw [many_tS d s, cnt_succ d s, if_neg (show ¬ 40 = lt l from fun h => lt_no40 l h.symm), if_neg (show ¬ 41 = lt l from fun h => lt_no41 l h.symm), sumL_congr _ _ _ (fun k _ => ih (by omega) k)]
    by_cases e : l = 2 - d
    · rw [if_pos e, if_pos (by rw [e])]; omega
    · rw [if_neg e, if_neg (fun h => e (lt_inj (by omega) hl h).symm)]; omega
def tops (d : Nat) (s : Sh d) : Nat := cnt d s 0 + cnt d s 1 + cnt d s 2
theorem brackets_tS : ∀ (d : Nat), d ≤ 3 → ∀ (s : Sh d), many 40 (tS d s) = tops d s ∧ many 41 (tS d s) = tops d s := by
  intro d
  induction d with
  | zero => intro _ s; exact ⟨rfl, rfl⟩
  | succ d ih =>
    intro hd (s : List (Sh d))
    have e : sumL (fun k => tops d k) s = sumL (fun k => cnt d k 0) s + sumL (fun k => cnt d k 1) s + sumL (fun k => cnt d k 2) s := by
      unfold tops
      rw [sumL_add (fun k => cnt d k 0 + cnt d k 1) (fun k => cnt d k 2), sumL_add (fun k => cnt d k 0) (fun k => cnt d k 1)]
    have e2 : tops (d + 1) s = 1 + sumL (fun k => tops d k) s := by
      rw [e]
      unfold tops
      rw [cnt_succ d s, cnt_succ d s, cnt_succ d s]
      rcases (show d = 0 ∨ d = 1 ∨ d = 2 by omega) with rfl | rfl | rfl <;> simp <;> omega
    constructor
    · rw [many_tS d s, if_neg (lt_no40 _), if_pos rfl, if_neg (by decide), sumL_congr _ _ _ (fun k _ => (ih (by omega) k).1), e2, show sumL (tops d) s = sumL (fun k => tops d k) s from rfl]; omega
    · rw [many_tS d s, if_neg (lt_no41 _), if_neg (by decide), if_pos rfl, sumL_congr _ _ _ (fun k _ => (ih (by omega) k).2), e2, show sumL (tops d) s = sumL (fun k => tops d k) s from rfl]; omega
theorem flatMap_len {α : Type} (f : α → List UInt8) : ∀ l : List α, (l.flatMap f).length = sumL (fun a => (f a).length) l := by
  intro l
  induction l with
  | nil => rfl
  | cons x xs ih => rw [List.flatMap_cons, List.length_append, ih, sumL]
theorem len_tS : ∀ (d : Nat), d ≤ 3 → ∀ (s : Sh d) (b : Nat) (p : Int), (tS d s).length = (bS d s b p).length + 2 * tops d s := by
  intro d
  induction d with
  | zero => intro _ s b p; rfl
  | succ d ih =>
    intro hd (s : List (Sh d)) b p
    have K : ∀ (ks : List (Sh d)) (b : Nat) (p : Int), sumL (fun k => (tS d k).length) ks = (bSs (bS d) ks b p).length + 2 * sumL (fun k => tops d k) ks := by
      intro ks
      induction ks with
      | nil => intro b p; rfl
      | cons k ks ihk => intro b p; rw [sumL, bSs, List.length_append, sumL, ihk (b + (bS d k b p).length) p, ih (by omega) k b p]; omega
    have e : sumL (fun k => tops d k) s = sumL (fun k => cnt d k 0) s + sumL (fun k => cnt d k 1) s + sumL (fun k => cnt d k 2) s := by
      unfold tops
      rw [sumL_add (fun k => cnt d k 0 + cnt d k 1) (fun k => cnt d k 2), sumL_add (fun k => cnt d k 0) (fun k => cnt d k 1)]
    have e2 : tops (d + 1) s = 1 + sumL (fun k => tops d k) s := by
      rw [e]
      unfold tops
      rw [cnt_succ d s, cnt_succ d s, cnt_succ d s]
      rcases (show d = 0 ∨ d = 1 ∨ d = 2 by omega) with rfl | rfl | rfl <;> simp <;> omega
    rw [e2, bS_succ d s, List.length_cons, tS_succ, List.length_cons, List.length_cons, List.length_append, flatMap_len, K s (b + 1) b]
    simp only [List.length_singleton]
    omega
theorem levels_bS : ∀ (d : Nat), d ≤ 3 → ∀ (s : Sh d) (b : Nat) (p : Int), ∀ x ∈ bS d s b p, ((3 - d : Nat) : Int) ≤ x.2 ∧ x.2 ≤ 3 := by
  intro d
  induction d with
  | zero => intro _ s b p x hx; rw [List.mem_singleton.1 (show x ∈ [(p, 3)] from hx)]; simp
  | succ d ih =>
    intro hd (s : List (Sh d)) b p x hx
    have K : ∀ (ks : List (Sh d)) (b : Nat) (p : Int), ∀ x ∈ bSs (bS d) ks b p, ((3 - d : Nat) : Int) ≤ x.2 ∧ x.2 ≤ 3 := by
      intro ks
      induction ks with
      | nil => intro b p x hx; cases hx
      | cons k ks ihk =>
        intro b p x hx
        rcases List.mem_append.1 (show x ∈ bS d k b p ++ bSs (bS d) ks (b + (bS d k b p).length) p from hx) with hx | hx
        · exact ih (by omega) k b p x hx
        · exact ihk _ p x hx
    rcases List.mem_cons.1 (show x ∈ (p, ((2 - d : Nat) : Int)) :: bSs (bS d) s (b + 1) b from hx) with rfl | hx
    · simp only; omega
    · have := K s _ _ x hx; omega
theorem len_levels : ∀ (vs : List (Int × Int)), (∀ x ∈ vs, 0 ≤ x.2 ∧ x.2 ≤ 3) → vs.length = countF (fun x => x.2 == ((0 : Nat) : Int)) vs + countF (fun x => x.2 == ((1 : Nat) : Int)) vs + countF (fun x => x.2 == ((2 : Nat) : Int)) vs + countF (fun x => x.2 == ((3 : Nat) : Int)) vs := by
  intro vs
  induction vs with
  | nil => intro _; rfl
  | cons y ys ih =>
    intro h
    have h0 := h y List.mem_cons_self
    rw [List.length_cons, ih (fun x hx => h x (List.mem_cons_of_mem _ hx)), countF, countF, countF, countF]
    obtain ⟨a, l⟩ := y
    simp only at h0 ⊢
    rcases (show l = 0 ∨ l = 1 ∨ l = 2 ∨ l = 3 by omega) with rfl | rfl | rfl | rfl <;> simp <;> omega
theorem len_cnt (s : Sh 3) : (bS 3 s 0 (-1)).length = cnt 3 s 0 + cnt 3 s 1 + cnt 3 s 2 + cnt 3 s 3 := by
  rw [len_levels _ (fun x hx => by have := levels_bS 3 (Nat.le_refl _) s 0 (-1) x hx; omega)]
  rw [count_bS 0 (by omega) 3 (Nat.le_refl _), count_bS 1 (by omega) 3 (Nat.le_refl _), count_bS 2 (by omega) 3 (Nat.le_refl _), count_bS 3 (by omega) 3 (Nat.le_refl _)]

/-! A tree that may be: those below those of a level are those of the next. -/
theorem count_those {p : Int × Int → Bool} {vs : List (Int × Int)} (z : Int) : (those p vs).count z = match z with | .ofNat j => (match vs[j]? with | some x => if p x then 1 else 0 | none => 0) | .negSucc _ => 0 := by
  have hnd : (those p vs).Nodup := (thoseF_rise p vs 0).1.imp (fun h e => by rw [e] at h; exact absurd h (Int.lt_irrefl _))
  rw [hnd.count]
  cases z with
  | ofNat j =>
    simp only
    cases hx : vs[j]? with
    | none =>
      simp only
      rw [if_neg]
      intro h
      obtain ⟨i, x, e, hx', _⟩ := mem_those.1 h
      injection e with e
      subst e
      rw [hx] at hx'
      cases hx'
    | some x =>
      simp only
      by_cases hp : p x = true
      · rw [if_pos hp, if_pos]
        exact mem_those.2 ⟨j, x, rfl, hx, hp⟩
      · rw [if_neg hp, if_neg]
        intro h
        obtain ⟨i, y, e, hy, hq⟩ := mem_those.1 h
        injection e with e
        subst e
        rw [hx] at hy
        injection hy with hy
        subst hy
        exact hp hq
  | negSucc j =>
    simp only
    rw [if_neg]
    intro h
    obtain ⟨i, x, e, _⟩ := mem_those.1 h
    cases e
theorem count_flatMap (g : Int → List Int) (z : Int) : ∀ l : List Int, (l.flatMap g).count z = sumL (fun v => (g v).count z) l := by
  intro l
  induction l with
  | nil => rfl
  | cons x xs ih => rw [List.flatMap_cons, List.count_append, ih, sumL]
theorem sumL_eq (a : Int) : ∀ l : List Int, sumL (fun v => if a = v then 1 else 0) l = l.count a := by
  intro l
  induction l with
  | nil => rfl
  | cons x xs ih =>
    rw [sumL, ih, List.count_cons, Nat.add_comm]
    congr 1
    by_cases e : x = a
    · rw [if_pos e.symm, if_pos (by simpa using e)]
    · rw [if_neg (fun h => e h.symm), if_neg (by simpa using e)]
def lvl (l : Nat) (vs : List (Int × Int)) : List Int := those (fun x => x.2 == (l : Int)) vs
theorem next_level {vs : List (Int × Int)} (h : Tree vs) {a : Nat} (L : List Int) (hL : L.Perm (lvl a vs)) : (L.flatMap (kidsL vs)).Perm (lvl (a + 1) vs) := by
  rw [List.perm_iff_count]
  intro z
  rw [count_flatMap]
  have e : ∀ v, (kidsL vs v).count z = _ := fun v => count_those z
  unfold lvl at hL ⊢
  rw [count_those]
  cases z with
  | negSucc j =>
    simp only at e ⊢
    rw [sumL_congr _ _ _ (fun v _ => e v), sumL_const]; simp
  | ofNat j =>
    simp only at e ⊢
    cases hx : vs[j]? with
    | none =>
      rw [hx] at e
      simp only at e ⊢
      rw [sumL_congr _ _ _ (fun v _ => e v), sumL_const]; simp
    | some x =>
      rw [hx] at e
      simp only [beq_iff_eq] at e ⊢
      rw [sumL_congr _ _ _ (fun v _ => e v), sumL_eq, List.perm_iff_count.1 hL, count_those]
      by_cases h0 : j = 0
      · subst h0
        rw [h.first] at hx
        injection hx with hx
        subst hx
        show (0 : Nat) = if (0 : Int) = ((a + 1 : Nat) : Int) then 1 else 0
        rw [if_neg (by omega)]
      · obtain ⟨p, y, e1, _, e3, e4, _⟩ := h.next j x hx (by omega)
        rw [e1]
        simp only [beq_iff_eq]
        show (match vs[p]? with | some x => if x.2 = (a : Int) then 1 else 0 | none => 0) = _
        rw [e3]
        simp only
        by_cases hy : y.2 = a
        · rw [if_pos hy, if_pos (by omega)]
        · rw [if_neg hy, if_neg (by omega)]
theorem cnt_shp {vs : List (Int × Int)} (h : Tree vs) (l : Nat) (hl : l ≤ 3) : ∀ (d : Nat), d ≤ 3 → ∀ (L : List Int), L.Perm (lvl (3 - d) vs) →
    sumL (fun v => cnt d (shp vs d v) l) L = if 3 - d ≤ l then (lvl l vs).length else 0 := by
  intro d
  induction d with
  | zero =>
    intro _ L hL
    show sumL (fun _ => if l = 3 then 1 else 0) L = _
    rw [sumL_const]
    by_cases e : l = 3
    · subst e
      rw [if_pos rfl, if_pos (by omega), hL.length_eq]; simp
    · rw [if_neg e, if_neg (by omega)]; simp
  | succ d ih =>
    intro hd L hL
    have e : sumL (fun v => cnt (d + 1) (shp vs (d + 1) v) l) L = sumL (fun v => (if l = 2 - d then 1 else 0) + sumL (fun k => cnt d (shp vs d k) l) (kidsL vs v)) L := by
      refine sumL_congr _ _ _ (fun v _ => ?_)
      refine Eq.trans (cnt_succ d ((kidsL vs v).map (shp vs d)) l) ?_
      rw [sumL_map]
    rw [e, sumL_add, sumL_const, ← sumL_flatMap (fun k => cnt d (shp vs d k) l) (kidsL vs)]
    have hL' := next_level h L hL
    rw [show 3 - (d + 1) + 1 = 3 - d by omega] at hL'
    rw [ih (by omega) _ hL', hL.length_eq]
    by_cases e1 : l = 2 - d
    · subst e1
      rw [if_pos rfl, if_neg (by omega), if_pos (by omega), show 3 - (d + 1) = 2 - d by omega]; simp
    · rw [if_neg e1]
      by_cases e2 : 3 - d ≤ l
      · rw [if_pos e2, if_pos (by omega)]; simp
      · rw [if_neg e2, if_neg (by omega)]; simp
theorem lvl_zero {vs : List (Int × Int)} (h : Tree vs) : lvl 0 vs = [0] := by
  obtain ⟨y, ys, rfl⟩ : ∃ y ys, vs = y :: ys := by
    cases vs with
    | nil => exact absurd h.pos (by simp)
    | cons y ys => exact ⟨y, ys, rfl⟩
  have h0 := h.first
  injection h0 with h0
  subst h0
  unfold lvl those
  rw [thoseF, if_pos (by rfl), thoseF_none]
  · rfl
  · intro x hx
    obtain ⟨i, hi⟩ := List.mem_iff_getElem?.1 hx
    obtain ⟨_, _, _, _, _, a, b, _⟩ := h.next (i + 1) x hi (by omega)
    rw [beq_eq_false_iff_ne]
    simp
    omega
theorem cnt_tree {vs : List (Int × Int)} (h : Tree vs) (l : Nat) (hl : l ≤ 3) : cnt 3 (shp vs 3 0) l = (lvl l vs).length := by
  have := cnt_shp h l hl 3 (Nat.le_refl _) [0] (by rw [lvl_zero h])
  rw [if_pos (by omega)] at this
  rw [← this]; rfl
theorem levels_tree {vs : List (Int × Int)} (h : Tree vs) : ∀ x ∈ vs, 0 ≤ x.2 ∧ x.2 ≤ 3 := by
  intro x hx
  obtain ⟨i, hi⟩ := List.mem_iff_getElem?.1 hx
  exact h.level hi
theorem lvl_len (l : Nat) (vs : List (Int × Int)) : (lvl l vs).length = countF (fun x => x.2 == (l : Int)) vs := thoseF_len _ vs 0
theorem lvl_sm {vs : List (Int × Int)} (h : Tree vs) (l : Nat) (hl : l ≤ 3) : (lvl l (sm vs)).length = (lvl l vs).length := by
  rw [lvl_len, ← cnt_tree h l hl]
  exact count_bS l hl 3 (Nat.le_refl _) _ _ _
theorem len_sm {vs : List (Int × Int)} (h : Tree vs) : (sm vs).length = vs.length := by
  rw [len_levels vs (levels_tree h), ← lvl_len, ← lvl_len, ← lvl_len, ← lvl_len, ← cnt_tree h 0 (by omega), ← cnt_tree h 1 (by omega), ← cnt_tree h 2 (by omega), ← cnt_tree h 3 (by omega)]
  exact len_cnt _
/-- The tree that is numbered in the turn of the letters may be, if the tree may. -/
theorem tree_sm {vs : List (Int × Int)} (h : Tree vs) : Tree (sm vs) := by
  refine tree_whole _ (wf_shp h 3 (Nat.le_refl _) 0 (-1, 0) h.first rfl) ?_ ?_
  · have := len_sm h
    have := h.few
    unfold sm at *
    omega
  · have h1 : (those (fun x => x.2 == 3) (bS 3 (shp vs 3 0) 0 (-1))).length = (those (fun x => x.2 == 3) vs).length := lvl_sm h 3 (Nat.le_refl _)
    have := h.procs
    omega
theorem ne_shp {vs : List (Int × Int)} (h : Tree vs) : ne 3 (shp vs 3 0) := wf_ne 3 _ (wf_shp h 3 (Nat.le_refl _) 0 (-1, 0) h.first rfl)
/-- A tree's text is parsed to the tree numbered in its turn. -/
theorem parse_tx {vs : List (Int × Int)} (h : Tree vs) : parse (tx vs 3 0) = (sm vs, 0, 0) := parse_shape _ (ne_shp h) ((tree_iff _).2 (tree_sm h))
theorem tx_sm (vs : List (Int × Int)) : tx (sm vs) 3 0 = tx vs 3 0 := tx_whole _
theorem sm_sm (vs : List (Int × Int)) : sm (sm vs) = sm vs := sm_whole _
/-- What is parsed has the very text. -/
theorem tx_parse {l : List UInt8} (h : (parse l).2.2 = 0) : may (parse l).1 = true ∧ tx (parse l).1 3 0 = l ∧ sm (parse l).1 = (parse l).1 := by
  obtain ⟨s, _, e2, e3, e4⟩ := parse_ok h
  rw [e4]
  exact ⟨e3, by rw [tx_whole, e2], sm_whole s⟩
/-- How many letters a tree's text has. -/
theorem text_counts {vs : List (Int × Int)} (h : Tree vs) : many 109 (tx vs 3 0) = 1 ∧ many 110 (tx vs 3 0) = (lvl 1 vs).length ∧ many 99 (tx vs 3 0) = (lvl 2 vs).length ∧ many 112 (tx vs 3 0) = (lvl 3 vs).length
    ∧ many 40 (tx vs 3 0) = vs.length - (lvl 3 vs).length ∧ many 41 (tx vs 3 0) = vs.length - (lvl 3 vs).length ∧ (tx vs 3 0).length = vs.length + 2 * (vs.length - (lvl 3 vs).length) := by
  have hl : vs.length = cnt 3 (shp vs 3 0) 0 + cnt 3 (shp vs 3 0) 1 + cnt 3 (shp vs 3 0) 2 + cnt 3 (shp vs 3 0) 3 := by rw [← len_sm h]; exact len_cnt _
  have ht : tops 3 (shp vs 3 0) = vs.length - (lvl 3 vs).length := by rw [← cnt_tree h 3 (by omega), hl]; unfold tops; omega
  refine ⟨?_, ?_, ?_, ?_, ?_, ?_, ?_⟩
  · exact (letters_tS 0 (by omega) 3 (Nat.le_refl _) _).trans (cnt_top _)
  · exact (letters_tS 1 (by omega) 3 (Nat.le_refl _) _).trans (cnt_tree h 1 (by omega))
  · exact (letters_tS 2 (by omega) 3 (Nat.le_refl _) _).trans (cnt_tree h 2 (by omega))
  · exact (letters_tS 3 (by omega) 3 (Nat.le_refl _) _).trans (cnt_tree h 3 (by omega))
  · exact (brackets_tS 3 (Nat.le_refl _) _).1.trans ht
  · exact (brackets_tS 3 (Nat.le_refl _) _).2.trans ht
  · refine (len_tS 3 (Nat.le_refl _) _ 0 (-1)).trans ?_
    rw [ht]
    have := len_sm h
    unfold sm at this
    omega
end Go.Proofs.YthbeldmgaioemaaDoor.Tx


/- Layer 3 in plain mathematics: what becomes of a text that is cut, goes on, or has another byte; how vertices follow each other; what holds all along while a text is read. -/
namespace Go.Proofs.YthbeldmgaioemaaDoor.Tx
open Tp

theorem run_append : ∀ (a c : List UInt8) (σ : St), run σ (a ++ c) = if (run σ a).2 = [] then run (run σ a).1 c else ((run σ a).1, (run σ a).2 ++ c) := by
  intro a
  induction a with
  | nil => intro c σ; rfl
  | cons x xs ih =>
    intro c σ
    cases h : goes σ.q x σ.lv
    · rw [List.cons_append, run_no h, run_no h]; simp
    · rw [List.cons_append, run_yes h, run_yes h, ih]
/-- What holds at each place of a text that is read. -/
def Inv (σ : St) : Prop :=
  (σ.q = 0 ∧ σ.vs = [] ∧ σ.lv = 0) ∨ (σ.q = 109 ∧ σ.vs.length = 1 ∧ σ.lv = 0) ∨ (σ.q = 110 ∧ σ.lv = 1) ∨ (σ.q = 99 ∧ σ.lv = 2) ∨ (σ.q = 40 ∧ 1 ≤ σ.lv ∧ σ.lv ≤ 3) ∨ (σ.q = 112 ∧ σ.lv = 3) ∨ (σ.q = 41 ∧ σ.lv ≤ 2)
theorem Inv.le {σ : St} (h : Inv σ) : σ.lv ≤ 3 := by
  rcases h with h | h | h | h | h | h | h <;> omega
theorem inv0 : Inv st0 := .inl ⟨rfl, rfl, rfl⟩
theorem goes_cases {q c : UInt8} {l : Nat} (h : goes q c l = true) : c = lt l ∨ c = 40 ∨ c = 41 := by
  unfold goes at h
  split at h
  · exact .inl (by simpa using h)
  · split at h
    · exact .inr (.inl (by simpa using h))
    · simp only [Bool.and_eq_true, Bool.or_eq_true, beq_iff_eq] at h
      rcases h.2 with h | h
      · exact .inl h
      · exact .inr (.inr h)
theorem lt_inv {vs : List (Int × Int)} {ab : Nat → Int} {l : Nat} (hl : l ≤ 3) (h0 : l = 0 → vs.length = 1) : Inv ⟨vs, ab, l, lt l⟩ := by
  rcases (show l = 0 ∨ l = 1 ∨ l = 2 ∨ l = 3 by omega) with rfl | rfl | rfl | rfl
  · exact .inr (.inl ⟨rfl, h0 rfl, rfl⟩)
  · exact .inr (.inr (.inl ⟨rfl, rfl⟩))
  · exact .inr (.inr (.inr (.inl ⟨rfl, rfl⟩)))
  · exact .inr (.inr (.inr (.inr (.inr (.inl ⟨rfl, rfl⟩)))))
theorem Inv.adv {σ : St} (h : Inv σ) {c : UInt8} (hg : goes σ.q c σ.lv = true) : Inv (adv σ c) := by
  have hle := h.le
  rcases h with ⟨h1, h2, h3⟩ | ⟨h1, h2, h3⟩ | ⟨h1, h2⟩ | ⟨h1, h2⟩ | ⟨h1, h2, h3⟩ | ⟨h1, h2⟩ | ⟨h1, h2⟩
  · rw [goes_opn (.inl h1), beq_iff_eq] at hg
    rw [hg, adv_letter]
    exact lt_inv hle (fun _ => by rw [h2]; rfl)
  · rw [h1, show (109 : UInt8) = lt 0 from rfl, goes_letter _ _ _ (by omega), beq_iff_eq] at hg
    rw [hg, adv_open]
    exact .inr (.inr (.inr (.inr (.inl ⟨rfl, by simp only; omega, by simp only; omega⟩))))
  · rw [h1, show (110 : UInt8) = lt 1 from rfl, goes_letter _ _ _ (by omega), beq_iff_eq] at hg
    rw [hg, adv_open]
    exact .inr (.inr (.inr (.inr (.inl ⟨rfl, by simp only; omega, by simp only; omega⟩))))
  · rw [h1, show (99 : UInt8) = lt 2 from rfl, goes_letter _ _ _ (by omega), beq_iff_eq] at hg
    rw [hg, adv_open]
    exact .inr (.inr (.inr (.inr (.inl ⟨rfl, by simp only; omega, by simp only; omega⟩))))
  · rw [goes_opn (.inr h1), beq_iff_eq] at hg
    rw [hg, adv_letter]
    exact lt_inv hle (fun h0 => by omega)
  · rw [goes_whl (.inl h1)] at hg
    simp only [Bool.and_eq_true, Bool.or_eq_true, beq_iff_eq, decide_eq_true_eq] at hg
    rcases hg.2 with hc | hc
    · rw [hc, adv_letter]
      exact lt_inv hle (fun h0 => by omega)
    · rw [hc, adv_shut]
      exact .inr (.inr (.inr (.inr (.inr (.inr ⟨rfl, by simp only; omega⟩)))))
  · rw [goes_whl (.inr h1)] at hg
    simp only [Bool.and_eq_true, Bool.or_eq_true, beq_iff_eq, decide_eq_true_eq] at hg
    rcases hg.2 with hc | hc
    · rw [hc, adv_letter]
      exact lt_inv hle (fun h0 => by omega)
    · rw [hc, adv_shut]
      exact .inr (.inr (.inr (.inr (.inr (.inr ⟨rfl, by simp only; omega⟩)))))
theorem Inv.run : ∀ (l : List UInt8) (σ : St), Inv σ → Inv (run σ l).1 := by
  intro l
  induction l with
  | nil => intro σ h; exact h
  | cons c cs ih =>
    intro σ h
    cases hg : goes σ.q c σ.lv
    · rw [run_no hg]; exact h
    · rw [run_yes hg]; exact ih _ (h.adv hg)
/-- Where nothing goes on, and no tree is whole: the place is where it stopped. -/
theorem parse_stuck {l : List UInt8} (h : (run st0 l).2 ≠ []) : parse l = ([], l.length - (run st0 l).2.length, 2) := by
  unfold parse
  rw [if_neg (fun hh => h hh.1)]
/-- A tree's text, cut. -/
theorem whole_parts {vs : List (Int × Int)} (h : Tree vs) (k : Nat) (hk : k < (tx vs 3 0).length) : (run st0 ((tx vs 3 0).take k)).2 = [] ∧ ∃ c cs, (tx vs 3 0).drop k = c :: cs ∧ goes (run st0 ((tx vs 3 0).take k)).1.q c (run st0 ((tx vs 3 0).take k)).1.lv = true := by
  obtain ⟨σ', a1, _, _, _⟩ := whole_run _ (ne_shp h) []
  rw [List.append_nil] at a1
  have a1 : run st0 (tx vs 3 0) = (σ', []) := a1
  rw [← List.take_append_drop k (tx vs 3 0), run_append] at a1
  split at a1
  · rename_i h2
    refine ⟨h2, ?_⟩
    cases hd : (tx vs 3 0).drop k with
    | nil => rw [List.drop_eq_nil_iff] at hd; omega
    | cons c cs =>
      refine ⟨c, cs, rfl, ?_⟩
      rw [hd] at a1
      cases hg : goes (run st0 ((tx vs 3 0).take k)).1.q c (run st0 ((tx vs 3 0).take k)).1.lv
      · rw [run_no hg] at a1
        injection a1 with _ a1
        cases a1
      · rfl
  · rename_i h2
    injection a1 with _ a1
    exact absurd (List.append_eq_nil_iff.1 a1).1 h2
theorem parse_cut {vs : List (Int × Int)} (h : Tree vs) {k : Nat} (hk : k < (tx vs 3 0).length) : parse ((tx vs 3 0).take k) = ([], k, 2) := by
  obtain ⟨h1, c, cs, _, hg⟩ := whole_parts h k hk
  have hi := inv0.run ((tx vs 3 0).take k)
  unfold parse
  rw [if_neg, h1, List.length_take]
  · simp; omega
  · rintro ⟨_, b, m⟩
    have h2 := ((tree_iff _).1 m).two
    generalize (run st0 ((tx vs 3 0).take k)).1 = σ at *
    rcases hi with ⟨_, i2, _⟩ | ⟨_, i2, _⟩ | ⟨_, i2⟩ | ⟨_, i2⟩ | ⟨_, i2, _⟩ | ⟨_, i2⟩ | ⟨i1, _⟩
    · rw [i2] at h2; simp at h2
    all_goals try omega
    rw [goes_whl (.inr i1), b] at hg
    cases hg
theorem parse_on {vs : List (Int × Int)} (h : Tree vs) (c : UInt8) (r : List UInt8) : parse (tx vs 3 0 ++ c :: r) = ([], (tx vs 3 0).length, 2) := by
  obtain ⟨σ', a1, _, a3, a4⟩ := whole_run _ (ne_shp h) (c :: r)
  have a1 : run st0 (tx vs 3 0 ++ c :: r) = run σ' (c :: r) := a1
  rw [run_no (by rw [goes_whl a4, a3]; rfl)] at a1
  rw [parse_stuck (by rw [a1]; simp), a1]
  simp
/-- Is a byte in no text? -/
def odd (c : UInt8) : Bool := c != 109 && c != 110 && c != 99 && c != 112 && c != 40 && c != 41
theorem odd_no {c : UInt8} (h : odd c = true) (q : UInt8) (l : Nat) : goes q c l = false := by
  cases hg : goes q c l
  · rfl
  · simp only [odd, Bool.and_eq_true, bne_iff_ne] at h
    obtain ⟨⟨⟨⟨⟨h1, h2⟩, h3⟩, h4⟩, h5⟩, h6⟩ := h
    rcases goes_cases hg with e | e | e
    · unfold lt at e
      split at e <;> contradiction
    · exact absurd e h5
    · exact absurd e h6
theorem parse_odd {vs : List (Int × Int)} (h : Tree vs) {k : Nat} (hk : k < (tx vs 3 0).length) {c : UInt8} (hc : odd c = true) (r : List UInt8) : parse ((tx vs 3 0).take k ++ c :: r) = ([], k, 2) := by
  obtain ⟨h1, _⟩ := whole_parts h k hk
  have e : run st0 ((tx vs 3 0).take k ++ c :: r) = ((run st0 ((tx vs 3 0).take k)).1, c :: r) := by
    rw [run_append, if_pos h1, run_no (odd_no hc _ _)]
  rw [parse_stuck (by rw [e]; simp), e, List.length_append, List.length_take]
  simp
  omega
/-- A letter more is a vertex more, if it is a text. -/
theorem parse_grown {vs : List (Int × Int)} (h : Tree vs) (k : Nat) (hp : (parse ((tx vs 3 0).take k ++ 112 :: (tx vs 3 0).drop k)).2.2 = 0) :
    (parse ((tx vs 3 0).take k ++ 112 :: (tx vs 3 0).drop k)).1.length = vs.length + 1 := by
  obtain ⟨s, _, e2, _, e4⟩ := parse_ok hp
  rw [e4]
  have l1 := len_tS 3 (Nat.le_refl _) s 0 (-1)
  have l2 := (brackets_tS 3 (Nat.le_refl _) s).1
  rw [← e2] at l1 l2
  obtain ⟨_, _, _, _, c5, _, c7⟩ := text_counts h
  have l3 : many 40 ((tx vs 3 0).take k ++ 112 :: (tx vs 3 0).drop k) = many 40 (tx vs 3 0) := by
    conv => rhs; rw [← List.take_append_drop k (tx vs 3 0)]
    rw [many_append, many_append, many_cons, if_neg (by decide), Nat.zero_add]
  have l4 : ((tx vs 3 0).take k ++ 112 :: (tx vs 3 0).drop k).length = (tx vs 3 0).length + 1 := by
    simp only [List.length_append, List.length_take, List.length_cons, List.length_drop]
    omega
  simp only
  omega
/-- No vertex is of a greater level than the one ahead of it, and below one ahead of whom that one is below. -/
def Turn (vs : List (Int × Int)) : Prop := ∀ i x y, vs[i]? = some x → vs[i + 1]? = some y → ¬ (y.1 < x.1 ∧ x.2 < y.2)
theorem Turn.append {a b : List (Int × Int)} (ha : Turn a) (hb : Turn b) (hab : ∀ x ∈ a, ∀ y, b[0]? = some y → ¬ (y.1 < x.1 ∧ x.2 < y.2)) : Turn (a ++ b) := by
  intro i x y hx hy
  by_cases h1 : i + 1 < a.length
  · rw [List.getElem?_append_left (by omega)] at hx
    rw [List.getElem?_append_left h1] at hy
    exact ha i x y hx hy
  · by_cases h2 : i < a.length
    · rw [List.getElem?_append_left h2] at hx
      rw [List.getElem?_append_right (by omega), show i + 1 - a.length = 0 by omega] at hy
      exact hab x (List.mem_of_getElem? hx) y hy
    · rw [List.getElem?_append_right (by omega)] at hx
      rw [List.getElem?_append_right (by omega), show i + 1 - a.length = i - a.length + 1 by omega] at hy
      exact hb _ x y hx hy
theorem turn_bS : ∀ (d : Nat), d ≤ 3 → ∀ (s : Sh d) (b : Nat) (p : Int), p < b → Turn (bS d s b p) := by
  intro d
  induction d with
  | zero =>
    intro _ s b p _ i x y _ hy
    rw [show bS 0 s b p = [(p, 3)] from rfl] at hy
    simp at hy
  | succ d ih =>
    intro hd (s : List (Sh d)) b p hp
    have K : ∀ (ks : List (Sh d)) (b' : Nat), b < b' → Turn (bSs (bS d) ks b' (b : Int)) := by
      intro ks
      induction ks with
      | nil => intro b' _ i x y hx _; simp [bSs] at hx
      | cons k ks ihk =>
        intro b' hb
        rw [bSs]
        refine (ih (by omega) k b' _ (by omega)).append (ihk _ (by omega)) (fun x hx y hy => ?_)
        have hx2 := levels_bS d (by omega) k b' (b : Int) x hx
        cases ks with
        | nil => simp [bSs] at hy
        | cons k' ks' =>
          obtain ⟨tl, e, _⟩ := bS_split d (by omega) k' (b' + (bS d k b' (b : Int)).length) (b : Int)
          rw [bSs, e] at hy
          injection hy with hy
          subst hy
          simp only
          omega
    rw [bS_succ d s]
    refine Turn.append (a := [(p, ((2 - d : Nat) : Int))]) (fun i x y _ hy => by simp at hy) (K s (b + 1) (by omega)) (fun x hx y hy => ?_)
    rw [List.mem_singleton.1 hx]
    have hy' := bSs_range (d := d) (by omega) (b : Int) s (b + 1) y (List.mem_of_getElem? hy)
    simp only
    omega
theorem turn_sm (vs : List (Int × Int)) : Turn (sm vs) := turn_bS 3 (Nat.le_refl _) _ 0 (-1) (by omega)
/-- A text is no longer than this. -/
def big : Nat → Nat | 0 => 1 | 1 => 11 | 2 => 91 | _ => 731
theorem tx_len {vs : List (Int × Int)} (h : Tree vs) : ∀ (d : Nat), d ≤ 3 → ∀ (k : Nat) (x : Int × Int), vs[k]? = some x → x.2 = ((3 - d : Nat) : Int) → (tx vs d k).length ≤ big d := by
  have K : ∀ (f : Int → List UInt8) (B : Nat) (l : List Int), (∀ z ∈ l, (f z).length ≤ B) → (l.flatMap f).length ≤ l.length * B := by
    intro f B l
    induction l with
    | nil => intro _; simp
    | cons z zs ih =>
      intro hz
      have h1 := ih (fun y hy => hz y (List.mem_cons_of_mem _ hy))
      have h2 := hz z List.mem_cons_self
      rw [List.flatMap_cons, List.length_append, List.length_cons, Nat.succ_mul]
      omega
  have S : ∀ (d : Nat) (k B : Nat) (x : Int × Int), vs[k]? = some x → (∀ z ∈ kidsL vs k, (tx vs d z).length ≤ B) → (tx vs (d + 1) k).length ≤ 3 + 8 * B := by
    intro d k B x hx hB
    have h1 := K (tx vs d) B (kidsL vs k) hB
    have h2 : (kidsL vs k).length ≤ 8 := (h.kids hx).1
    have h3 : (kidsL vs k).length * B ≤ 8 * B := Nat.mul_le_mul_right _ h2
    rw [tx_succ, List.length_cons, List.length_cons, List.length_append]
    simp only [List.length_singleton]
    omega
  intro d
  induction d with
  | zero => intro _ k x _ _; exact Nat.le_refl _
  | succ d ih =>
    intro hd k x hx hl
    have hB : ∀ z ∈ kidsL vs k, (tx vs d z).length ≤ big d := by
      intro z hz
      obtain ⟨j, y, rfl, hy, hp⟩ := mem_those.1 hz
      obtain ⟨_, u, hu, hl2⟩ := h.kid hy (by simpa using hp)
      rw [hx] at hu
      injection hu with hu
      subst hu
      exact ih (by omega) j y hy (by omega)
    have := S d k _ x hx hB
    rcases (show d = 0 ∨ d = 1 ∨ d = 2 by omega) with rfl | rfl | rfl <;> simp only [big] at this ⊢ <;> omega
theorem tx_fits {vs : List (Int × Int)} (h : Tree vs) : (tx vs 3 0).length ≤ 731 := tx_len h 3 (Nat.le_refl _) 0 (-1, 0) h.first rfl
end Go.Proofs.YthbeldmgaioemaaDoor.Tx


/- text.goesOn comes to a plain function of the runes and the level. -/
namespace Go.Proofs.YthbeldmgaioemaaDoor
open Go.RowKit
set_option linter.unusedVariables false

def goI (q r : Int) (l : Nat) : Bool :=
  if q = 0 then r == ((Tx.lt l).toNat : Int)
  else if q = 40 then r == ((Tx.lt l).toNat : Int)
  else if q = 109 then r == 40
  else if q = 110 then r == 40
  else if q = 99 then r == 40
  else if 0 < l then (r == ((Tx.lt l).toNat : Int)) || r == 41
  else false
theorem goI_byte (q c : UInt8) (l : Nat) : goI (q.toNat : Int) (c.toNat : Int) l = Tx.goes q c l := by
  have e : ∀ a b : UInt8, ((a.toNat : Int) == (b.toNat : Int)) = (a == b) := by
    intro a b
    rw [Bool.eq_iff_iff, beq_iff_eq, beq_iff_eq]
    constructor
    · intro h; exact UInt8.toNat_inj.1 (by omega)
    · intro h; rw [h]
  have e2 : ∀ a b : UInt8, ((a.toNat : Int) = (b.toNat : Int)) ↔ a = b := by
    intro a b
    constructor
    · intro h; exact UInt8.toNat_inj.1 (by omega)
    · intro h; rw [h]
  unfold goI Tx.goes
  rw [e, show (40 : Int) = ((40 : UInt8).toNat : Int) from rfl, show (0 : Int) = ((0 : UInt8).toNat : Int) from rfl, show (109 : Int) = ((109 : UInt8).toNat : Int) from rfl, show (110 : Int) = ((110 : UInt8).toNat : Int) from rfl, show (99 : Int) = ((99 : UInt8).toNat : Int) from rfl, show (41 : Int) = ((41 : UInt8).toNat : Int) from rfl]
  simp only [e, e2]
  by_cases h0 : q = 0
  · rw [if_pos h0, if_pos (.inl h0)]
  · by_cases h1 : q = 40
    · rw [if_neg h0, if_pos h1, if_pos (.inr h1)]
    · rw [if_neg h0, if_neg h1, if_neg (show ¬ (q = 0 ∨ q = 40) from fun h => h.elim h0 h1)]
      by_cases h2 : q = 109
      · rw [if_pos h2, if_pos (.inl h2)]
      · by_cases h3 : q = 110
        · rw [if_neg h2, if_pos h3, if_pos (.inr (.inl h3))]
        · by_cases h4 : q = 99
          · rw [if_neg h2, if_neg h3, if_pos h4, if_pos (.inr (.inr h4))]
          · rw [if_neg h2, if_neg h3, if_neg h4, if_neg (show ¬ (q = 109 ∨ q = 110 ∨ q = 99) from fun h => h.elim h2 (fun h => h.elim h3 h4))]
            by_cases h5 : 0 < l
            · rw [if_pos h5, decide_eq_true h5, Bool.true_and]
            · rw [if_neg h5, decide_eq_false h5, Bool.false_and]
theorem goI_high (q r : Int) (l : Nat) (h : 128 ≤ r) : goI q r l = false := by
  have e : (r == ((Tx.lt l).toNat : Int)) = false := by
    rw [beq_eq_false_iff_ne]
    have : (Tx.lt l).toNat ≤ 112 := by
      unfold Tx.lt
      split <;> decide
    omega
  have e1 : (r == 40) = false := by rw [beq_eq_false_iff_ne]; omega
  have e2 : (r == 41) = false := by rw [beq_eq_false_iff_ne]; omega
  unfold goI
  rw [e, e1, e2]
  simp
theorem goI_a {q r : Int} {l : Nat} (h : (q == 0) = true) : goI q r l = (r == ((Tx.lt l).toNat : Int)) := if_pos (beq_iff_eq.1 h)
theorem goI_b {q r : Int} {l : Nat} (h0 : (q == 0) = false) (h : (q == 40) = true) : goI q r l = (r == ((Tx.lt l).toNat : Int)) := by
  unfold goI; rw [if_neg (beq_eq_false_iff_ne.1 h0), if_pos (beq_iff_eq.1 h)]
theorem goI_c {q r : Int} {l : Nat} (h0 : (q == 0) = false) (h1 : (q == 40) = false) (h : (q == 109) = true) : goI q r l = (r == 40) := by
  unfold goI; rw [if_neg (beq_eq_false_iff_ne.1 h0), if_neg (beq_eq_false_iff_ne.1 h1), if_pos (beq_iff_eq.1 h)]
theorem goI_d {q r : Int} {l : Nat} (h0 : (q == 0) = false) (h1 : (q == 40) = false) (h2 : (q == 109) = false) (h : (q == 110) = true) : goI q r l = (r == 40) := by
  unfold goI; rw [if_neg (beq_eq_false_iff_ne.1 h0), if_neg (beq_eq_false_iff_ne.1 h1), if_neg (beq_eq_false_iff_ne.1 h2), if_pos (beq_iff_eq.1 h)]
theorem goI_e {q r : Int} {l : Nat} (h0 : (q == 0) = false) (h1 : (q == 40) = false) (h2 : (q == 109) = false) (h3 : (q == 110) = false) (h : (q == 99) = true) : goI q r l = (r == 40) := by
  unfold goI; rw [if_neg (beq_eq_false_iff_ne.1 h0), if_neg (beq_eq_false_iff_ne.1 h1), if_neg (beq_eq_false_iff_ne.1 h2), if_neg (beq_eq_false_iff_ne.1 h3), if_pos (beq_iff_eq.1 h)]
theorem goI_f {q r : Int} {l : Nat} (h0 : (q == 0) = false) (h1 : (q == 40) = false) (h2 : (q == 109) = false) (h3 : (q == 110) = false) (h : (q == 99) = false) : goI q r l = if 0 < l then (r == ((Tx.lt l).toNat : Int)) || r == 41 else false := by
  unfold goI; rw [if_neg (beq_eq_false_iff_ne.1 h0), if_neg (beq_eq_false_iff_ne.1 h1), if_neg (beq_eq_false_iff_ne.1 h2), if_neg (beq_eq_false_iff_ne.1 h3), if_neg (beq_eq_false_iff_ne.1 h)]
set_option maxHeartbeats 1600000 in
theorem goesOn_any (q r : Int) (l : Nat) (hl : l ≤ 3) (w : World) :
    Calls Tryd.prog 47 #[.int .i32 q, .int .i32 r, .int .i64 l] w fun e w' => e = .returned (.bool (goI q r l)) ∧ w' = w := by
  have k : l = 0 ∨ l = 1 ∨ l = 2 ∨ l = 3 := by omega
  clear hl
  cases h0 : (q == 0)
  · cases h1 : (q == 40)
    · cases h2 : (q == 109)
      · cases h3 : (q == 110)
        · cases h4 : (q == 99)
          · have H := Lib.hid (goI_f (r := r) (l := l) h0 h1 h2 h3 h4)
            by_cases hz : l = 0
            · subst hz
              clear k
              go_enter Tryd.func47, Tryd.ntmps47
              go_wp2
              go_ret
              exact ⟨by rw [H.out]; rfl, rfl⟩
            · have k' : l = 1 ∨ l = 2 ∨ l = 3 := by omega
              clear k hz
              rcases k' with rfl | rfl | rfl
              all_goals
                go_enter Tryd.func47, Tryd.ntmps47
                go_wp2
                all_goals
                  go_ret
                  first
                    | exact ⟨by rw [H.out]; rfl, rfl⟩
                    | (rename_i hh; subst hh; exact ⟨by rw [H.out]; exact ret_bool (a := true) (by decide +kernel), rfl⟩)
                    | exact ⟨by rw [H.out]; exact ret_bool (congrArg (fun z : Int => (r == z || r == 41)) (by decide +kernel)), rfl⟩
          · have H := Lib.hid (goI_e (r := r) (l := l) h0 h1 h2 h3 h4)
            rcases k with rfl | rfl | rfl | rfl
            all_goals
              go_enter Tryd.func47, Tryd.ntmps47
              go_wp2
              go_ret
              exact ⟨by rw [H.out]; rfl, rfl⟩
        · have H := Lib.hid (goI_d (r := r) (l := l) h0 h1 h2 h3)
          rcases k with rfl | rfl | rfl | rfl
          all_goals
            go_enter Tryd.func47, Tryd.ntmps47
            go_wp2
            go_ret
            exact ⟨by rw [H.out]; rfl, rfl⟩
      · have H := Lib.hid (goI_c (r := r) (l := l) h0 h1 h2)
        rcases k with rfl | rfl | rfl | rfl
        all_goals
          go_enter Tryd.func47, Tryd.ntmps47
          go_wp2
          go_ret
          exact ⟨by rw [H.out]; rfl, rfl⟩
    · have H := Lib.hid (goI_b (r := r) (l := l) h0 h1)
      rcases k with rfl | rfl | rfl | rfl
      all_goals
        go_enter Tryd.func47, Tryd.ntmps47
        go_wp2
        go_ret
        exact ⟨by rw [H.out]; exact ret_bool (congrArg (fun z : Int => r == z) (by decide +kernel)), rfl⟩
  · have H := Lib.hid (goI_a (r := r) (l := l) h0)
    rcases k with rfl | rfl | rfl | rfl
    all_goals
      go_enter Tryd.func47, Tryd.ntmps47
      go_wp2
      go_ret
      exact ⟨by rw [H.out]; exact ret_bool (congrArg (fun z : Int => r == z) (by decide +kernel)), rfl⟩
end Go.Proofs.YthbeldmgaioemaaDoor


/- topo.Up comes to a plain function of the vertices. -/
namespace Go.Proofs.YthbeldmgaioemaaDoor
open Go.RowKit
set_option linter.unusedVariables false


end Go.Proofs.YthbeldmgaioemaaDoor


/- The small parts of dist: whether there is a p-th processor, how far two vertices are apart, the processors of a tree that may be; by contracts. -/
namespace Go.Proofs.YthbeldmgaioemaaDoor
open Go.RowKit
set_option linter.unusedVariables false

/-- The processors of a tree that may be; none of another one. -/
def procsIf (vs : List (Int × Int)) : List Int := if Tp.may vs then Dp.procs vs else []
theorem procsIf_length (vs : List (Int × Int)) : (procsIf vs).length = Dp.procsN vs := by
  unfold procsIf Dp.procsN
  split <;> rfl

/-- Whether there is a p-th one of n. -/
def isP (p : Int) (n : Nat) : Bool := decide (0 ≤ p ∧ p < n)
theorem isP_iff {p : Int} {n : Nat} : isP p n = true ↔ 0 ≤ p ∧ p < n := by unfold isP; rw [decide_eq_true_iff]
theorem isP_not {p : Int} {n : Nat} : isP p n = false ↔ p < 0 ∨ (n : Int) ≤ p := by unfold isP; rw [decide_eq_false_iff_not]; omega


theorem farV_three {vs : List (Int × Int)} {v u : Int} (h : ∀ e : Nat, e < 3 → Dp.above vs e v ≠ Dp.above vs e u) : Dp.farV vs v u = 3 := by
  have h0 : Dp.above vs 0 v ≠ Dp.above vs 0 u := h 0 (by omega)
  have h1 : Dp.above vs 1 v ≠ Dp.above vs 1 u := h 1 (by omega)
  have h2 : Dp.above vs 2 v ≠ Dp.above vs 2 u := h 2 (by omega)
  unfold Dp.farV
  rw [if_neg h0, if_neg h1, if_neg h2]

end Go.Proofs.YthbeldmgaioemaaDoor


/- dist.Far and dist.Node, by contracts: how far two processors are from each other, and a processor's node, as the document says. -/
namespace Go.Proofs.YthbeldmgaioemaaDoor
open Go.RowKit
set_option linter.unusedVariables false

theorem isP_far {vs : List (Int × Int)} {a b : Int} (h : isP a (Dp.procsN vs) = true) (h' : isP b (Dp.procsN vs) = true) : Dp.far vs a b = Dp.farV vs (Dp.proc vs a) (Dp.proc vs b) :=
  Dp.far_in (by have := isP_iff.1 h; have := isP_iff.1 h'; omega)
theorem isP_proc {vs : List (Int × Int)} {a : Int} (h : isP a (Dp.procsN vs) = true) : ∃ i : Nat, a = i ∧ i < Dp.procsN vs ∧ (procsIf vs)[i]? = some (Dp.proc vs a) ∧ Tp.Tree vs := by
  obtain ⟨h0, h1⟩ := isP_iff.1 h
  obtain ⟨i, rfl⟩ := Int.eq_ofNat_of_zero_le h0
  have T := Dp.tree_of_in h0 h1
  refine ⟨i, rfl, by omega, ?_, T⟩
  have := (Dp.proc_mem T h0 h1).1
  unfold procsIf
  rw [if_pos ((Tp.tree_iff vs).2 T)]
  exact this

theorem proc_of {vs : List (Int × Int)} {i : Nat} (h : i < Dp.procsN vs) : (procsIf vs)[i]? = some (Dp.proc vs i) := by
  obtain ⟨j, e, _, hp, _⟩ := isP_proc (vs := vs) (a := i) (isP_iff.2 (by omega))
  rw [show i = j by omega] at hp ⊢
  exact hp
theorem procsN_fits (vs : List (Int × Int)) (n : Nat) (hn : Hid (vs.length = n)) (hl : n ≤ 9223372036854775807) : Dp.procsN vs ≤ 9223372036854775807 := by
  have h1 := those_len (levelP 3) vs
  have h2 := hn.out
  have e : (procsIf vs).length ≤ (Tp.those (levelP 3) vs).length := by
    unfold procsIf; split
    · exact Nat.le_refl _
    · exact Nat.zero_le _
  rw [procsIf_length] at e
  omega


theorem below_undrew' {w w' : World} (h : Below w.drew.heap.size w.drew w') : Below w.heap.size w w' := ⟨h.os, h.tape, h.output, h.size, h.block⟩

end Go.Proofs.YthbeldmgaioemaaDoor


/- dist.Table, by its contract: of each processor, in turn, how far it is from each, in new memory. -/
namespace Go.Proofs.YthbeldmgaioemaaDoor
open Go.RowKit
set_option linter.unusedVariables false

theorem procsN_few (vs : List (Int × Int)) : Dp.procsN vs ≤ 64 := by
  rw [← procsIf_length]
  unfold procsIf
  split
  · rename_i h
    have := ((Tp.tree_iff vs).1 h).few
    have := those_len (levelP 3) vs
    exact Nat.le_trans this (by omega)
  · exact Nat.zero_le _
/-- How far processor k is from each. -/
def rowOf (vs : List (Int × Int)) (k : Nat) : List Int := (List.range (Dp.procsN vs)).map fun (b : Nat) => Dp.far vs k b
theorem rowOf_length (vs : List (Int × Int)) (k : Nat) : (rowOf vs k).length = Dp.procsN vs := by unfold rowOf; simp
theorem rowOf_at {vs : List (Int × Int)} {k j : Nat} (h : j < Dp.procsN vs) : (rowOf vs k)[j]? = some (Dp.far vs k j) := by unfold rowOf; simp [h]
theorem table_at {vs : List (Int × Int)} {k : Nat} (h : k < Dp.procsN vs) : (table vs)[k]? = some (rowOf vs k) := by unfold table rowOf; simp [h]
theorem table_length (vs : List (Int × Int)) : (table vs).length = Dp.procsN vs := by unfold table; simp
theorem own_base {w : World} {b1 b2 n size : Nat} {e : TypeId} {v : Value} {xs : List Value} (h : w.ownsRow b1 e size v n xs) (hb : b2 ≤ b1) : w.ownsRow b2 e size v n xs := by
  refine ⟨h.1, ?_⟩
  rcases h.2 with h0 | ⟨g, cap, cur, e1, hg, h3⟩
  · exact .inl h0
  · exact .inr ⟨g, cap, cur, e1, Nat.le_trans hb hg, h3⟩
/-- A row that is filled up to its j-th place. -/
def part (vs : List (Int × Int)) (k j : Nat) : List Int := (rowOf vs k).take j ++ List.replicate (Dp.procsN vs - j) 0
theorem part_zero (vs : List (Int × Int)) (k : Nat) : part vs k 0 = List.replicate (Dp.procsN vs) 0 := by unfold part; simp
theorem part_all (vs : List (Int × Int)) (k : Nat) : part vs k (Dp.procsN vs) = rowOf vs k := by
  unfold part
  rw [List.take_of_length_le (by rw [rowOf_length]; exact Nat.le_refl _), Nat.sub_self]
  simp
theorem part_length {vs : List (Int × Int)} {k j : Nat} (h : j ≤ Dp.procsN vs) : (part vs k j).length = Dp.procsN vs := by
  unfold part
  rw [List.length_append, List.length_take, List.length_replicate, rowOf_length]; omega
theorem part_set {vs : List (Int × Int)} {k j : Nat} (h : j < Dp.procsN vs) : (part vs k j).set j (Dp.far vs k j) = part vs k (j + 1) := by
  apply List.ext_getElem?
  intro i
  have hl : ((rowOf vs k).take j).length = j := by rw [List.length_take, rowOf_length]; omega
  have hl' : ((rowOf vs k).take (j + 1)).length = j + 1 := by rw [List.length_take, rowOf_length]; omega
  by_cases e : j = i
  · subst e
    rw [List.getElem?_set_self (by rw [part_length (by omega)]; exact h)]
    unfold part
    rw [List.getElem?_append_left (by omega), List.getElem?_take, if_pos (by omega), rowOf_at h]
  · rw [List.getElem?_set_ne e]
    unfold part
    by_cases e2 : i < j
    · rw [List.getElem?_append_left (by omega), List.getElem?_append_left (by omega), List.getElem?_take, List.getElem?_take, if_pos (by omega), if_pos (by omega)]
    · rw [List.getElem?_append_right (by omega), List.getElem?_append_right (by omega), hl, hl', List.getElem?_replicate, List.getElem?_replicate]
      by_cases e3 : i < Dp.procsN vs
      · rw [if_pos (by omega), if_pos (by omega)]
      · rw [if_neg (by omega), if_neg (by omega)]
/-- The slices that stand in a list of lists, each its row, of the call's own. -/
def RowsIn (w : World) (base : Nat) (rows : List (List Int)) (xs : List Value) : Prop :=
  xs.length = rows.length ∧ ∀ (i : Nat) (r : List Int), rows[i]? = some r → ∃ v : Value, xs[i]? = some v ∧ w.ownsRow base 3 1 v r.length (r.map (Value.int .i64))
theorem RowsIn.nil (w : World) (base : Nat) : RowsIn w base [] [] := ⟨rfl, fun i r h => by simp at h⟩
theorem RowsIn.below {w w' : World} {base : Nat} {rows : List (List Int)} {xs : List Value} (h : RowsIn w base rows xs) (hb : Below w.heap.size w w') : RowsIn w' base rows xs :=
  ⟨h.1, fun i r hi => by obtain ⟨v, h1, h2⟩ := h.2 i r hi; exact ⟨v, h1, own_below h2 hb⟩⟩
theorem own_types {w : World} {b1 b2 s1 s2 n1 n2 : Nat} {e1 e2 : TypeId} {v1 v2 : Value} {x1 x2 : List Value} (h1 : w.ownsRow b1 e1 s1 v1 n1 x1) (h2 : w.ownsRow b2 e2 s2 v2 n2 x2) (hne : e1 ≠ e2) : v1.ownBlock = none ∨ v1.ownBlock ≠ v2.ownBlock := by
  rcases h1.2 with ⟨rfl, _⟩ | ⟨g1, c1, cur1, rfl, _, k1, _⟩
  · exact .inl rfl
  · rcases h2.2 with ⟨rfl, _⟩ | ⟨g2, c2, cur2, rfl, _, k2, _⟩
    · exact .inr (by simp [Value.ownBlock])
    · refine .inr ?_
      intro h
      have e : g1 = g2 := by simpa [Value.ownBlock] using h
      subst e
      rw [k1] at k2
      injection k2 with k2
      injection k2 with _ k2
      exact hne k2
theorem RowsIn.grown {w w' : World} {base b2 n2 : Nat} {rows : List (List Int)} {xs x2 : List Value} {v2 : Value} (h : RowsIn w base rows xs) (ho : w.ownsRow b2 44 1 v2 n2 x2) (hg : w.grownBy w' v2.ownBlock) : RowsIn w' base rows xs :=
  ⟨h.1, fun i r hi => by obtain ⟨v, h1, h2⟩ := h.2 i r hi; exact ⟨v, h1, h2.kept hg (own_types h2 ho (by decide))⟩⟩
theorem RowsIn.snoc {w : World} {base : Nat} {rows : List (List Int)} {xs : List Value} {v : Value} {r : List Int} (h : RowsIn w base rows xs) (hr : w.ownsRow base 3 1 v r.length (r.map (Value.int .i64))) : RowsIn w base (rows ++ [r]) (xs ++ [v]) := by
  refine ⟨by simp [h.1], fun i s hi => ?_⟩
  by_cases e : i < rows.length
  · rw [List.getElem?_append_left e] at hi
    obtain ⟨v', h1, h2⟩ := h.2 i s hi
    exact ⟨v', by rw [List.getElem?_append_left (by rw [h.1]; exact e)]; exact h1, h2⟩
  · have hlt := (List.getElem?_eq_some_iff.1 hi).1
    simp at hlt
    have : i = rows.length := by omega
    subst this
    simp at hi
    subst hi
    exact ⟨v, by rw [List.getElem?_append_right (by rw [h.1]; exact Nat.le_refl _), h.1]; simp, hr⟩
theorem info_ints : (Tryd.prog.info? 44).map (fun i => (i.zero, i.size, i.bytes)) = some (some (Value.slice none 0 0), 1, 24) := by kernel_rfl
theorem slice_cell (w : World) (u : Value) (e : TypeId) : ∀ j x, [u][j]? = some x → (w.alloc (.cells #[u] e)).cell? ((⟨w.heap.size, 0, none⟩ : Addr).add j) = some x := one_cell w u e
theorem rrow_of {w : World} {base base2 : Nat} {A : Option Addr} {n c : Nat} {e : TypeId} {xs : List Value} {rows : List (List Int)} (h : w.ownsRow base e 1 (.slice A n c) n xs) (hr : RowsIn w base2 rows xs) : RRow w w.heap.size A rows := by
  intro i r hi
  obtain ⟨v, h1, h2⟩ := hr.2 i r hi
  obtain ⟨A', c', rfl⟩ := own_form h2
  have hl := (List.getElem?_eq_some_iff.1 h1).1
  have hn := h.1
  rcases h.2 with ⟨_, h0⟩ | ⟨g, cap, cur, hv, _, hh, _⟩
  · omega
  · injection hv with e1 e2 e3
    subst e1
    refine ⟨g, 0, rfl, (Array.getElem?_eq_some_iff.1 hh).1, A', c', ?_, IRow.of_own h2⟩
    have := h.cells (g := g) rfl i _ h1
    rw [show ((⟨g, 0, none⟩ : Addr).add i) = ⟨g, 0 + i, none⟩ from by unfold Addr.add; split <;> simp_all] at this
    exact this
theorem madeRows_of {w w1 w' : World} {v : Value} {rows : List (List Int)} {xs : List Value} {ty : TypeId} {base2 : Nat} (hb : Below w.heap.size w w1) (hown : w'.ownsRow w1.heap.size ty 1 v rows.length xs) (hr : RowsIn w' base2 rows xs) (hb1 : Below w1.heap.size w1 w') : MadeRows w rows (.returned v) w' := by
  obtain ⟨A, c, rfl⟩ := own_form hown
  exact ⟨A, c, rfl, rrow_of hown hr, hb.trans (hb1.mono hb.size)⟩
theorem zeros_map (m : Nat) : (madeCells #[Value.int .i64 0] m).toList = (List.replicate m (0 : Int)).map (Value.int .i64) := by
  rw [toList_madeCells_one, List.map_replicate]

end Go.Proofs.YthbeldmgaioemaaDoor


/- Slices of vertices that a call makes for itself: their cells, and how they read. -/
namespace Go.Proofs.YthbeldmgaioemaaDoor
open Go.RowKit
set_option linter.unusedVariables false

def vcells (vs : List (Int × Int)) : List Value := vs.flatMap fun x => [.int .i64 x.1, .int .i64 x.2]
theorem vcells_nil : vcells [] = [] := rfl
theorem vcells_one (p l : Int) : vcells [(p, l)] = [.int .i64 p, .int .i64 l] := rfl
theorem vcells_append (a b : List (Int × Int)) : vcells (a ++ b) = vcells a ++ vcells b := by unfold vcells; rw [List.flatMap_append]
theorem vcells_length (vs : List (Int × Int)) : (vcells vs).length = vs.length * 2 := by
  induction vs with
  | nil => rfl
  | cons x xs ih =>
    have : vcells (x :: xs) = .int .i64 x.1 :: .int .i64 x.2 :: vcells xs := rfl
    rw [this, List.length_cons, List.length_cons, ih, List.length_cons]; omega
theorem vcells_at : ∀ (vs : List (Int × Int)) (i : Nat), (vcells vs)[i * 2]? = (vs[i]?).map (fun x => Value.int .i64 x.1) ∧ (vcells vs)[i * 2 + 1]? = (vs[i]?).map (fun x => Value.int .i64 x.2) := by
  intro vs
  induction vs with
  | nil => intro i; simp [vcells]
  | cons x xs ih =>
    intro i
    have e : vcells (x :: xs) = .int .i64 x.1 :: .int .i64 x.2 :: vcells xs := rfl
    rw [e]
    cases i with
    | zero => exact ⟨rfl, rfl⟩
    | succ i =>
      obtain ⟨h1, h2⟩ := ih i
      rw [show (i + 1) * 2 = i * 2 + 1 + 1 from by omega]
      simp only [List.getElem?_cons_succ]
      exact ⟨h1, h2⟩
theorem vcells_one' (vs : List (Int × Int)) : ∀ u ∈ vcells vs, u.oneCell' = true := by
  intro u hu
  unfold vcells at hu
  obtain ⟨x, _, hx⟩ := List.mem_flatMap.1 hu
  simp only [List.mem_cons, List.not_mem_nil, or_false] at hx
  rcases hx with rfl | rfl <;> rfl
theorem add_at (b o j : Nat) : ((⟨b, o, none⟩ : Addr).add j) = ⟨b, o + j, none⟩ := by
  unfold Addr.add; split <;> simp_all
/-- The cells of a slice that came in, one by one. -/
theorem VRow.cells {w : World} {B b off : Nat} {vs : List (Int × Int)} (h : VRow w B (some ⟨b, off, none⟩) vs) : ∀ j u, (vcells vs)[j]? = some u → w.cell? ((⟨b, off, none⟩ : Addr).add j) = some u := by
  intro j u hj
  have hl := (List.getElem?_eq_some_iff.1 hj).1
  rw [vcells_length] at hl
  obtain ⟨x, hx⟩ : ∃ x, vs[j / 2]? = some x := ⟨_, List.getElem?_eq_getElem (by omega)⟩
  obtain ⟨b', off', hA, _, h1, h2⟩ := h _ _ hx
  injection hA with hA
  injection hA with e1 e2
  subst e1 e2
  obtain ⟨g1, g2⟩ := vcells_at vs (j / 2)
  rw [add_at]
  rcases Nat.mod_two_eq_zero_or_one j with e | e
  · rw [show j / 2 * 2 = j from by omega, hx] at g1
    rw [hj] at g1
    rw [show j / 2 * 2 = j from by omega] at h1
    rw [h1, g1]; rfl
  · rw [show j / 2 * 2 + 1 = j from by omega, hx] at g2
    rw [hj] at g2
    rw [show off + j / 2 * 2 + 1 = off + j from by omega] at h2
    rw [h2, g2]; rfl
/-- A row of vertices that a call has made for itself, read as vertices. -/
theorem VRow.of_own {w : World} {base n c : Nat} {e : TypeId} {A : Option Addr} {vs : List (Int × Int)} (h : w.ownsRow base e 2 (.slice A n c) n (vcells vs)) : VRow w w.heap.size A vs := by
  intro i x hi
  have hl : i < n := by
    have h1 := h.1
    have h2 := (List.getElem?_eq_some_iff.1 hi).1
    rw [vcells_length] at h1; omega
  rcases h.2 with ⟨_, h0⟩ | ⟨g, cap, cur, hv, _, hh, _⟩
  · omega
  · injection hv with h1 h2 h3
    subst h1
    obtain ⟨g1, g2⟩ := vcells_at vs i
    rw [hi] at g1 g2
    have c1 := h.cells (g := g) rfl _ _ g1
    have c2 := h.cells (g := g) rfl _ _ g2
    rw [add_at] at c1 c2
    exact ⟨g, 0, rfl, (Array.getElem?_eq_some_iff.1 hh).1, c1, by rw [show 0 + i * 2 + 1 = 0 + (i * 2 + 1) from by omega]; exact c2⟩
theorem own_vlen {w : World} {base n : Nat} {e : TypeId} {v : Value} {vs : List (Int × Int)} (h : w.ownsRow base e 2 v n (vcells vs)) : vs.length = n := by
  have h1 := h.1
  rw [vcells_length] at h1; omega
theorem own_empty (w : World) (base : Nat) (e : TypeId) (h : base ≤ w.heap.size) : (w.alloc (.cells #[] e)).ownsRow base e 2 (.slice (some ⟨w.heap.size, 0, none⟩) 0 0) 0 (vcells []) :=
  World.ownsRow_made _ _ _ h (by unfold maxLen; omega) rfl
theorem two_cells (w : World) (p l : Int) (e : TypeId) : ∀ j x, (vcells [(p, l)])[j]? = some x → (w.alloc (.cells #[.int .i64 p, .int .i64 l] e)).cell? ((⟨w.heap.size, 0, none⟩ : Addr).add j) = some x := by
  intro j x hj
  rw [vcells_one] at hj
  match j, hj with
  | 0, hj => simp at hj; subst hj; simp [Addr.add]
  | 1, hj => simp at hj; subst hj; simp [Addr.add]
theorem vcells_set : ∀ (vs : List (Int × Int)) (i : Nat) (p : Int) (x : Int × Int), vs[i]? = some x → (vcells vs).set (i * 2) (.int .i64 p) = vcells (vs.set i (p, x.2)) := by
  intro vs
  induction vs with
  | nil => intro i p x h; cases h
  | cons y ys ih =>
    intro i p x h
    have e : vcells (y :: ys) = .int .i64 y.1 :: .int .i64 y.2 :: vcells ys := rfl
    cases i with
    | zero => injection h with h; subst h; rfl
    | succ i =>
      rw [e, show (i + 1) * 2 = i * 2 + 1 + 1 from by omega, List.set_cons_succ, List.set_cons_succ, ih i p x h]; rfl
theorem news_kept {W W' : World} {row g : Nat} {zs : List Value} (hg : W.grownBy W' (some row)) (hne : g ≠ row) (hlt : g < W.heap.size) (h : ∀ j u, zs[j]? = some u → W.cell? ((⟨g, 0, none⟩ : Addr).add j) = some u) :
    ∀ j u, zs[j]? = some u → W'.cell? ((⟨g, 0, none⟩ : Addr).add j) = some u := by
  intro j u hj
  have h1 := h j u hj
  rw [add_at] at h1 ⊢
  exact (World.cell?_of_block (hg.block g hlt (by simpa using hne))).trans h1
theorem news_kept_drew {W W' : World} {row g : Nat} {zs : List Value} {v : Value} (hg : W.drew.grownBy W' v.ownBlock) (hv : v.ownBlock = some row) (hne : g ≠ row) (hlt : g < W.heap.size) (h : ∀ j u, zs[j]? = some u → W.cell? ((⟨g, 0, none⟩ : Addr).add j) = some u) :
    ∀ j u, zs[j]? = some u → W'.cell? ((⟨g, 0, none⟩ : Addr).add j) = some u := by
  rw [hv] at hg
  exact news_kept (W := W.drew) hg hne hlt h
theorem Fit.append {a b : List (Int × Int)} (ha : Fit a) (hb : Fit b) : Fit (a ++ b) := by
  intro x hx
  rcases List.mem_append.1 hx with h | h
  · exact ha x h
  · exact hb x h
theorem Fit.drop {a : List (Int × Int)} (ha : Fit a) (k : Nat) : Fit (a.drop k) := fun x hx => ha x (List.mem_of_mem_drop hx)
theorem Fit.take {a : List (Int × Int)} (ha : Fit a) (k : Nat) : Fit (a.take k) := fun x hx => ha x (List.mem_of_mem_take hx)
theorem VRow.take {w : World} {B : Nat} {A : Option Addr} {vs : List (Int × Int)} (h : VRow w B A vs) (k : Nat) : VRow w B A (vs.take k) := by
  intro i x hi
  refine h i x ?_
  rw [List.getElem?_take] at hi
  split at hi
  · exact hi
  · cases hi
theorem VRow.drop1 {w : World} {B b off : Nat} {vs : List (Int × Int)} (h : VRow w B (some ⟨b, off, none⟩) vs) : VRow w B (some ⟨b, off + 2, none⟩) (vs.drop 1) := by
  intro i x hi
  rw [List.getElem?_drop] at hi
  obtain ⟨b', off', hA, hb, h1, h2⟩ := h _ _ hi
  injection hA with hA
  injection hA with e1 e2
  subst e1 e2
  exact ⟨b, off + 2, rfl, hb, by rw [show off + 2 + i * 2 = off + (1 + i) * 2 from by omega]; exact h1, by rw [show off + 2 + i * 2 + 1 = off + (1 + i) * 2 + 1 from by omega]; exact h2⟩
end Go.Proofs.YthbeldmgaioemaaDoor

