/- Contracts and plain mathematics, put together by program (wip/merge.py) out of: TTree TCount TMore TGoes Up. -/
import Derived.Test.YtcoccegmkcdeiaaDoorM3
import Derived.Test.YtcoccegmkcdeiaaDoorM2
import Derived.Test.YtcoccegmkcdeiaaDoorM0
/- Layer 3 in plain mathematics: the tree that is numbered in the turn of the letters has the shape that it was made of, and may be, if that has as many below each one as may be. -/
namespace Go.Proofs.YtcoccegmkcdeiaaDoor.Tx
open Tp

theorem thoseF_append (p : Int × Int → Bool) : ∀ (xs ys : List (Int × Int)) (k : Nat), thoseF p k (xs ++ ys) = thoseF p k xs ++ thoseF p (k + xs.length) ys := by
  intro xs
  induction xs with
  | nil => intro ys k; rfl
  | cons x xs ih =>
    intro ys k
    rw [List.cons_append, thoseF, thoseF, ih, List.length_cons, show k + 1 + xs.length = k + (xs.length + 1) from by omega]
    split <;> rfl
theorem thoseF_none {p : Int × Int → Bool} : ∀ (xs : List (Int × Int)) (k : Nat), (∀ x ∈ xs, p x = false) → thoseF p k xs = [] := by
  intro xs
  induction xs with
  | nil => intro k _; rfl
  | cons x xs ih =>
    intro k h
    rw [thoseF, h x List.mem_cons_self, if_neg Bool.false_ne_true]
    exact ih _ (fun y hy => h y (List.mem_cons_of_mem _ hy))
/-- The first of a block hangs below p; the others within the block. -/
theorem bS_split : ∀ (d : Nat), d ≤ 3 → ∀ (s : Sh d) (b : Nat) (p : Int), ∃ tl, bS d s b p = (p, ((3 - d : Nat) : Int)) :: tl ∧ ∀ x ∈ tl, (b : Int) ≤ x.1 ∧ x.1 < ((b + (bS d s b p).length : Nat) : Int) := by
  intro d
  induction d with
  | zero => intro _ s b p; exact ⟨[], rfl, fun x hx => by cases hx⟩
  | succ d ih =>
    intro hd s b p
    refine ⟨bSs (bS d) s (b + 1) b, by rw [bS_succ d s, show 2 - d = 3 - (d + 1) by omega], ?_⟩
    have K : ∀ (ks : List (Sh d)) (b' : Nat), b < b' → ∀ x ∈ bSs (bS d) ks b' (b : Int), (b : Int) ≤ x.1 ∧ x.1 < ((b' + (bSs (bS d) ks b' (b : Int)).length : Nat) : Int) := by
      intro ks
      induction ks with
      | nil => intro b' _ x hx; cases hx
      | cons k ks ihk =>
        intro b' hb x hx
        rw [bSs, List.length_append]
        rcases List.mem_append.1 (show x ∈ bS d k b' (b : Int) ++ bSs (bS d) ks (b' + (bS d k b' (b : Int)).length) (b : Int) from hx) with hx | hx
        · obtain ⟨tl, e, ht⟩ := ih (by omega) k b' (b : Int)
          rw [e] at hx
          rcases List.mem_cons.1 hx with rfl | hx
          · simp only; omega
          · have := ht x hx
            omega
        · have := ihk _ (by omega) x hx
          omega
    intro x hx
    have := K s (b + 1) (by omega) x hx
    rw [bS_succ d s, List.length_cons]
    omega
theorem bS_pos {d : Nat} (hd : d ≤ 3) (s : Sh d) (b : Nat) (p : Int) : 0 < (bS d s b p).length := by
  obtain ⟨tl, e, _⟩ := bS_split d hd s b p
  rw [e]; simp
/-- Where the blocks of those below one begin. -/
def starts {α : Type} (F : α → Nat → Int → List (Int × Int)) : List α → Nat → Int → List Int
  | [], _, _ => []
  | k :: ks, b, p => (b : Int) :: starts F ks (b + (F k b p).length) p
theorem starts_len {α : Type} (F : α → Nat → Int → List (Int × Int)) : ∀ (ks : List α) (b : Nat) (p : Int), (starts F ks b p).length = ks.length := by
  intro ks
  induction ks with
  | nil => intro b p; rfl
  | cons k ks ih => intro b p; rw [starts, List.length_cons, ih, List.length_cons]
theorem those_starts {d : Nat} (hd : d ≤ 3) (own : Nat) : ∀ (ks : List (Sh d)) (b : Nat), own < b → thoseF (fun x => x.1 == (own : Int)) b (bSs (bS d) ks b (own : Int)) = starts (bS d) ks b own := by
  intro ks
  induction ks with
  | nil => intro b _; rfl
  | cons k ks ih =>
    intro b hb
    obtain ⟨tl, e, ht⟩ := bS_split d hd k b (own : Int)
    rw [bSs, thoseF_append, ih _ (by omega), starts]
    congr 1
    rw [e, thoseF, if_pos (by simp), thoseF_none tl (b + 1) (fun x hx => ?_)]
    · rfl
    · have := ht x hx
      rw [beq_eq_false_iff_ne]
      omega
theorem bSs_range {d : Nat} (hd : d ≤ 3) (own : Int) : ∀ (ks : List (Sh d)) (b : Nat), ∀ x ∈ bSs (bS d) ks b own, x.1 = own ∨ ((b : Int) ≤ x.1 ∧ x.1 < ((b + (bSs (bS d) ks b own).length : Nat) : Int)) := by
  intro ks
  induction ks with
  | nil => intro b x hx; cases hx
  | cons k ks ih =>
    intro b x hx
    rw [bSs, List.length_append]
    rcases List.mem_append.1 (show x ∈ bS d k b own ++ bSs (bS d) ks (b + (bS d k b own).length) own from hx) with hx | hx
    · obtain ⟨tl, e, ht⟩ := bS_split d hd k b own
      rw [e] at hx
      rcases List.mem_cons.1 hx with rfl | hx
      · exact .inl rfl
      · have := ht x hx
        exact .inr (by omega)
    · rcases ih _ x hx with h | h
      · exact .inl h
      · exact .inr (by omega)
/-- A block within a list: its shape, and that each of its vertices may be there. -/
def Placed (d : Nat) (s : Sh d) (T : List (Int × Int)) (b : Nat) (n : Nat) : Prop :=
  shp T d b = s ∧ (wf d s → ∀ j, j < n → filled T (b + j) = true ∧ (0 < j → hangs T (b + j) = true))
theorem wf_succ {d : Nat} {s : List (Sh d)} (h : wf (d + 1) s) : s ≠ [] ∧ s.length ≤ 8 ∧ ∀ k ∈ s, wf d k := h
theorem at_mid {pre mid post : List (Int × Int)} {x : Int × Int} (h : mid[0]? = some x) : (pre ++ (mid ++ post))[pre.length]? = some x := by
  rw [List.getElem?_append_right (Nat.le_refl _), Nat.sub_self, List.getElem?_append_left (List.getElem?_eq_some_iff.1 h).1]
  exact h
theorem placed : ∀ (d : Nat), d ≤ 3 → ∀ (s : Sh d) (pre post : List (Int × Int)) (p : Int), (∀ x ∈ pre, x.1 < pre.length) → p < pre.length →
    (∀ x ∈ post, x.1 < pre.length ∨ ((pre.length + (bS d s pre.length p).length : Nat) : Int) ≤ x.1) →
    Placed d s (pre ++ (bS d s pre.length p ++ post)) pre.length (bS d s pre.length p).length := by
  intro d
  induction d with
  | zero =>
    intro _ s pre post p hpre hp hpost
    refine ⟨rfl, fun _ j hj => ?_⟩
    have hj0 : j = 0 := by
      have : (bS 0 s pre.length p).length = 1 := rfl
      omega
    subst hj0
    refine ⟨?_, fun h => by omega⟩
    unfold filled
    rw [Nat.add_zero, at_mid (x := (p, 3)) rfl]
    rfl
  | succ d ih =>
    intro hd s pre post p hpre hp hpost
    have K : ∀ (ks : List (Sh d)) (pre1 post1 : List (Int × Int)) (own : Nat) (po : Int), (∀ x ∈ pre1, x.1 < pre1.length) → own < pre1.length → pre1[own]? = some (po, ((2 - d : Nat) : Int)) →
        (∀ x ∈ post1, x.1 < pre1.length ∨ ((pre1.length + (bSs (bS d) ks pre1.length (own : Int)).length : Nat) : Int) ≤ x.1) →
        (starts (bS d) ks pre1.length (own : Int)).map (shp (pre1 ++ (bSs (bS d) ks pre1.length (own : Int) ++ post1)) d) = ks
        ∧ ((∀ k ∈ ks, wf d k) → ∀ j, j < (bSs (bS d) ks pre1.length (own : Int)).length → filled (pre1 ++ (bSs (bS d) ks pre1.length (own : Int) ++ post1)) (pre1.length + j) = true ∧ hangs (pre1 ++ (bSs (bS d) ks pre1.length (own : Int) ++ post1)) (pre1.length + j) = true) := by
      intro ks
      induction ks with
      | nil => intro pre1 post1 own po _ _ _ _; exact ⟨rfl, fun _ j hj => absurd hj (by simp [bSs])⟩
      | cons k ks ihk =>
        intro pre1 post1 own po h1 h2 h3 h4
        obtain ⟨tl, e, ht⟩ := bS_split d (by omega) k pre1.length (own : Int)
        have hpos := bS_pos (d := d) (by omega) k pre1.length (own : Int)
        have hr := bSs_range (d := d) (by omega) (own : Int) ks (pre1.length + (bS d k pre1.length (own : Int)).length)
        have hL : (bSs (bS d) (k :: ks) pre1.length (own : Int)).length = (bS d k pre1.length (own : Int)).length + (bSs (bS d) ks (pre1.length + (bS d k pre1.length (own : Int)).length) (own : Int)).length := by rw [bSs, List.length_append]
        have h4' : ∀ x ∈ post1, x.1 < pre1.length ∨ ((pre1.length + (bS d k pre1.length (own : Int)).length + (bSs (bS d) ks (pre1.length + (bS d k pre1.length (own : Int)).length) (own : Int)).length : Nat) : Int) ≤ x.1 := fun x hx => by
          have := h4 x hx
          rw [hL] at this
          omega
        have hlen : (pre1 ++ bS d k pre1.length (own : Int)).length = pre1.length + (bS d k pre1.length (own : Int)).length := List.length_append
        have A := ih (by omega) k pre1 (bSs (bS d) ks (pre1.length + (bS d k pre1.length (own : Int)).length) (own : Int) ++ post1) (own : Int) h1 (by omega) (fun x hx => by
          rcases List.mem_append.1 hx with hx | hx
          · rcases hr x hx with h | h
            · exact .inl (by omega)
            · exact .inr h.1
          · rcases h4' x hx with h | h
            · exact .inl h
            · exact .inr (by omega))
        have B := ihk (pre1 ++ bS d k pre1.length (own : Int)) post1 own po (fun x hx => by
            rw [hlen]
            rcases List.mem_append.1 hx with hx | hx
            · have := h1 x hx; omega
            · rw [e] at hx
              rcases List.mem_cons.1 hx with rfl | hx
              · simp only; omega
              · have := ht x hx; omega)
          (by rw [hlen]; omega) (by rw [List.getElem?_append_left h2]; exact h3) (fun x hx => by
            rw [hlen]
            rcases h4' x hx with h | h
            · exact .inl (by omega)
            · exact .inr h)
        rw [hlen] at B
        have eT : pre1 ++ bS d k pre1.length (own : Int) ++ (bSs (bS d) ks (pre1.length + (bS d k pre1.length (own : Int)).length) (own : Int) ++ post1) = pre1 ++ (bSs (bS d) (k :: ks) pre1.length (own : Int) ++ post1) := by
          rw [bSs]; simp only [List.append_assoc]
        have eT2 : pre1 ++ (bS d k pre1.length (own : Int) ++ (bSs (bS d) ks (pre1.length + (bS d k pre1.length (own : Int)).length) (own : Int) ++ post1)) = pre1 ++ (bSs (bS d) (k :: ks) pre1.length (own : Int) ++ post1) := by
          rw [bSs]; simp only [List.append_assoc]
        rw [eT] at B
        rw [eT2] at A
        obtain ⟨B1, B2⟩ := B
        obtain ⟨A1, A2⟩ := A
        refine ⟨?_, fun hw j hj => ?_⟩
        · rw [starts, List.map_cons, A1, B1]
        · rw [hL] at hj
          by_cases hjk : j < (bS d k pre1.length (own : Int)).length
          · obtain ⟨a1, a2⟩ := A2 (hw k List.mem_cons_self) j hjk
            refine ⟨a1, ?_⟩
            by_cases hj0 : 0 < j
            · exact a2 hj0
            · have hj0 : j = 0 := by omega
              subst hj0
              have hx : (pre1 ++ (bSs (bS d) (k :: ks) pre1.length (own : Int) ++ post1))[pre1.length]? = some ((own : Int), ((3 - d : Nat) : Int)) := at_mid (by rw [bSs, e]; rfl)
              have ho : (pre1 ++ (bSs (bS d) (k :: ks) pre1.length (own : Int) ++ post1))[own]? = some (po, ((2 - d : Nat) : Int)) := by rw [List.getElem?_append_left h2]; exact h3
              unfold hangs hangsX
              rw [Nat.add_zero, hx, if_neg (by omega)]
              simp only [Option.getD_some]
              rw [if_neg (by omega), Int.toNat_natCast, ho, decide_eq_true (by omega)]
              simp only [Option.getD_some, Bool.true_and, beq_iff_eq]
              unfold dec
              split <;> omega
          · obtain ⟨b1, b2⟩ := B2 (fun k' hk' => hw k' (List.mem_cons_of_mem _ hk')) (j - (bS d k pre1.length (own : Int)).length) (by omega)
            rw [show pre1.length + (bS d k pre1.length (own : Int)).length + (j - (bS d k pre1.length (own : Int)).length) = pre1.length + j by omega] at b1 b2
            exact ⟨b1, b2⟩
    have hlen : (pre ++ [(p, ((2 - d : Nat) : Int))]).length = pre.length + 1 := by simp
    have hL : (bS (d + 1) s pre.length p).length = 1 + (bSs (bS d) s (pre.length + 1) (pre.length : Int)).length := by rw [bS_succ d s, List.length_cons, Nat.add_comm]
    have eT : pre ++ [(p, ((2 - d : Nat) : Int))] ++ (bSs (bS d) s (pre.length + 1) (pre.length : Int) ++ post) = pre ++ (bS (d + 1) s pre.length p ++ post) := by
      rw [bS_succ d s]; simp
    obtain ⟨K1, K2⟩ := K s (pre ++ [(p, ((2 - d : Nat) : Int))]) post pre.length p (fun x hx => by
        rw [hlen]
        rcases List.mem_append.1 hx with hx | hx
        · have := hpre x hx; omega
        · rw [List.mem_singleton.1 hx]; simp only; omega)
      (by rw [hlen]; omega) (by rw [List.getElem?_append_right (Nat.le_refl _), Nat.sub_self]; rfl) (fun x hx => by
        rw [hlen]
        rcases hpost x hx with h | h
        · exact .inl (by omega)
        · rw [hL] at h; exact .inr (by omega))
    rw [hlen, eT] at K1 K2
    have hkids : kidsL (pre ++ (bS (d + 1) s pre.length p ++ post)) (pre.length : Int) = starts (bS d) s (pre.length + 1) (pre.length : Int) := by
      unfold kidsL those
      rw [thoseF_append, thoseF_append, thoseF_none pre 0 (fun x hx => by have := hpre x hx; rw [beq_eq_false_iff_ne]; omega), bS_succ d s, thoseF, if_neg (by rw [beq_iff_eq]; omega), Nat.zero_add,
        those_starts (d := d) (by omega) pre.length s (pre.length + 1) (by omega), thoseF_none post _ (fun x hx => by have := hpost x hx; rw [hL] at this; rw [beq_eq_false_iff_ne]; omega)]
      simp
    refine ⟨?_, fun hw j hj => ?_⟩
    · refine Eq.trans ?_ K1
      show (kidsL _ _).map _ = _
      rw [hkids]
    · obtain ⟨w1, w2, w3⟩ := wf_succ hw
      by_cases hj0 : j = 0
      · subst hj0
        refine ⟨?_, fun h => by omega⟩
        have hx : (pre ++ (bS (d + 1) s pre.length p ++ post))[pre.length]? = some (p, ((2 - d : Nat) : Int)) := at_mid (by rw [bS_succ d s]; rfl)
        have hn : kidsN (pre ++ (bS (d + 1) s pre.length p ++ post)) pre.length = List.length s := by
          have : kidsN (pre ++ (bS (d + 1) s pre.length p ++ post)) pre.length = (kidsL (pre ++ (bS (d + 1) s pre.length p ++ post)) (pre.length : Int)).length := rfl
          rw [this, hkids]; exact starts_len (α := Sh d) _ s _ _
        have : 0 < List.length s := List.length_pos_iff.2 w1
        unfold filled
        rw [show pre.length + 0 = pre.length from rfl, hx, hn]
        simp only [Option.getD_some]
        rw [if_neg (by omega), decide_eq_true (by omega), decide_eq_true (by omega)]
        rfl
      · obtain ⟨k1, k2⟩ := K2 w3 (j - 1) (by omega)
        rw [show pre.length + 1 + (j - 1) = pre.length + j by omega] at k1 k2
        exact ⟨k1, fun _ => k2⟩
theorem placed_whole (s : Sh 3) : Placed 3 s (bS 3 s 0 (-1)) 0 (bS 3 s 0 (-1)).length := by
  have := placed 3 (Nat.le_refl _) s [] [] (-1) (fun x hx => by cases hx) (by simp) (fun x hx => by cases hx)
  simpa using this
/-- The shape of the tree that was made of a shape is that shape; its text is that shape's. -/
theorem shp_whole (s : Sh 3) : shp (bS 3 s 0 (-1)) 3 0 = s := (placed_whole s).1
theorem tx_whole (s : Sh 3) : tx (bS 3 s 0 (-1)) 3 0 = tS 3 s := by unfold tx; rw [shp_whole]
theorem sm_whole (s : Sh 3) : sm (bS 3 s 0 (-1)) = bS 3 s 0 (-1) := by unfold sm; rw [shp_whole]
theorem first_whole (s : Sh 3) : (bS 3 s 0 (-1))[0]? = some (-1, 0) := by
  obtain ⟨tl, e, _⟩ := bS_split 3 (Nat.le_refl _) s 0 (-1)
  rw [e]; rfl
theorem tree_whole (s : Sh 3) (hw : wf 3 s) (h64 : (bS 3 s 0 (-1)).length ≤ 64) (h32 : (those (fun x => x.2 == 3) (bS 3 s 0 (-1))).length ≤ 32) : Tree (bS 3 s 0 (-1)) := by
  have h := (placed_whole s).2 hw
  refine ⟨bS_pos (Nat.le_refl _) s 0 (-1), h64, h32, fun k hk => ?_, fun k hk => by have := (h k hk).1; rwa [Nat.zero_add] at this⟩
  by_cases h0 : k = 0
  · subst h0
    unfold hangs hangsX
    rw [first_whole]; rfl
  · have := (h k hk).2 (by omega)
    rwa [Nat.zero_add] at this
/-- The shape of a tree that may be: as many below each one as may be. -/
theorem wf_shp {vs : List (Int × Int)} (h : Tree vs) : ∀ (d : Nat), d ≤ 3 → ∀ (k : Nat) (x : Int × Int), vs[k]? = some x → x.2 = ((3 - d : Nat) : Int) → wf d (shp vs d k) := by
  intro d
  induction d with
  | zero => intro _ k x _ _; trivial
  | succ d ih =>
    intro hd k x hx hl
    obtain ⟨k8, k0⟩ := h.kids hx
    have hk : kidsN vs k = (kidsL vs k).length := rfl
    have e : shp vs (d + 1) k = (kidsL vs k).map (shp vs d) := rfl
    rw [e]
    refine ⟨?_, ?_, ?_⟩
    · intro h0
      have h0' : (kidsL vs k).map (shp vs d) = [] := h0
      have : (kidsL vs k).length = 0 := by rw [List.map_eq_nil_iff.1 h0']; rfl
      rw [← hk] at this
      have := k0.1 this
      omega
    · refine Nat.le_trans (Nat.le_of_eq (show ((kidsL vs k).map (shp vs d)).length = kidsN vs k by rw [List.length_map, hk])) k8
    · intro s hs
      obtain ⟨z, hz, rfl⟩ := List.mem_map.1 (show s ∈ (kidsL vs k).map (shp vs d) from hs)
      obtain ⟨j, y, rfl, hy, hp⟩ := mem_those.1 hz
      obtain ⟨_, u, hu, hl2⟩ := h.kid hy (by simpa using hp)
      rw [hx] at hu
      injection hu with hu
      subst hu
      exact ih (by omega) j y hy (by omega)
end Go.Proofs.YtcoccegmkcdeiaaDoor.Tx


/- Layer 3 in plain mathematics: how many letters a text has, and how many vertices of each level; a tree, and the one that is parsed of its text, have as many. -/
namespace Go.Proofs.YtcoccegmkcdeiaaDoor.Tx
open Tp

def sumL {α : Type} (f : α → Nat) : List α → Nat
  | [] => 0
  | a :: al => f a + sumL f al
theorem sumL_append {α : Type} (f : α → Nat) : ∀ a b, sumL f (a ++ b) = sumL f a + sumL f b := by
  intro a b
  induction a with
  | nil => simp [sumL]
  | cons x xs ih => rw [List.cons_append, sumL, sumL, ih]; omega
theorem sumL_flatMap {α β : Type} (f : β → Nat) (g : α → List β) : ∀ l, sumL f (l.flatMap g) = sumL (fun a => sumL f (g a)) l := by
  intro l
  induction l with
  | nil => rfl
  | cons x xs ih => rw [List.flatMap_cons, sumL_append, sumL, ih]
theorem sumL_map {α β : Type} (f : β → Nat) (g : α → β) : ∀ l, sumL f (l.map g) = sumL (fun a => f (g a)) l := by
  intro l
  induction l with
  | nil => rfl
  | cons x xs ih => rw [List.map_cons, sumL, sumL, ih]
theorem sumL_congr {α : Type} (f g : α → Nat) : ∀ l, (∀ a ∈ l, f a = g a) → sumL f l = sumL g l := by
  intro l
  induction l with
  | nil => intro _; rfl
  | cons x xs ih => intro h; rw [sumL, sumL, h x List.mem_cons_self, ih (fun a ha => h a (List.mem_cons_of_mem _ ha))]
theorem sumL_perm {α : Type} (f : α → Nat) {a b : List α} (h : a.Perm b) : sumL f a = sumL f b := by
  induction h with
  | nil => rfl
  | cons x _ ih => rw [sumL, sumL, ih]
  | swap x y l => rw [sumL, sumL, sumL, sumL]; omega
  | trans _ _ h1 h2 => rw [h1, h2]
theorem sumL_add {α : Type} (f g : α → Nat) : ∀ l, sumL (fun a => f a + g a) l = sumL f l + sumL g l := by
  intro l
  induction l with
  | nil => rfl
  | cons x xs ih => rw [sumL, sumL, sumL, ih]; omega
theorem sumL_const {α : Type} (c : Nat) : ∀ l : List α, sumL (fun _ => c) l = l.length * c := by
  intro l
  induction l with
  | nil => simp [sumL]
  | cons x xs ih => rw [sumL, ih, List.length_cons, Nat.succ_mul, Nat.add_comm]
/-- How many vertices of a level a shape has. -/
def cnt : (d : Nat) → Sh d → Nat → Nat
  | 0, _, l => if l = 3 then 1 else 0
  | d + 1, s, l => (if l = 2 - d then 1 else 0) + sumL (fun k => cnt d k l) (show List (Sh d) from s)
theorem cnt_succ (d : Nat) (s : List (Sh d)) (l : Nat) : cnt (d + 1) s l = (if l = 2 - d then 1 else 0) + sumL (fun k => cnt d k l) s := rfl
theorem count_bS (l : Nat) (h : l ≤ 3) : ∀ (d : Nat), d ≤ 3 → ∀ (s : Sh d) (b : Nat) (p : Int), countF (fun x => x.2 == (l : Int)) (bS d s b p) = cnt d s l := by
  intro d
  induction d with
  | zero =>
    intro _ s b p
    show (if (((3 : Int) == (l : Int)) = true) then 1 else 0) + 0 = if l = 3 then 1 else 0
    by_cases e : l = 3
    · subst e; rfl
    · rw [if_neg (by rw [beq_iff_eq]; omega), if_neg e]
  | succ d ih =>
    intro hd (s : List (Sh d)) b p
    have K : ∀ (ks : List (Sh d)) (b : Nat) (p : Int), countF (fun x => x.2 == (l : Int)) (bSs (bS d) ks b p) = sumL (fun k => cnt d k l) ks := by
      intro ks
      induction ks with
      | nil => intro b p; rfl
      | cons k ks ihk => intro b p; rw [bSs, countF_append, ih (by omega), ihk, sumL]
    rw [bS_succ d s, countF, K s, cnt_succ d s]
    congr 1
    by_cases e : l = 2 - d
    · rw [if_pos e, if_pos (by rw [beq_iff_eq]; simp only; omega)]
    · rw [if_neg e, if_neg (by rw [beq_iff_eq]; simp only; omega)]
theorem cnt_low : ∀ (d : Nat), d ≤ 3 → ∀ (s : Sh d) (l : Nat), l < 3 - d → cnt d s l = 0 := by
  intro d
  induction d with
  | zero => intro _ s l h; exact if_neg (by omega)
  | succ d ih =>
    intro hd (s : List (Sh d)) l h
    rw [cnt_succ d s, if_neg (by omega), sumL_congr _ (fun _ => 0) _ (fun k _ => ih (by omega) k l (by omega)), sumL_const]; simp
theorem cnt_top : ∀ (s : List (Sh 2)), cnt 3 s 0 = 1 := by
  intro s
  rw [cnt_succ 2 s, if_pos rfl, sumL_congr _ (fun _ => 0) _ (fun k _ => cnt_low 2 (by omega) k 0 (by omega)), sumL_const]; simp
/-- How many of a letter a text has. -/
def many (c : UInt8) (l : List UInt8) : Nat := l.count c
theorem many_append (c : UInt8) (a b : List UInt8) : many c (a ++ b) = many c a + many c b := List.count_append
theorem many_flatMap {α : Type} (c : UInt8) (f : α → List UInt8) : ∀ l : List α, many c (l.flatMap f) = sumL (fun a => many c (f a)) l := by
  intro l
  induction l with
  | nil => rfl
  | cons x xs ih => rw [List.flatMap_cons, many_append, ih, sumL]
theorem many_cons (c a : UInt8) (l : List UInt8) : many c (a :: l) = (if a = c then 1 else 0) + many c l := by
  unfold many
  rw [List.count_cons, Nat.add_comm]
  by_cases e : a = c <;> simp [e]
theorem many_tS (d : Nat) (s : List (Sh d)) (c : UInt8) : many c (tS (d + 1) s) = (if lt (2 - d) = c then 1 else 0) + ((if 40 = c then 1 else 0) + (sumL (fun k => many c (tS d k)) s + if 41 = c then 1 else 0)) := by
  rw [tS_succ, many_cons, many_cons, many_append, many_flatMap, many_cons]
  simp [many]
theorem lt_inj {a b : Nat} (ha : a ≤ 3) (hb : b ≤ 3) (h : lt a = lt b) : a = b := by
  rcases (show a = 0 ∨ a = 1 ∨ a = 2 ∨ a = 3 by omega) with rfl | rfl | rfl | rfl <;>
  rcases (show b = 0 ∨ b = 1 ∨ b = 2 ∨ b = 3 by omega) with rfl | rfl | rfl | rfl <;>
  first | rfl | (exact absurd h (by decide))
theorem letters_tS (l : Nat) (hl : l ≤ 3) : ∀ (d : Nat), d ≤ 3 → ∀ (s : Sh d), many (lt l) (tS d s) = cnt d s l := by
  intro d
  induction d with
  | zero =>
    intro _ s
    show many (lt l) [lt 3] = if l = 3 then 1 else 0
    rw [many_cons]
    by_cases e : l = 3
    · subst e; rfl
    · rw [if_neg e, if_neg (fun h => e (lt_inj (by omega) hl h).symm)]; rfl
  | succ d ih =>
    intro hd (s : List (Sh d))
    rw [many_tS d s, cnt_succ d s, if_neg (show ¬ 40 = lt l from fun h => lt_no40 l h.symm), if_neg (show ¬ 41 = lt l from fun h => lt_no41 l h.symm), sumL_congr _ _ _ (fun k _ => ih (by omega) k)]
    by_cases e : l = 2 - d
    · rw [if_pos e, if_pos (by rw [e])]; omega
    · rw [if_neg e, if_neg (fun h => e (lt_inj (by omega) hl h).symm)]; omega
def tops (d : Nat) (s : Sh d) : Nat := cnt d s 0 + cnt d s 1 + cnt d s 2
theorem brackets_tS : ∀ (d : Nat), d ≤ 3 → ∀ (s : Sh d), many 40 (tS d s) = tops d s ∧ many 41 (tS d s) = tops d s := by
  intro d
  induction d with
  | zero => intro _ s; exact ⟨rfl, rfl⟩
  | succ d ih =>
    intro hd (s : List (Sh d))
    have e : sumL (fun k => tops d k) s = sumL (fun k => cnt d k 0) s + sumL (fun k => cnt d k 1) s + sumL (fun k => cnt d k 2) s := by
      unfold tops
      rw [sumL_add (fun k => cnt d k 0 + cnt d k 1) (fun k => cnt d k 2), sumL_add (fun k => cnt d k 0) (fun k => cnt d k 1)]
    have e2 : tops (d + 1) s = 1 + sumL (fun k => tops d k) s := by
      rw [e]
      unfold tops
      rw [cnt_succ d s, cnt_succ d s, cnt_succ d s]
      rcases (show d = 0 ∨ d = 1 ∨ d = 2 by omega) with rfl | rfl | rfl <;> simp <;> omega
    constructor
    · rw [many_tS d s, if_neg (lt_no40 _), if_pos rfl, if_neg (by decide), sumL_congr _ _ _ (fun k _ => (ih (by omega) k).1), e2, show sumL (tops d) s = sumL (fun k => tops d k) s from rfl]; omega
    · rw [many_tS d s, if_neg (lt_no41 _), if_neg (by decide), if_pos rfl, sumL_congr _ _ _ (fun k _ => (ih (by omega) k).2), e2, show sumL (tops d) s = sumL (fun k => tops d k) s from rfl]; omega
theorem flatMap_len {α : Type} (f : α → List UInt8) : ∀ l : List α, (l.flatMap f).length = sumL (fun a => (f a).length) l := by
  intro l
  induction l with
  | nil => rfl
  | cons x xs ih => rw [List.flatMap_cons, List.length_append, ih, sumL]
theorem len_tS : ∀ (d : Nat), d ≤ 3 → ∀ (s : Sh d) (b : Nat) (p : Int), (tS d s).length = (bS d s b p).length + 2 * tops d s := by
  intro d
  induction d with
  | zero => intro _ s b p; rfl
  | succ d ih =>
    intro hd (s : List (Sh d)) b p
    have K : ∀ (ks : List (Sh d)) (b : Nat) (p : Int), sumL (fun k => (tS d k).length) ks = (bSs (bS d) ks b p).length + 2 * sumL (fun k => tops d k) ks := by
      intro ks
      induction ks with
      | nil => intro b p; rfl
      | cons k ks ihk => intro b p; rw [sumL, bSs, List.length_append, sumL, ihk (b + (bS d k b p).length) p, ih (by omega) k b p]; omega
    have e : sumL (fun k => tops d k) s = sumL (fun k => cnt d k 0) s + sumL (fun k => cnt d k 1) s + sumL (fun k => cnt d k 2) s := by
      unfold tops
      rw [sumL_add (fun k => cnt d k 0 + cnt d k 1) (fun k => cnt d k 2), sumL_add (fun k => cnt d k 0) (fun k => cnt d k 1)]
    have e2 : tops (d + 1) s = 1 + sumL (fun k => tops d k) s := by
      rw [e]
      unfold tops
      rw [cnt_succ d s, cnt_succ d s, cnt_succ d s]
      rcases (show d = 0 ∨ d = 1 ∨ d = 2 by omega) with rfl | rfl | rfl <;> simp <;> omega
    rw [e2, bS_succ d s, List.length_cons, tS_succ, List.length_cons, List.length_cons, List.length_append, flatMap_len, K s (b + 1) b]
    simp only [List.length_singleton]
    omega
theorem levels_bS : ∀ (d : Nat), d ≤ 3 → ∀ (s : Sh d) (b : Nat) (p : Int), ∀ x ∈ bS d s b p, ((3 - d : Nat) : Int) ≤ x.2 ∧ x.2 ≤ 3 := by
  intro d
  induction d with
  | zero => intro _ s b p x hx; rw [List.mem_singleton.1 (show x ∈ [(p, 3)] from hx)]; simp
  | succ d ih =>
    intro hd (s : List (Sh d)) b p x hx
    have K : ∀ (ks : List (Sh d)) (b : Nat) (p : Int), ∀ x ∈ bSs (bS d) ks b p, ((3 - d : Nat) : Int) ≤ x.2 ∧ x.2 ≤ 3 := by
      intro ks
      induction ks with
      | nil => intro b p x hx; cases hx
      | cons k ks ihk =>
        intro b p x hx
        rcases List.mem_append.1 (show x ∈ bS d k b p ++ bSs (bS d) ks (b + (bS d k b p).length) p from hx) with hx | hx
        · exact ih (by omega) k b p x hx
        · exact ihk _ p x hx
    rcases List.mem_cons.1 (show x ∈ (p, ((2 - d : Nat) : Int)) :: bSs (bS d) s (b + 1) b from hx) with rfl | hx
    · simp only; omega
    · have := K s _ _ x hx; omega
theorem len_levels : ∀ (vs : List (Int × Int)), (∀ x ∈ vs, 0 ≤ x.2 ∧ x.2 ≤ 3) → vs.length = countF (fun x => x.2 == ((0 : Nat) : Int)) vs + countF (fun x => x.2 == ((1 : Nat) : Int)) vs + countF (fun x => x.2 == ((2 : Nat) : Int)) vs + countF (fun x => x.2 == ((3 : Nat) : Int)) vs := by
  intro vs
  induction vs with
  | nil => intro _; rfl
  | cons y ys ih =>
    intro h
    have h0 := h y List.mem_cons_self
    rw [List.length_cons, ih (fun x hx => h x (List.mem_cons_of_mem _ hx)), countF, countF, countF, countF]
    obtain ⟨a, l⟩ := y
    simp only at h0 ⊢
    rcases (show l = 0 ∨ l = 1 ∨ l = 2 ∨ l = 3 by omega) with rfl | rfl | rfl | rfl <;> simp <;> omega
theorem len_cnt (s : Sh 3) : (bS 3 s 0 (-1)).length = cnt 3 s 0 + cnt 3 s 1 + cnt 3 s 2 + cnt 3 s 3 := by
  rw [len_levels _ (fun x hx => by have := levels_bS 3 (Nat.le_refl _) s 0 (-1) x hx; omega)]
  rw [count_bS 0 (by omega) 3 (Nat.le_refl _), count_bS 1 (by omega) 3 (Nat.le_refl _), count_bS 2 (by omega) 3 (Nat.le_refl _), count_bS 3 (by omega) 3 (Nat.le_refl _)]

/-! A tree that may be: those below those of a level are those of the next. -/
theorem count_those {p : Int × Int → Bool} {vs : List (Int × Int)} (z : Int) : (those p vs).count z = match z with | .ofNat j => (match vs[j]? with | some x => if p x then 1 else 0 | none => 0) | .negSucc _ => 0 := by
  have hnd : (those p vs).Nodup := (thoseF_rise p vs 0).1.imp (fun h e => by rw [e] at h; exact absurd h (Int.lt_irrefl _))
  rw [hnd.count]
  cases z with
  | ofNat j =>
    simp only
    cases hx : vs[j]? with
    | none =>
      simp only
      rw [if_neg]
      intro h
      obtain ⟨i, x, e, hx', _⟩ := mem_those.1 h
      injection e with e
      subst e
      rw [hx] at hx'
      cases hx'
    | some x =>
      simp only
      by_cases hp : p x = true
      · rw [if_pos hp, if_pos]
        exact mem_those.2 ⟨j, x, rfl, hx, hp⟩
      · rw [if_neg hp, if_neg]
        intro h
        obtain ⟨i, y, e, hy, hq⟩ := mem_those.1 h
        injection e with e
        subst e
        rw [hx] at hy
        injection hy with hy
        subst hy
        exact hp hq
  | negSucc j =>
    simp only
    rw [if_neg]
    intro h
    obtain ⟨i, x, e, _⟩ := mem_those.1 h
    cases e
theorem count_flatMap (g : Int → List Int) (z : Int) : ∀ l : List Int, (l.flatMap g).count z = sumL (fun v => (g v).count z) l := by
  intro l
  induction l with
  | nil => rfl
  | cons x xs ih => rw [List.flatMap_cons, List.count_append, ih, sumL]
theorem sumL_eq (a : Int) : ∀ l : List Int, sumL (fun v => if a = v then 1 else 0) l = l.count a := by
  intro l
  induction l with
  | nil => rfl
  | cons x xs ih =>
    rw [sumL, ih, List.count_cons, Nat.add_comm]
    congr 1
    by_cases e : x = a
    · rw [if_pos e.symm, if_pos (by simpa using e)]
    · rw [if_neg (fun h => e h.symm), if_neg (by simpa using e)]
def lvl (l : Nat) (vs : List (Int × Int)) : List Int := those (fun x => x.2 == (l : Int)) vs
theorem next_level {vs : List (Int × Int)} (h : Tree vs) {a : Nat} (L : List Int) (hL : L.Perm (lvl a vs)) : (L.flatMap (kidsL vs)).Perm (lvl (a + 1) vs) := by
  rw [List.perm_iff_count]
  intro z
  rw [count_flatMap]
  have e : ∀ v, (kidsL vs v).count z = _ := fun v => count_those z
  unfold lvl at hL ⊢
  rw [count_those]
  cases z with
  | negSucc j =>
    simp only at e ⊢
    rw [sumL_congr _ _ _ (fun v _ => e v), sumL_const]; simp
  | ofNat j =>
    simp only at e ⊢
    cases hx : vs[j]? with
    | none =>
      rw [hx] at e
      simp only at e ⊢
      rw [sumL_congr _ _ _ (fun v _ => e v), sumL_const]; simp
    | some x =>
      rw [hx] at e
      simp only [beq_iff_eq] at e ⊢
      rw [sumL_congr _ _ _ (fun v _ => e v), sumL_eq, List.perm_iff_count.1 hL, count_those]
      by_cases h0 : j = 0
      · subst h0
        rw [h.first] at hx
        injection hx with hx
        subst hx
        show (0 : Nat) = if (0 : Int) = ((a + 1 : Nat) : Int) then 1 else 0
        rw [if_neg (by omega)]
      · obtain ⟨p, y, e1, _, e3, e4, _⟩ := h.next j x hx (by omega)
        rw [e1]
        simp only [beq_iff_eq]
        show (match vs[p]? with | some x => if x.2 = (a : Int) then 1 else 0 | none => 0) = _
        rw [e3]
        simp only
        by_cases hy : y.2 = a
        · rw [if_pos hy, if_pos (by omega)]
        · rw [if_neg hy, if_neg (by omega)]
theorem cnt_shp {vs : List (Int × Int)} (h : Tree vs) (l : Nat) (hl : l ≤ 3) : ∀ (d : Nat), d ≤ 3 → ∀ (L : List Int), L.Perm (lvl (3 - d) vs) →
    sumL (fun v => cnt d (shp vs d v) l) L = if 3 - d ≤ l then (lvl l vs).length else 0 := by
  intro d
  induction d with
  | zero =>
    intro _ L hL
    show sumL (fun _ => if l = 3 then 1 else 0) L = _
    rw [sumL_const]
    by_cases e : l = 3
    · subst e
      rw [if_pos rfl, if_pos (by omega), hL.length_eq]; simp
    · rw [if_neg e, if_neg (by omega)]; simp
  | succ d ih =>
    intro hd L hL
    have e : sumL (fun v => cnt (d + 1) (shp vs (d + 1) v) l) L = sumL (fun v => (if l = 2 - d then 1 else 0) + sumL (fun k => cnt d (shp vs d k) l) (kidsL vs v)) L := by
      refine sumL_congr _ _ _ (fun v _ => ?_)
      refine Eq.trans (cnt_succ d ((kidsL vs v).map (shp vs d)) l) ?_
      rw [sumL_map]
    rw [e, sumL_add, sumL_const, ← sumL_flatMap (fun k => cnt d (shp vs d k) l) (kidsL vs)]
    have hL' := next_level h L hL
    rw [show 3 - (d + 1) + 1 = 3 - d by omega] at hL'
    rw [ih (by omega) _ hL', hL.length_eq]
    by_cases e1 : l = 2 - d
    · subst e1
      rw [if_pos rfl, if_neg (by omega), if_pos (by omega), show 3 - (d + 1) = 2 - d by omega]; simp
    · rw [if_neg e1]
      by_cases e2 : 3 - d ≤ l
      · rw [if_pos e2, if_pos (by omega)]; simp
      · rw [if_neg e2, if_neg (by omega)]; simp
theorem lvl_zero {vs : List (Int × Int)} (h : Tree vs) : lvl 0 vs = [0] := by
  obtain ⟨y, ys, rfl⟩ : ∃ y ys, vs = y :: ys := by
    cases vs with
    | nil => exact absurd h.pos (by simp)
    | cons y ys => exact ⟨y, ys, rfl⟩
  have h0 := h.first
  injection h0 with h0
  subst h0
  unfold lvl those
  rw [thoseF, if_pos (by rfl), thoseF_none]
  · rfl
  · intro x hx
    obtain ⟨i, hi⟩ := List.mem_iff_getElem?.1 hx
    obtain ⟨_, _, _, _, _, a, b, _⟩ := h.next (i + 1) x hi (by omega)
    rw [beq_eq_false_iff_ne]
    simp
    omega
theorem cnt_tree {vs : List (Int × Int)} (h : Tree vs) (l : Nat) (hl : l ≤ 3) : cnt 3 (shp vs 3 0) l = (lvl l vs).length := by
  have := cnt_shp h l hl 3 (Nat.le_refl _) [0] (by rw [lvl_zero h])
  rw [if_pos (by omega)] at this
  rw [← this]; rfl
theorem levels_tree {vs : List (Int × Int)} (h : Tree vs) : ∀ x ∈ vs, 0 ≤ x.2 ∧ x.2 ≤ 3 := by
  intro x hx
  obtain ⟨i, hi⟩ := List.mem_iff_getElem?.1 hx
  exact h.level hi
theorem lvl_len (l : Nat) (vs : List (Int × Int)) : (lvl l vs).length = countF (fun x => x.2 == (l : Int)) vs := thoseF_len _ vs 0
theorem lvl_sm {vs : List (Int × Int)} (h : Tree vs) (l : Nat) (hl : l ≤ 3) : (lvl l (sm vs)).length = (lvl l vs).length := by
  rw [lvl_len, ← cnt_tree h l hl]
  exact count_bS l hl 3 (Nat.le_refl _) _ _ _
theorem len_sm {vs : List (Int × Int)} (h : Tree vs) : (sm vs).length = vs.length := by
  rw [len_levels vs (levels_tree h), ← lvl_len, ← lvl_len, ← lvl_len, ← lvl_len, ← cnt_tree h 0 (by omega), ← cnt_tree h 1 (by omega), ← cnt_tree h 2 (by omega), ← cnt_tree h 3 (by omega)]
  exact len_cnt _
/-- The tree that is numbered in the turn of the letters may be, if the tree may. -/
theorem tree_sm {vs : List (Int × Int)} (h : Tree vs) : Tree (sm vs) := by
  refine tree_whole _ (wf_shp h 3 (Nat.le_refl _) 0 (-1, 0) h.first rfl) ?_ ?_
  · have := len_sm h
    have := h.few
    unfold sm at *
    omega
  · have h1 : (those (fun x => x.2 == 3) (bS 3 (shp vs 3 0) 0 (-1))).length = (those (fun x => x.2 == 3) vs).length := lvl_sm h 3 (Nat.le_refl _)
    have := h.procs
    omega
theorem ne_shp {vs : List (Int × Int)} (h : Tree vs) : ne 3 (shp vs 3 0) := wf_ne 3 _ (wf_shp h 3 (Nat.le_refl _) 0 (-1, 0) h.first rfl)
/-- A tree's text is parsed to the tree numbered in its turn. -/
theorem parse_tx {vs : List (Int × Int)} (h : Tree vs) : parse (tx vs 3 0) = (sm vs, 0, 0) := parse_shape _ (ne_shp h) ((tree_iff _).2 (tree_sm h))
theorem tx_sm (vs : List (Int × Int)) : tx (sm vs) 3 0 = tx vs 3 0 := tx_whole _
theorem sm_sm (vs : List (Int × Int)) : sm (sm vs) = sm vs := sm_whole _
/-- What is parsed has the very text. -/
theorem tx_parse {l : List UInt8} (h : (parse l).2.2 = 0) : may (parse l).1 = true ∧ tx (parse l).1 3 0 = l ∧ sm (parse l).1 = (parse l).1 := by
  obtain ⟨s, _, e2, e3, e4⟩ := parse_ok h
  rw [e4]
  exact ⟨e3, by rw [tx_whole, e2], sm_whole s⟩
/-- How many letters a tree's text has. -/
theorem text_counts {vs : List (Int × Int)} (h : Tree vs) : many 109 (tx vs 3 0) = 1 ∧ many 110 (tx vs 3 0) = (lvl 1 vs).length ∧ many 99 (tx vs 3 0) = (lvl 2 vs).length ∧ many 112 (tx vs 3 0) = (lvl 3 vs).length
    ∧ many 40 (tx vs 3 0) = vs.length - (lvl 3 vs).length ∧ many 41 (tx vs 3 0) = vs.length - (lvl 3 vs).length ∧ (tx vs 3 0).length = vs.length + 2 * (vs.length - (lvl 3 vs).length) := by
  have hl : vs.length = cnt 3 (shp vs 3 0) 0 + cnt 3 (shp vs 3 0) 1 + cnt 3 (shp vs 3 0) 2 + cnt 3 (shp vs 3 0) 3 := by rw [← len_sm h]; exact len_cnt _
  have ht : tops 3 (shp vs 3 0) = vs.length - (lvl 3 vs).length := by rw [← cnt_tree h 3 (by omega), hl]; unfold tops; omega
  refine ⟨?_, ?_, ?_, ?_, ?_, ?_, ?_⟩
  · exact (letters_tS 0 (by omega) 3 (Nat.le_refl _) _).trans (cnt_top _)
  · exact (letters_tS 1 (by omega) 3 (Nat.le_refl _) _).trans (cnt_tree h 1 (by omega))
  · exact (letters_tS 2 (by omega) 3 (Nat.le_refl _) _).trans (cnt_tree h 2 (by omega))
  · exact (letters_tS 3 (by omega) 3 (Nat.le_refl _) _).trans (cnt_tree h 3 (by omega))
  · exact (brackets_tS 3 (Nat.le_refl _) _).1.trans ht
  · exact (brackets_tS 3 (Nat.le_refl _) _).2.trans ht
  · refine (len_tS 3 (Nat.le_refl _) _ 0 (-1)).trans ?_
    rw [ht]
    have := len_sm h
    unfold sm at this
    omega
end Go.Proofs.YtcoccegmkcdeiaaDoor.Tx


/- Layer 3 in plain mathematics: what becomes of a text that is cut, goes on, or has another byte; how vertices follow each other; what holds all along while a text is read. -/
namespace Go.Proofs.YtcoccegmkcdeiaaDoor.Tx
open Tp

theorem run_append : ∀ (a c : List UInt8) (σ : St), run σ (a ++ c) = if (run σ a).2 = [] then run (run σ a).1 c else ((run σ a).1, (run σ a).2 ++ c) := by
  intro a
  induction a with
  | nil => intro c σ; rfl
  | cons x xs ih =>
    intro c σ
    cases h : goes σ.q x σ.lv
    · rw [List.cons_append, run_no h, run_no h]; simp
    · rw [List.cons_append, run_yes h, run_yes h, ih]
/-- What holds at each place of a text that is read. -/
def Inv (σ : St) : Prop :=
  (σ.q = 0 ∧ σ.vs = [] ∧ σ.lv = 0) ∨ (σ.q = 109 ∧ σ.vs.length = 1 ∧ σ.lv = 0) ∨ (σ.q = 110 ∧ σ.lv = 1) ∨ (σ.q = 99 ∧ σ.lv = 2) ∨ (σ.q = 40 ∧ 1 ≤ σ.lv ∧ σ.lv ≤ 3) ∨ (σ.q = 112 ∧ σ.lv = 3) ∨ (σ.q = 41 ∧ σ.lv ≤ 2)
theorem Inv.le {σ : St} (h : Inv σ) : σ.lv ≤ 3 := by
  rcases h with h | h | h | h | h | h | h <;> omega
theorem inv0 : Inv st0 := .inl ⟨rfl, rfl, rfl⟩
theorem goes_cases {q c : UInt8} {l : Nat} (h : goes q c l = true) : c = lt l ∨ c = 40 ∨ c = 41 := by
  unfold goes at h
  split at h
  · exact .inl (by simpa using h)
  · split at h
    · exact .inr (.inl (by simpa using h))
    · simp only [Bool.and_eq_true, Bool.or_eq_true, beq_iff_eq] at h
      rcases h.2 with h | h
      · exact .inl h
      · exact .inr (.inr h)
theorem lt_inv {vs : List (Int × Int)} {ab : Nat → Int} {l : Nat} (hl : l ≤ 3) (h0 : l = 0 → vs.length = 1) : Inv ⟨vs, ab, l, lt l⟩ := by
  rcases (show l = 0 ∨ l = 1 ∨ l = 2 ∨ l = 3 by omega) with rfl | rfl | rfl | rfl
  · exact .inr (.inl ⟨rfl, h0 rfl, rfl⟩)
  · exact .inr (.inr (.inl ⟨rfl, rfl⟩))
  · exact .inr (.inr (.inr (.inl ⟨rfl, rfl⟩)))
  · exact .inr (.inr (.inr (.inr (.inr (.inl ⟨rfl, rfl⟩)))))
theorem Inv.adv {σ : St} (h : Inv σ) {c : UInt8} (hg : goes σ.q c σ.lv = true) : Inv (adv σ c) := by
  have hle := h.le
  rcases h with ⟨h1, h2, h3⟩ | ⟨h1, h2, h3⟩ | ⟨h1, h2⟩ | ⟨h1, h2⟩ | ⟨h1, h2, h3⟩ | ⟨h1, h2⟩ | ⟨h1, h2⟩
  · rw [goes_opn (.inl h1), beq_iff_eq] at hg
    rw [hg, adv_letter]
    exact lt_inv hle (fun _ => by rw [h2]; rfl)
  · rw [h1, show (109 : UInt8) = lt 0 from rfl, goes_letter _ _ _ (by omega), beq_iff_eq] at hg
    rw [hg, adv_open]
    exact .inr (.inr (.inr (.inr (.inl ⟨rfl, by simp only; omega, by simp only; omega⟩))))
  · rw [h1, show (110 : UInt8) = lt 1 from rfl, goes_letter _ _ _ (by omega), beq_iff_eq] at hg
    rw [hg, adv_open]
    exact .inr (.inr (.inr (.inr (.inl ⟨rfl, by simp only; omega, by simp only; omega⟩))))
  · rw [h1, show (99 : UInt8) = lt 2 from rfl, goes_letter _ _ _ (by omega), beq_iff_eq] at hg
    rw [hg, adv_open]
    exact .inr (.inr (.inr (.inr (.inl ⟨rfl, by simp only; omega, by simp only; omega⟩))))
  · rw [goes_opn (.inr h1), beq_iff_eq] at hg
    rw [hg, adv_letter]
    exact lt_inv hle (fun h0 => by omega)
  · rw [goes_whl (.inl h1)] at hg
    simp only [Bool.and_eq_true, Bool.or_eq_true, beq_iff_eq, decide_eq_true_eq] at hg
    rcases hg.2 with hc | hc
    · rw [hc, adv_letter]
      exact lt_inv hle (fun h0 => by omega)
    · rw [hc, adv_shut]
      exact .inr (.inr (.inr (.inr (.inr (.inr ⟨rfl, by simp only; omega⟩)))))
  · rw [goes_whl (.inr h1)] at hg
    simp only [Bool.and_eq_true, Bool.or_eq_true, beq_iff_eq, decide_eq_true_eq] at hg
    rcases hg.2 with hc | hc
    · rw [hc, adv_letter]
      exact lt_inv hle (fun h0 => by omega)
    · rw [hc, adv_shut]
      exact .inr (.inr (.inr (.inr (.inr (.inr ⟨rfl, by simp only; omega⟩)))))
theorem Inv.run : ∀ (l : List UInt8) (σ : St), Inv σ → Inv (run σ l).1 := by
  intro l
  induction l with
  | nil => intro σ h; exact h
  | cons c cs ih =>
    intro σ h
    cases hg : goes σ.q c σ.lv
    · rw [run_no hg]; exact h
    · rw [run_yes hg]; exact ih _ (h.adv hg)
/-- Where nothing goes on, and no tree is whole: the place is where it stopped. -/
theorem parse_stuck {l : List UInt8} (h : (run st0 l).2 ≠ []) : parse l = ([], l.length - (run st0 l).2.length, 2) := by
  unfold parse
  rw [if_neg (fun hh => h hh.1)]
/-- A tree's text, cut. -/
theorem whole_parts {vs : List (Int × Int)} (h : Tree vs) (k : Nat) (hk : k < (tx vs 3 0).length) : (run st0 ((tx vs 3 0).take k)).2 = [] ∧ ∃ c cs, (tx vs 3 0).drop k = c :: cs ∧ goes (run st0 ((tx vs 3 0).take k)).1.q c (run st0 ((tx vs 3 0).take k)).1.lv = true := by
  obtain ⟨σ', a1, _, _, _⟩ := whole_run _ (ne_shp h) []
  rw [List.append_nil] at a1
  have a1 : run st0 (tx vs 3 0) = (σ', []) := a1
  rw [← List.take_append_drop k (tx vs 3 0), run_append] at a1
  split at a1
  · rename_i h2
    refine ⟨h2, ?_⟩
    cases hd : (tx vs 3 0).drop k with
    | nil => rw [List.drop_eq_nil_iff] at hd; omega
    | cons c cs =>
      refine ⟨c, cs, rfl, ?_⟩
      rw [hd] at a1
      cases hg : goes (run st0 ((tx vs 3 0).take k)).1.q c (run st0 ((tx vs 3 0).take k)).1.lv
      · rw [run_no hg] at a1
        injection a1 with _ a1
        cases a1
      · rfl
  · rename_i h2
    injection a1 with _ a1
    exact absurd (List.append_eq_nil_iff.1 a1).1 h2
theorem parse_cut {vs : List (Int × Int)} (h : Tree vs) {k : Nat} (hk : k < (tx vs 3 0).length) : parse ((tx vs 3 0).take k) = ([], k, 2) := by
  obtain ⟨h1, c, cs, _, hg⟩ := whole_parts h k hk
  have hi := inv0.run ((tx vs 3 0).take k)
  unfold parse
  rw [if_neg, h1, List.length_take]
  · simp; omega
  · rintro ⟨_, b, m⟩
    have h2 := ((tree_iff _).1 m).two
    generalize (run st0 ((tx vs 3 0).take k)).1 = σ at *
    rcases hi with ⟨_, i2, _⟩ | ⟨_, i2, _⟩ | ⟨_, i2⟩ | ⟨_, i2⟩ | ⟨_, i2, _⟩ | ⟨_, i2⟩ | ⟨i1, _⟩
    · rw [i2] at h2; simp at h2
    all_goals try omega
    rw [goes_whl (.inr i1), b] at hg
    cases hg
theorem parse_on {vs : List (Int × Int)} (h : Tree vs) (c : UInt8) (r : List UInt8) : parse (tx vs 3 0 ++ c :: r) = ([], (tx vs 3 0).length, 2) := by
  obtain ⟨σ', a1, _, a3, a4⟩ := whole_run _ (ne_shp h) (c :: r)
  have a1 : run st0 (tx vs 3 0 ++ c :: r) = run σ' (c :: r) := a1
  rw [run_no (by rw [goes_whl a4, a3]; rfl)] at a1
  rw [parse_stuck (by rw [a1]; simp), a1]
  simp
/-- Is a byte in no text? -/
def odd (c : UInt8) : Bool := c != 109 && c != 110 && c != 99 && c != 112 && c != 40 && c != 41
theorem odd_no {c : UInt8} (h : odd c = true) (q : UInt8) (l : Nat) : goes q c l = false := by
  cases hg : goes q c l
  · rfl
  · simp only [odd, Bool.and_eq_true, bne_iff_ne] at h
    obtain ⟨⟨⟨⟨⟨h1, h2⟩, h3⟩, h4⟩, h5⟩, h6⟩ := h
    rcases goes_cases hg with e | e | e
    · unfold lt at e
      split at e <;> contradiction
    · exact absurd e h5
    · exact absurd e h6
theorem parse_odd {vs : List (Int × Int)} (h : Tree vs) {k : Nat} (hk : k < (tx vs 3 0).length) {c : UInt8} (hc : odd c = true) (r : List UInt8) : parse ((tx vs 3 0).take k ++ c :: r) = ([], k, 2) := by
  obtain ⟨h1, _⟩ := whole_parts h k hk
  have e : run st0 ((tx vs 3 0).take k ++ c :: r) = ((run st0 ((tx vs 3 0).take k)).1, c :: r) := by
    rw [run_append, if_pos h1, run_no (odd_no hc _ _)]
  rw [parse_stuck (by rw [e]; simp), e, List.length_append, List.length_take]
  simp
  omega
/-- A letter more is a vertex more, if it is a text. -/
theorem parse_grown {vs : List (Int × Int)} (h : Tree vs) (k : Nat) (hp : (parse ((tx vs 3 0).take k ++ 112 :: (tx vs 3 0).drop k)).2.2 = 0) :
    (parse ((tx vs 3 0).take k ++ 112 :: (tx vs 3 0).drop k)).1.length = vs.length + 1 := by
  obtain ⟨s, _, e2, _, e4⟩ := parse_ok hp
  rw [e4]
  have l1 := len_tS 3 (Nat.le_refl _) s 0 (-1)
  have l2 := (brackets_tS 3 (Nat.le_refl _) s).1
  rw [← e2] at l1 l2
  obtain ⟨_, _, _, _, c5, _, c7⟩ := text_counts h
  have l3 : many 40 ((tx vs 3 0).take k ++ 112 :: (tx vs 3 0).drop k) = many 40 (tx vs 3 0) := by
    conv => rhs; rw [← List.take_append_drop k (tx vs 3 0)]
    rw [many_append, many_append, many_cons, if_neg (by decide), Nat.zero_add]
  have l4 : ((tx vs 3 0).take k ++ 112 :: (tx vs 3 0).drop k).length = (tx vs 3 0).length + 1 := by
    simp only [List.length_append, List.length_take, List.length_cons, List.length_drop]
    omega
  simp only
  omega
/-- No vertex is of a greater level than the one ahead of it, and below one ahead of whom that one is below. -/
def Turn (vs : List (Int × Int)) : Prop := ∀ i x y, vs[i]? = some x → vs[i + 1]? = some y → ¬ (y.1 < x.1 ∧ x.2 < y.2)
theorem Turn.append {a b : List (Int × Int)} (ha : Turn a) (hb : Turn b) (hab : ∀ x ∈ a, ∀ y, b[0]? = some y → ¬ (y.1 < x.1 ∧ x.2 < y.2)) : Turn (a ++ b) := by
  intro i x y hx hy
  by_cases h1 : i + 1 < a.length
  · rw [List.getElem?_append_left (by omega)] at hx
    rw [List.getElem?_append_left h1] at hy
    exact ha i x y hx hy
  · by_cases h2 : i < a.length
    · rw [List.getElem?_append_left h2] at hx
      rw [List.getElem?_append_right (by omega), show i + 1 - a.length = 0 by omega] at hy
      exact hab x (List.mem_of_getElem? hx) y hy
    · rw [List.getElem?_append_right (by omega)] at hx
      rw [List.getElem?_append_right (by omega), show i + 1 - a.length = i - a.length + 1 by omega] at hy
      exact hb _ x y hx hy
theorem turn_bS : ∀ (d : Nat), d ≤ 3 → ∀ (s : Sh d) (b : Nat) (p : Int), p < b → Turn (bS d s b p) := by
  intro d
  induction d with
  | zero =>
    intro _ s b p _ i x y _ hy
    rw [show bS 0 s b p = [(p, 3)] from rfl] at hy
    simp at hy
  | succ d ih =>
    intro hd (s : List (Sh d)) b p hp
    have K : ∀ (ks : List (Sh d)) (b' : Nat), b < b' → Turn (bSs (bS d) ks b' (b : Int)) := by
      intro ks
      induction ks with
      | nil => intro b' _ i x y hx _; simp [bSs] at hx
      | cons k ks ihk =>
        intro b' hb
        rw [bSs]
        refine (ih (by omega) k b' _ (by omega)).append (ihk _ (by omega)) (fun x hx y hy => ?_)
        have hx2 := levels_bS d (by omega) k b' (b : Int) x hx
        cases ks with
        | nil => simp [bSs] at hy
        | cons k' ks' =>
          obtain ⟨tl, e, _⟩ := bS_split d (by omega) k' (b' + (bS d k b' (b : Int)).length) (b : Int)
          rw [bSs, e] at hy
          injection hy with hy
          subst hy
          simp only
          omega
    rw [bS_succ d s]
    refine Turn.append (a := [(p, ((2 - d : Nat) : Int))]) (fun i x y _ hy => by simp at hy) (K s (b + 1) (by omega)) (fun x hx y hy => ?_)
    rw [List.mem_singleton.1 hx]
    have hy' := bSs_range (d := d) (by omega) (b : Int) s (b + 1) y (List.mem_of_getElem? hy)
    simp only
    omega
theorem turn_sm (vs : List (Int × Int)) : Turn (sm vs) := turn_bS 3 (Nat.le_refl _) _ 0 (-1) (by omega)
/-- A text is no longer than this. -/
def big : Nat → Nat | 0 => 1 | 1 => 11 | 2 => 91 | _ => 731
theorem tx_len {vs : List (Int × Int)} (h : Tree vs) : ∀ (d : Nat), d ≤ 3 → ∀ (k : Nat) (x : Int × Int), vs[k]? = some x → x.2 = ((3 - d : Nat) : Int) → (tx vs d k).length ≤ big d := by
  have K : ∀ (f : Int → List UInt8) (B : Nat) (l : List Int), (∀ z ∈ l, (f z).length ≤ B) → (l.flatMap f).length ≤ l.length * B := by
    intro f B l
    induction l with
    | nil => intro _; simp
    | cons z zs ih =>
      intro hz
      have h1 := ih (fun y hy => hz y (List.mem_cons_of_mem _ hy))
      have h2 := hz z List.mem_cons_self
      rw [List.flatMap_cons, List.length_append, List.length_cons, Nat.succ_mul]
      omega
  have S : ∀ (d : Nat) (k B : Nat) (x : Int × Int), vs[k]? = some x → (∀ z ∈ kidsL vs k, (tx vs d z).length ≤ B) → (tx vs (d + 1) k).length ≤ 3 + 8 * B := by
    intro d k B x hx hB
    have h1 := K (tx vs d) B (kidsL vs k) hB
    have h2 : (kidsL vs k).length ≤ 8 := (h.kids hx).1
    have h3 : (kidsL vs k).length * B ≤ 8 * B := Nat.mul_le_mul_right _ h2
    rw [tx_succ, List.length_cons, List.length_cons, List.length_append]
    simp only [List.length_singleton]
    omega
  intro d
  induction d with
  | zero => intro _ k x _ _; exact Nat.le_refl _
  | succ d ih =>
    intro hd k x hx hl
    have hB : ∀ z ∈ kidsL vs k, (tx vs d z).length ≤ big d := by
      intro z hz
      obtain ⟨j, y, rfl, hy, hp⟩ := mem_those.1 hz
      obtain ⟨_, u, hu, hl2⟩ := h.kid hy (by simpa using hp)
      rw [hx] at hu
      injection hu with hu
      subst hu
      exact ih (by omega) j y hy (by omega)
    have := S d k _ x hx hB
    rcases (show d = 0 ∨ d = 1 ∨ d = 2 by omega) with rfl | rfl | rfl <;> simp only [big] at this ⊢ <;> omega
theorem tx_fits {vs : List (Int × Int)} (h : Tree vs) : (tx vs 3 0).length ≤ 731 := tx_len h 3 (Nat.le_refl _) 0 (-1, 0) h.first rfl
end Go.Proofs.YtcoccegmkcdeiaaDoor.Tx


/- text.goesOn comes to a plain function of the runes and the level. -/
namespace Go.Proofs.YtcoccegmkcdeiaaDoor
open Go.RowKit
set_option linter.unusedVariables false

def goI (q r : Int) (l : Nat) : Bool :=
  if q = 0 then r == ((Tx.lt l).toNat : Int)
  else if q = 40 then r == ((Tx.lt l).toNat : Int)
  else if q = 109 then r == 40
  else if q = 110 then r == 40
  else if q = 99 then r == 40
  else if 0 < l then (r == ((Tx.lt l).toNat : Int)) || r == 41
  else false
theorem goI_byte (q c : UInt8) (l : Nat) : goI (q.toNat : Int) (c.toNat : Int) l = Tx.goes q c l := by
  have e : ∀ a b : UInt8, ((a.toNat : Int) == (b.toNat : Int)) = (a == b) := by
    intro a b
    rw [Bool.eq_iff_iff, beq_iff_eq, beq_iff_eq]
    constructor
    · intro h; exact UInt8.toNat_inj.1 (by omega)
    · intro h; rw [h]
  have e2 : ∀ a b : UInt8, ((a.toNat : Int) = (b.toNat : Int)) ↔ a = b := by
    intro a b
    constructor
    · intro h; exact UInt8.toNat_inj.1 (by omega)
    · intro h; rw [h]
  unfold goI Tx.goes
  rw [e, show (40 : Int) = ((40 : UInt8).toNat : Int) from rfl, show (0 : Int) = ((0 : UInt8).toNat : Int) from rfl, show (109 : Int) = ((109 : UInt8).toNat : Int) from rfl, show (110 : Int) = ((110 : UInt8).toNat : Int) from rfl, show (99 : Int) = ((99 : UInt8).toNat : Int) from rfl, show (41 : Int) = ((41 : UInt8).toNat : Int) from rfl]
  simp only [e, e2]
  by_cases h0 : q = 0
  · rw [if_pos h0, if_pos (.inl h0)]
  · by_cases h1 : q = 40
    · rw [if_neg h0, if_pos h1, if_pos (.inr h1)]
    · rw [if_neg h0, if_neg h1, if_neg (show ¬ (q = 0 ∨ q = 40) from fun h => h.elim h0 h1)]
      by_cases h2 : q = 109
      · rw [if_pos h2, if_pos (.inl h2)]
      · by_cases h3 : q = 110
        · rw [if_neg h2, if_pos h3, if_pos (.inr (.inl h3))]
        · by_cases h4 : q = 99
          · rw [if_neg h2, if_neg h3, if_pos h4, if_pos (.inr (.inr h4))]
          · rw [if_neg h2, if_neg h3, if_neg h4, if_neg (show ¬ (q = 109 ∨ q = 110 ∨ q = 99) from fun h => h.elim h2 (fun h => h.elim h3 h4))]
            by_cases h5 : 0 < l
            · rw [if_pos h5, decide_eq_true h5, Bool.true_and]
            · rw [if_neg h5, decide_eq_false h5, Bool.false_and]
theorem goI_high (q r : Int) (l : Nat) (h : 128 ≤ r) : goI q r l = false := by
  have e : (r == ((Tx.lt l).toNat : Int)) = false := by
    rw [beq_eq_false_iff_ne]
    have : (Tx.lt l).toNat ≤ 112 := by
      unfold Tx.lt
      split <;> decide
    omega
  have e1 : (r == 40) = false := by rw [beq_eq_false_iff_ne]; omega
  have e2 : (r == 41) = false := by rw [beq_eq_false_iff_ne]; omega
  unfold goI
  rw [e, e1, e2]
  simp
theorem goI_a {q r : Int} {l : Nat} (h : (q == 0) = true) : goI q r l = (r == ((Tx.lt l).toNat : Int)) := if_pos (beq_iff_eq.1 h)
theorem goI_b {q r : Int} {l : Nat} (h0 : (q == 0) = false) (h : (q == 40) = true) : goI q r l = (r == ((Tx.lt l).toNat : Int)) := by
  unfold goI; rw [if_neg (beq_eq_false_iff_ne.1 h0), if_pos (beq_iff_eq.1 h)]
theorem goI_c {q r : Int} {l : Nat} (h0 : (q == 0) = false) (h1 : (q == 40) = false) (h : (q == 109) = true) : goI q r l = (r == 40) := by
  unfold goI; rw [if_neg (beq_eq_false_iff_ne.1 h0), if_neg (beq_eq_false_iff_ne.1 h1), if_pos (beq_iff_eq.1 h)]
theorem goI_d {q r : Int} {l : Nat} (h0 : (q == 0) = false) (h1 : (q == 40) = false) (h2 : (q == 109) = false) (h : (q == 110) = true) : goI q r l = (r == 40) := by
  unfold goI; rw [if_neg (beq_eq_false_iff_ne.1 h0), if_neg (beq_eq_false_iff_ne.1 h1), if_neg (beq_eq_false_iff_ne.1 h2), if_pos (beq_iff_eq.1 h)]
theorem goI_e {q r : Int} {l : Nat} (h0 : (q == 0) = false) (h1 : (q == 40) = false) (h2 : (q == 109) = false) (h3 : (q == 110) = false) (h : (q == 99) = true) : goI q r l = (r == 40) := by
  unfold goI; rw [if_neg (beq_eq_false_iff_ne.1 h0), if_neg (beq_eq_false_iff_ne.1 h1), if_neg (beq_eq_false_iff_ne.1 h2), if_neg (beq_eq_false_iff_ne.1 h3), if_pos (beq_iff_eq.1 h)]
theorem goI_f {q r : Int} {l : Nat} (h0 : (q == 0) = false) (h1 : (q == 40) = false) (h2 : (q == 109) = false) (h3 : (q == 110) = false) (h : (q == 99) = false) : goI q r l = if 0 < l then (r == ((Tx.lt l).toNat : Int)) || r == 41 else false := by
  unfold goI; rw [if_neg (beq_eq_false_iff_ne.1 h0), if_neg (beq_eq_false_iff_ne.1 h1), if_neg (beq_eq_false_iff_ne.1 h2), if_neg (beq_eq_false_iff_ne.1 h3), if_neg (beq_eq_false_iff_ne.1 h)]
set_option maxHeartbeats 1600000 in
theorem goesOn_any (q r : Int) (l : Nat) (hl : l ≤ 3) (w : World) :
    Calls Tryd.prog 47 #[.int .i32 q, .int .i32 r, .int .i64 l] w fun e w' => e = .returned (.bool (goI q r l)) ∧ w' = w := by
  have k : l = 0 ∨ l = 1 ∨ l = 2 ∨ l = 3 := by omega
  clear hl
  cases h0 : (q == 0)
  · cases h1 : (q == 40)
    · cases h2 : (q == 109)
      · cases h3 : (q == 110)
        · cases h4 : (q == 99)
          · have H := Lib.hid (goI_f (r := r) (l := l) h0 h1 h2 h3 h4)
            by_cases hz : l = 0
            · subst hz
              clear k
              go_enter Tryd.func47, Tryd.ntmps47
              go_wp2
              go_ret
              exact ⟨by rw [H.out]; rfl, rfl⟩
            · have k' : l = 1 ∨ l = 2 ∨ l = 3 := by omega
              clear k hz
              rcases k' with rfl | rfl | rfl
              all_goals
                go_enter Tryd.func47, Tryd.ntmps47
                go_wp2
                all_goals
                  go_ret
                  first
                    | exact ⟨by rw [H.out]; rfl, rfl⟩
                    | (rename_i hh; subst hh; exact ⟨by rw [H.out]; exact ret_bool (a := true) (by decide +kernel), rfl⟩)
                    | exact ⟨by rw [H.out]; exact ret_bool (congrArg (fun z : Int => (r == z || r == 41)) (by decide +kernel)), rfl⟩
          · have H := Lib.hid (goI_e (r := r) (l := l) h0 h1 h2 h3 h4)
            rcases k with rfl | rfl | rfl | rfl
            all_goals
              go_enter Tryd.func47, Tryd.ntmps47
              go_wp2
              go_ret
              exact ⟨by rw [H.out]; rfl, rfl⟩
        · have H := Lib.hid (goI_d (r := r) (l := l) h0 h1 h2 h3)
          rcases k with rfl | rfl | rfl | rfl
          all_goals
            go_enter Tryd.func47, Tryd.ntmps47
            go_wp2
            go_ret
            exact ⟨by rw [H.out]; rfl, rfl⟩
      · have H := Lib.hid (goI_c (r := r) (l := l) h0 h1 h2)
        rcases k with rfl | rfl | rfl | rfl
        all_goals
          go_enter Tryd.func47, Tryd.ntmps47
          go_wp2
          go_ret
          exact ⟨by rw [H.out]; rfl, rfl⟩
    · have H := Lib.hid (goI_b (r := r) (l := l) h0 h1)
      rcases k with rfl | rfl | rfl | rfl
      all_goals
        go_enter Tryd.func47, Tryd.ntmps47
        go_wp2
        go_ret
        exact ⟨by rw [H.out]; exact ret_bool (congrArg (fun z : Int => r == z) (by decide +kernel)), rfl⟩
  · have H := Lib.hid (goI_a (r := r) (l := l) h0)
    rcases k with rfl | rfl | rfl | rfl
    all_goals
      go_enter Tryd.func47, Tryd.ntmps47
      go_wp2
      go_ret
      exact ⟨by rw [H.out]; exact ret_bool (congrArg (fun z : Int => r == z) (by decide +kernel)), rfl⟩
end Go.Proofs.YtcoccegmkcdeiaaDoor


/- topo.Up comes to a plain function of the vertices. -/
namespace Go.Proofs.YtcoccegmkcdeiaaDoor
open Go.RowKit
set_option linter.unusedVariables false

set_option maxHeartbeats 1600000 in
/-- The world stays as it was, but for what is drawn. -/
theorem up_quiet (A : Option Addr) (n c : Nat) (vs : List (Int × Int)) (v level : Int) (w : World) (B : Nat)
    (hn : Hid (vs.length = n)) (hl : n ≤ 9223372036854775807) (hv : VRow w B A vs) :
    Calls Tryd.prog 71 #[.slice A n c, .int .i64 v, .int .i64 level] w fun e w' => e = .returned (.int .i64 (Tp.up vs level n v)) ∧ ∃ q, w' = w.drewN q := by
  go_enter Tryd.func71, Tryd.ntmps71
  go_wp2
  go_loopw [1, 7] (fun u i wr => ∃ (b : Nat) (v' : Int), b ≤ n ∧ i = .int .i64 b ∧ u = .int .i64 v' ∧ Hid (Tp.up vs level n v = Tp.up vs level b v') ∧ Hid (∃ q, wr = w.drewN q))
    (fun _ i _ => (intOf i).toNat)
  case atStart => exact ⟨n, v, Nat.le_refl _, rfl, rfl, Lib.hid rfl, Lib.hid ⟨0, rfl⟩⟩
  case round =>
    obtain ⟨k, v', hk, rfl, rfl, hup, hbe⟩ := hrel
    have hvr : VRow wr B A vs := by
      obtain ⟨q, e⟩ := hbe.out
      rw [e]; exact hv
    by_cases hin : 0 ≤ v' ∧ v' < k
    · obtain ⟨h0, h1⟩ := hin
      obtain ⟨j, rfl⟩ := Int.eq_ofNat_of_zero_le h0
      obtain ⟨x, hx⟩ : ∃ x, vs[j]? = some x := ⟨_, List.getElem?_eq_getElem (by have := hn.out; omega)⟩
      obtain ⟨b, off, hA, hbk, hc1, hc2⟩ := hvr j x hx
      subst hA
      cases hp : (x.2 == level)
      · have H : Hid (Tp.up vs level n v = Tp.up vs level j x.1) := Lib.hid (by rw [hup.out, Tp.up_step (by omega) hx (by simpa using hp)])
        clear hx
        go_wp2
        go_quiet (fail)
        go_wp2
        go_roundw
        case rel =>
          refine ⟨j, x.1, by omega, rfl, rfl, H, ?_⟩
          obtain ⟨q, e⟩ := hbe.out
          exact Lib.hid ⟨_, by rw [e, World.drewN_drewN]⟩
        case measure => simp [intOf]; omega
      · have H : Hid (Tp.up vs level n v = j) := Lib.hid (by rw [hup.out, Tp.up_hit (by omega) hx (by simpa using hp)])
        clear hx
        go_wp2
        go_ret
        exact ⟨by rw [H.out]; rfl, hbe.out⟩
    · have H : Hid (Tp.up vs level n v = -1) := Lib.hid (by rw [hup.out, Tp.up_out hin])
      by_cases h0 : 0 ≤ v'
      · have h1 : ¬ v' < k := fun h => hin ⟨h0, h⟩
        clear hin
        go_wp2
        go_ret
        exact ⟨by rw [H.out]; rfl, hbe.out⟩
      · clear hin
        go_wp2
        go_ret
        exact ⟨by rw [H.out]; rfl, hbe.out⟩
theorem up_any (A : Option Addr) (n c : Nat) (vs : List (Int × Int)) (v level : Int) (w : World)
    (hn : Hid (vs.length = n)) (hl : n ≤ 9223372036854775807) (hv : VRow w w.heap.size A vs) :
    Calls Tryd.prog 71 #[.slice A n c, .int .i64 v, .int .i64 level] w fun e w' => e = .returned (.int .i64 (Tp.up vs level n v)) ∧ Below w.heap.size w w' :=
  (up_quiet A n c vs v level w _ hn hl hv).mono fun _ _ ⟨he, q, hq⟩ => ⟨he, by rw [hq]; exact below_drewN (Below.refl _ _) q⟩

end Go.Proofs.YtcoccegmkcdeiaaDoor

