/- Layer 3 in plain mathematics: the tree that is numbered in the turn of the letters has the shape that it was made of, and may be, if that has as many below each one as may be. -/
import Derived.Test.YtdhcnmcfgicbjaaTShape
namespace Go.Proofs.Ytdhcnmcfgicbjaa.Tx
open Tp

theorem thoseF_append (p : Int × Int → Bool) : ∀ (xs ys : List (Int × Int)) (k : Nat), thoseF p k (xs ++ ys) = thoseF p k xs ++ thoseF p (k + xs.length) ys := by
  intro xs
  induction xs with
  | nil => intro ys k; rfl
  | cons x xs ih =>
    intro ys k
    rw [List.cons_append, thoseF, thoseF, ih, List.length_cons, show k + 1 + xs.length = k + (xs.length + 1) from by omega]
    split <;> rfl
theorem thoseF_none {p : Int × Int → Bool} : ∀ (xs : List (Int × Int)) (k : Nat), (∀ x ∈ xs, p x = false) → thoseF p k xs = [] := by
  intro xs
  induction xs with
  | nil => intro k _; rfl
  | cons x xs ih =>
    intro k h
    rw [thoseF, h x List.mem_cons_self, if_neg Bool.false_ne_true]
    exact ih _ (fun y hy => h y (List.mem_cons_of_mem _ hy))
/-- The first of a block hangs below p; the others within the block. -/
theorem bS_split : ∀ (d : Nat), d ≤ 3 → ∀ (s : Sh d) (b : Nat) (p : Int), ∃ tl, bS d s b p = (p, ((3 - d : Nat) : Int)) :: tl ∧ ∀ x ∈ tl, (b : Int) ≤ x.1 ∧ x.1 < ((b + (bS d s b p).length : Nat) : Int) := by
  intro d
  induction d with
  | zero => intro _ s b p; exact ⟨[], rfl, fun x hx => by cases hx⟩
  | succ d ih =>
    intro hd s b p
    refine ⟨bSs (bS d) s (b + 1) b, by rw [bS_succ d s, show 2 - d = 3 - (d + 1) by omega], ?_⟩
    have K : ∀ (ks : List (Sh d)) (b' : Nat), b < b' → ∀ x ∈ bSs (bS d) ks b' (b : Int), (b : Int) ≤ x.1 ∧ x.1 < ((b' + (bSs (bS d) ks b' (b : Int)).length : Nat) : Int) := by
      intro ks
      induction ks with
      | nil => intro b' _ x hx; cases hx
      | cons k ks ihk =>
        intro b' hb x hx
        rw [bSs, List.length_append]
        rcases List.mem_append.1 (show x ∈ bS d k b' (b : Int) ++ bSs (bS d) ks (b' + (bS d k b' (b : Int)).length) (b : Int) from hx) with hx | hx
        · obtain ⟨tl, e, ht⟩ := ih (by omega) k b' (b : Int)
          rw [e] at hx
          rcases List.mem_cons.1 hx with rfl | hx
          · simp only; omega
          · have := ht x hx
            omega
        · have := ihk _ (by omega) x hx
          omega
    intro x hx
    have := K s (b + 1) (by omega) x hx
    rw [bS_succ d s, List.length_cons]
    omega
theorem bS_pos {d : Nat} (hd : d ≤ 3) (s : Sh d) (b : Nat) (p : Int) : 0 < (bS d s b p).length := by
  obtain ⟨tl, e, _⟩ := bS_split d hd s b p
  rw [e]; simp
/-- Where the blocks of those below one begin. -/
def starts {α : Type} (F : α → Nat → Int → List (Int × Int)) : List α → Nat → Int → List Int
  | [], _, _ => []
  | k :: ks, b, p => (b : Int) :: starts F ks (b + (F k b p).length) p
theorem starts_len {α : Type} (F : α → Nat → Int → List (Int × Int)) : ∀ (ks : List α) (b : Nat) (p : Int), (starts F ks b p).length = ks.length := by
  intro ks
  induction ks with
  | nil => intro b p; rfl
  | cons k ks ih => intro b p; rw [starts, List.length_cons, ih, List.length_cons]
theorem those_starts {d : Nat} (hd : d ≤ 3) (own : Nat) : ∀ (ks : List (Sh d)) (b : Nat), own < b → thoseF (fun x => x.1 == (own : Int)) b (bSs (bS d) ks b (own : Int)) = starts (bS d) ks b own := by
  intro ks
  induction ks with
  | nil => intro b _; rfl
  | cons k ks ih =>
    intro b hb
    obtain ⟨tl, e, ht⟩ := bS_split d hd k b (own : Int)
    rw [bSs, thoseF_append, ih _ (by omega), starts]
    congr 1
    rw [e, thoseF, if_pos (by simp), thoseF_none tl (b + 1) (fun x hx => ?_)]
    · rfl
    · have := ht x hx
      rw [beq_eq_false_iff_ne]
      omega
theorem bSs_range {d : Nat} (hd : d ≤ 3) (own : Int) : ∀ (ks : List (Sh d)) (b : Nat), ∀ x ∈ bSs (bS d) ks b own, x.1 = own ∨ ((b : Int) ≤ x.1 ∧ x.1 < ((b + (bSs (bS d) ks b own).length : Nat) : Int)) := by
  intro ks
  induction ks with
  | nil => intro b x hx; cases hx
  | cons k ks ih =>
    intro b x hx
    rw [bSs, List.length_append]
    rcases List.mem_append.1 (show x ∈ bS d k b own ++ bSs (bS d) ks (b + (bS d k b own).length) own from hx) with hx | hx
    · obtain ⟨tl, e, ht⟩ := bS_split d hd k b own
      rw [e] at hx
      rcases List.mem_cons.1 hx with rfl | hx
      · exact .inl rfl
      · have := ht x hx
        exact .inr (by omega)
    · rcases ih _ x hx with h | h
      · exact .inl h
      · exact .inr (by omega)
/-- A block within a list: its shape, and that each of its vertices may be there. -/
def Placed (d : Nat) (s : Sh d) (T : List (Int × Int)) (b : Nat) (n : Nat) : Prop :=
  shp T d b = s ∧ (wf d s → ∀ j, j < n → filled T (b + j) = true ∧ (0 < j → hangs T (b + j) = true))
theorem wf_succ {d : Nat} {s : List (Sh d)} (h : wf (d + 1) s) : s ≠ [] ∧ s.length ≤ 8 ∧ ∀ k ∈ s, wf d k := h
theorem at_mid {pre mid post : List (Int × Int)} {x : Int × Int} (h : mid[0]? = some x) : (pre ++ (mid ++ post))[pre.length]? = some x := by
  rw [List.getElem?_append_right (Nat.le_refl _), Nat.sub_self, List.getElem?_append_left (List.getElem?_eq_some_iff.1 h).1]
  exact h
theorem placed : ∀ (d : Nat), d ≤ 3 → ∀ (s : Sh d) (pre post : List (Int × Int)) (p : Int), (∀ x ∈ pre, x.1 < pre.length) → p < pre.length →
    (∀ x ∈ post, x.1 < pre.length ∨ ((pre.length + (bS d s pre.length p).length : Nat) : Int) ≤ x.1) →
    Placed d s (pre ++ (bS d s pre.length p ++ post)) pre.length (bS d s pre.length p).length := by
  intro d
  induction d with
  | zero =>
    intro _ s pre post p hpre hp hpost
    refine ⟨rfl, fun _ j hj => ?_⟩
    have hj0 : j = 0 := by
      have : (bS 0 s pre.length p).length = 1 := rfl
      omega
    subst hj0
    refine ⟨?_, fun h => by omega⟩
    unfold filled
    rw [Nat.add_zero, at_mid (x := (p, 3)) rfl]
    rfl
  | succ d ih =>
    intro hd s pre post p hpre hp hpost
    have K : ∀ (ks : List (Sh d)) (pre1 post1 : List (Int × Int)) (own : Nat) (po : Int), (∀ x ∈ pre1, x.1 < pre1.length) → own < pre1.length → pre1[own]? = some (po, ((2 - d : Nat) : Int)) →
        (∀ x ∈ post1, x.1 < pre1.length ∨ ((pre1.length + (bSs (bS d) ks pre1.length (own : Int)).length : Nat) : Int) ≤ x.1) →
        (starts (bS d) ks pre1.length (own : Int)).map (shp (pre1 ++ (bSs (bS d) ks pre1.length (own : Int) ++ post1)) d) = ks
        ∧ ((∀ k ∈ ks, wf d k) → ∀ j, j < (bSs (bS d) ks pre1.length (own : Int)).length → filled (pre1 ++ (bSs (bS d) ks pre1.length (own : Int) ++ post1)) (pre1.length + j) = true ∧ hangs (pre1 ++ (bSs (bS d) ks pre1.length (own : Int) ++ post1)) (pre1.length + j) = true) := by
      intro ks
      induction ks with
      | nil => intro pre1 post1 own po _ _ _ _; exact ⟨rfl, fun _ j hj => absurd hj (by simp [bSs])⟩
      | cons k ks ihk =>
        intro pre1 post1 own po h1 h2 h3 h4
        obtain ⟨tl, e, ht⟩ := bS_split d (by omega) k pre1.length (own : Int)
        have hpos := bS_pos (d := d) (by omega) k pre1.length (own : Int)
        have hr := bSs_range (d := d) (by omega) (own : Int) ks (pre1.length + (bS d k pre1.length (own : Int)).length)
        have hL : (bSs (bS d) (k :: ks) pre1.length (own : Int)).length = (bS d k pre1.length (own : Int)).length + (bSs (bS d) ks (pre1.length + (bS d k pre1.length (own : Int)).length) (own : Int)).length := by rw [bSs, List.length_append]
        have h4' : ∀ x ∈ post1, x.1 < pre1.length ∨ ((pre1.length + (bS d k pre1.length (own : Int)).length + (bSs (bS d) ks (pre1.length + (bS d k pre1.length (own : Int)).length) (own : Int)).length : Nat) : Int) ≤ x.1 := fun x hx => by
          have := h4 x hx
          rw [hL] at this
          omega
        have hlen : (pre1 ++ bS d k pre1.length (own : Int)).length = pre1.length + (bS d k pre1.length (own : Int)).length := List.length_append
        have A := ih (by omega) k pre1 (bSs (bS d) ks (pre1.length + (bS d k pre1.length (own : Int)).length) (own : Int) ++ post1) (own : Int) h1 (by omega) (fun x hx => by
          rcases List.mem_append.1 hx with hx | hx
          · rcases hr x hx with h | h
            · exact .inl (by omega)
            · exact .inr h.1
          · rcases h4' x hx with h | h
            · exact .inl h
            · exact .inr (by omega))
        have B := ihk (pre1 ++ bS d k pre1.length (own : Int)) post1 own po (fun x hx => by
            rw [hlen]
            rcases List.mem_append.1 hx with hx | hx
            · have := h1 x hx; omega
            · rw [e] at hx
              rcases List.mem_cons.1 hx with rfl | hx
              · simp only; omega
              · have := ht x hx; omega)
          (by rw [hlen]; omega) (by rw [List.getElem?_append_left h2]; exact h3) (fun x hx => by
            rw [hlen]
            rcases h4' x hx with h | h
            · exact .inl (by omega)
            · exact .inr h)
        rw [hlen] at B
        have eT : pre1 ++ bS d k pre1.length (own : Int) ++ (bSs (bS d) ks (pre1.length + (bS d k pre1.length (own : Int)).length) (own : Int) ++ post1) = pre1 ++ (bSs (bS d) (k :: ks) pre1.length (own : Int) ++ post1) := by
          rw [bSs]; simp only [List.append_assoc]
        have eT2 : pre1 ++ (bS d k pre1.length (own : Int) ++ (bSs (bS d) ks (pre1.length + (bS d k pre1.length (own : Int)).length) (own : Int) ++ post1)) = pre1 ++ (bSs (bS d) (k :: ks) pre1.length (own : Int) ++ post1) := by
          rw [bSs]; simp only [List.append_assoc]
        rw [eT] at B
        rw [eT2] at A
        obtain ⟨B1, B2⟩ := B
        obtain ⟨A1, A2⟩ := A
        refine ⟨?_, fun hw j hj => ?_⟩
        · rw [starts, List.map_cons, A1, B1]
        · rw [hL] at hj
          by_cases hjk : j < (bS d k pre1.length (own : Int)).length
          · obtain ⟨a1, a2⟩ := A2 (hw k List.mem_cons_self) j hjk
            refine ⟨a1, ?_⟩
            by_cases hj0 : 0 < j
            · exact a2 hj0
            · have hj0 : j = 0 := by omega
              subst hj0
              have hx : (pre1 ++ (bSs (bS d) (k :: ks) pre1.length (own : Int) ++ post1))[pre1.length]? = some ((own : Int), ((3 - d : Nat) : Int)) := at_mid (by rw [bSs, e]; rfl)
              have ho : (pre1 ++ (bSs (bS d) (k :: ks) pre1.length (own : Int) ++ post1))[own]? = some (po, ((2 - d : Nat) : Int)) := by rw [List.getElem?_append_left h2]; exact h3
              unfold hangs hangsX
              rw [Nat.add_zero, hx, if_neg (by omega)]
              simp only [Option.getD_some]
              rw [if_neg (by omega), Int.toNat_natCast, ho, decide_eq_true (by omega)]
              simp only [Option.getD_some, Bool.true_and, beq_iff_eq]
              unfold dec
              split <;> omega
          · obtain ⟨b1, b2⟩ := B2 (fun k' hk' => hw k' (List.mem_cons_of_mem _ hk')) (j - (bS d k pre1.length (own : Int)).length) (by omega)
            rw [show pre1.length + (bS d k pre1.length (own : Int)).length + (j - (bS d k pre1.length (own : Int)).length) = pre1.length + j by omega] at b1 b2
            exact ⟨b1, b2⟩
    have hlen : (pre ++ [(p, ((2 - d : Nat) : Int))]).length = pre.length + 1 := by simp
    have hL : (bS (d + 1) s pre.length p).length = 1 + (bSs (bS d) s (pre.length + 1) (pre.length : Int)).length := by rw [bS_succ d s, List.length_cons, Nat.add_comm]
    have eT : pre ++ [(p, ((2 - d : Nat) : Int))] ++ (bSs (bS d) s (pre.length + 1) (pre.length : Int) ++ post) = pre ++ (bS (d + 1) s pre.length p ++ post) := by
      rw [bS_succ d s]; simp
    obtain ⟨K1, K2⟩ := K s (pre ++ [(p, ((2 - d : Nat) : Int))]) post pre.length p (fun x hx => by
        rw [hlen]
        rcases List.mem_append.1 hx with hx | hx
        · have := hpre x hx; omega
        · rw [List.mem_singleton.1 hx]; simp only; omega)
      (by rw [hlen]; omega) (by rw [List.getElem?_append_right (Nat.le_refl _), Nat.sub_self]; rfl) (fun x hx => by
        rw [hlen]
        rcases hpost x hx with h | h
        · exact .inl (by omega)
        · rw [hL] at h; exact .inr (by omega))
    rw [hlen, eT] at K1 K2
    have hkids : kidsL (pre ++ (bS (d + 1) s pre.length p ++ post)) (pre.length : Int) = starts (bS d) s (pre.length + 1) (pre.length : Int) := by
      unfold kidsL those
      rw [thoseF_append, thoseF_append, thoseF_none pre 0 (fun x hx => by have := hpre x hx; rw [beq_eq_false_iff_ne]; omega), bS_succ d s, thoseF, if_neg (by rw [beq_iff_eq]; omega), Nat.zero_add,
        those_starts (d := d) (by omega) pre.length s (pre.length + 1) (by omega), thoseF_none post _ (fun x hx => by have := hpost x hx; rw [hL] at this; rw [beq_eq_false_iff_ne]; omega)]
      simp
    refine ⟨?_, fun hw j hj => ?_⟩
    · refine Eq.trans ?_ K1
      show (kidsL _ _).map _ = _
      rw [hkids]
    · obtain ⟨w1, w2, w3⟩ := wf_succ hw
      by_cases hj0 : j = 0
      · subst hj0
        refine ⟨?_, fun h => by omega⟩
        have hx : (pre ++ (bS (d + 1) s pre.length p ++ post))[pre.length]? = some (p, ((2 - d : Nat) : Int)) := at_mid (by rw [bS_succ d s]; rfl)
        have hn : kidsN (pre ++ (bS (d + 1) s pre.length p ++ post)) pre.length = List.length s := by
          have : kidsN (pre ++ (bS (d + 1) s pre.length p ++ post)) pre.length = (kidsL (pre ++ (bS (d + 1) s pre.length p ++ post)) (pre.length : Int)).length := rfl
          rw [this, hkids]; exact starts_len (α := Sh d) _ s _ _
        have : 0 < List.length s := List.length_pos_iff.2 w1
        unfold filled
        rw [show pre.length + 0 = pre.length from rfl, hx, hn]
        simp only [Option.getD_some]
        rw [if_neg (by omega), decide_eq_true (by omega), decide_eq_true (by omega)]
        rfl
      · obtain ⟨k1, k2⟩ := K2 w3 (j - 1) (by omega)
        rw [show pre.length + 1 + (j - 1) = pre.length + j by omega] at k1 k2
        exact ⟨k1, fun _ => k2⟩
theorem placed_whole (s : Sh 3) : Placed 3 s (bS 3 s 0 (-1)) 0 (bS 3 s 0 (-1)).length := by
  have := placed 3 (Nat.le_refl _) s [] [] (-1) (fun x hx => by cases hx) (by simp) (fun x hx => by cases hx)
  simpa using this
/-- The shape of the tree that was made of a shape is that shape; its text is that shape's. -/
theorem shp_whole (s : Sh 3) : shp (bS 3 s 0 (-1)) 3 0 = s := (placed_whole s).1
theorem tx_whole (s : Sh 3) : tx (bS 3 s 0 (-1)) 3 0 = tS 3 s := by unfold tx; rw [shp_whole]
theorem sm_whole (s : Sh 3) : sm (bS 3 s 0 (-1)) = bS 3 s 0 (-1) := by unfold sm; rw [shp_whole]
theorem first_whole (s : Sh 3) : (bS 3 s 0 (-1))[0]? = some (-1, 0) := by
  obtain ⟨tl, e, _⟩ := bS_split 3 (Nat.le_refl _) s 0 (-1)
  rw [e]; rfl
theorem tree_whole (s : Sh 3) (hw : wf 3 s) (h64 : (bS 3 s 0 (-1)).length ≤ 64) (h32 : (those (fun x => x.2 == 3) (bS 3 s 0 (-1))).length ≤ 32) : Tree (bS 3 s 0 (-1)) := by
  have h := (placed_whole s).2 hw
  refine ⟨bS_pos (Nat.le_refl _) s 0 (-1), h64, h32, fun k hk => ?_, fun k hk => by have := (h k hk).1; rwa [Nat.zero_add] at this⟩
  by_cases h0 : k = 0
  · subst h0
    unfold hangs hangsX
    rw [first_whole]; rfl
  · have := (h k hk).2 (by omega)
    rwa [Nat.zero_add] at this
/-- The shape of a tree that may be: as many below each one as may be. -/
theorem wf_shp {vs : List (Int × Int)} (h : Tree vs) : ∀ (d : Nat), d ≤ 3 → ∀ (k : Nat) (x : Int × Int), vs[k]? = some x → x.2 = ((3 - d : Nat) : Int) → wf d (shp vs d k) := by
  intro d
  induction d with
  | zero => intro _ k x _ _; trivial
  | succ d ih =>
    intro hd k x hx hl
    obtain ⟨k8, k0⟩ := h.kids hx
    have hk : kidsN vs k = (kidsL vs k).length := rfl
    have e : shp vs (d + 1) k = (kidsL vs k).map (shp vs d) := rfl
    rw [e]
    refine ⟨?_, ?_, ?_⟩
    · intro h0
      have h0' : (kidsL vs k).map (shp vs d) = [] := h0
      have : (kidsL vs k).length = 0 := by rw [List.map_eq_nil_iff.1 h0']; rfl
      rw [← hk] at this
      have := k0.1 this
      omega
    · refine Nat.le_trans (Nat.le_of_eq (show ((kidsL vs k).map (shp vs d)).length = kidsN vs k by rw [List.length_map, hk])) k8
    · intro s hs
      obtain ⟨z, hz, rfl⟩ := List.mem_map.1 (show s ∈ (kidsL vs k).map (shp vs d) from hs)
      obtain ⟨j, y, rfl, hy, hp⟩ := mem_those.1 hz
      obtain ⟨_, u, hu, hl2⟩ := h.kid hy (by simpa using hp)
      rw [hx] at hu
      injection hu with hu
      subst hu
      exact ih (by omega) j y hy (by omega)
end Go.Proofs.Ytdhcnmcfgicbjaa.Tx

