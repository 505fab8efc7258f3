/- Layer 3 in plain mathematics: the shape of a tree; its text; the tree that is parsed of that, numbered in the turn of the letters. -/
import Derived.Test.YtdhcnmcfgicbjaaTPlain
namespace Go.Proofs.Ytdhcnmcfgicbjaa.Tx
open Tp

/-- The shape of a vertex of level 3 - d: those of the vertices below it, in turn. -/
def Sh : Nat → Type
  | 0 => Unit
  | d + 1 => List (Sh d)
def tS : (d : Nat) → Sh d → List UInt8
  | 0, _ => [112]
  | d + 1, s => lt (2 - d) :: 40 :: (List.flatMap (tS d) s ++ [41])
def bSs {α : Type} (F : α → Nat → Int → List (Int × Int)) : List α → Nat → Int → List (Int × Int)
  | [], _, _ => []
  | k :: ks, b, p => F k b p ++ bSs F ks (b + (F k b p).length) p
/-- The vertices, numbered from b on, below p. -/
def bS : (d : Nat) → Sh d → Nat → Int → List (Int × Int)
  | 0, _, _, p => [(p, 3)]
  | d + 1, s, b, p => (p, ((2 - d : Nat) : Int)) :: bSs (bS d) s (b + 1) b
/-- How many lie below each one that is no processor: as few, and as many, as may be. -/
def wf : (d : Nat) → Sh d → Prop
  | 0, _ => True
  | d + 1, s => s ≠ [] ∧ List.length s ≤ 8 ∧ ∀ k, k ∈ (show List (Sh d) from s) → wf d k
def ne : (d : Nat) → Sh d → Prop
  | 0, _ => True
  | d + 1, s => s ≠ [] ∧ ∀ k, k ∈ (show List (Sh d) from s) → ne d k
theorem bS_succ (d : Nat) (s : List (Sh d)) (b : Nat) (p : Int) : bS (d + 1) s b p = (p, ((2 - d : Nat) : Int)) :: bSs (bS d) s (b + 1) b := rfl
theorem tS_succ (d : Nat) (s : List (Sh d)) : tS (d + 1) s = lt (2 - d) :: 40 :: (s.flatMap (tS d) ++ [41]) := rfl
theorem wf_ne : ∀ (d : Nat) (s : Sh d), wf d s → ne d s := by
  intro d
  induction d with
  | zero => intro s _; trivial
  | succ d ih => intro s h; exact ⟨h.1, fun k hk => ih k (h.2.2 k hk)⟩
theorem bSs_snoc {α : Type} (F : α → Nat → Int → List (Int × Int)) (k : α) : ∀ (ks : List α) (b : Nat) (p : Int), bSs F (ks ++ [k]) b p = bSs F ks b p ++ F k (b + (bSs F ks b p).length) p := by
  intro ks
  induction ks with
  | nil => intro b p; simp [bSs]
  | cons a as ih => intro b p; rw [List.cons_append, bSs, ih, bSs, List.length_append, List.append_assoc, Nat.add_assoc]

/-- What is read as a vertex is the text of a shape, and the vertices are that shape's. -/
theorem vx_shape : ∀ (d : Nat), d ≤ 3 → ∀ (p : Int) (t : List (Int × Int)) (l : List UInt8), (vx d p t l).is = true →
    ∃ s : Sh d, ne d s ∧ l = tS d s ++ (vx d p t l).l ∧ (vx d p t l).t = t ++ bS d s t.length p := by
  intro d
  induction d with
  | zero =>
    intro _ p t l h
    rw [vx] at h ⊢
    split at h
    · rename_i hl
      rw [if_pos hl]
      exact ⟨(), trivial, head_cons hl, rfl⟩
    · cases h
  | succ d ih =>
    intro hd p t l h
    rw [vx] at h ⊢
    split at h
    · rename_i hl
      rw [if_pos hl]
      split at h
      · rename_i h2
        rw [if_pos h2]
        have K : ∀ (f : Nat) (g : Got) (t0 : List (Int × Int)) (l0 : List UInt8),
            (g.is = true → ∃ ks : List (Sh d), ks ≠ [] ∧ (∀ k ∈ ks, ne d k) ∧ l0 = ks.flatMap (tS d) ++ g.l ∧ g.t = t0 ++ bSs (bS d) ks t0.length t.length) →
            (more (vx d t.length) (lt (3 - d)) f g).is = true → ∃ ks : List (Sh d), ks ≠ [] ∧ (∀ k ∈ ks, ne d k) ∧ l0 = ks.flatMap (tS d) ++ (more (vx d t.length) (lt (3 - d)) f g).l ∧ (more (vx d t.length) (lt (3 - d)) f g).t = t0 ++ bSs (bS d) ks t0.length t.length := by
          intro f
          induction f with
          | zero => intro g t0 l0 hg; exact hg
          | succ f ihf =>
            intro g t0 l0 hg
            rw [more]
            split
            · rename_i hh
              refine ihf _ t0 l0 (fun hi => ?_)
              obtain ⟨ks, a1, a2, a3, a4⟩ := hg hh.1
              obtain ⟨s, b1, b2, b3⟩ := ih (by omega) _ _ _ hi
              refine ⟨ks ++ [s], by simp, ?_, ?_, ?_⟩
              · intro k hk
                rcases List.mem_append.1 hk with hk | hk
                · exact a2 k hk
                · rw [List.mem_singleton.1 hk]; exact b1
              · rw [List.flatMap_append, List.append_assoc]
                conv => lhs; rw [a3, b2]
                simp
              · rw [b3, a4, bSs_snoc, List.length_append, List.append_assoc]
            · exact hg
        unfold shut at h ⊢
        split at h
        · rename_i hi
          rw [if_pos hi]
          split at h
          · rename_i h41
            rw [if_pos h41]
            obtain ⟨ks, a1, a2, a3, a4⟩ := K l.length (vx d t.length (t ++ [(p, ((2 - d : Nat) : Int))]) l.tail.tail) (t ++ [(p, ((2 - d : Nat) : Int))]) l.tail.tail (fun hi0 => by
              obtain ⟨s, b1, b2, b3⟩ := ih (by omega) _ _ _ hi0
              refine ⟨[s], by simp, fun k hk => by rw [List.mem_singleton.1 hk]; exact b1, by simpa using b2, ?_⟩
              rw [b3]; simp [bSs]) hi
            refine ⟨ks, ⟨a1, a2⟩, ?_, ?_⟩
            · conv => lhs; rw [head_cons hl, head_cons h2, a3, head_cons h41]
              simp [tS]
            · simp only
              rw [a4, bS_succ d ks, List.append_assoc, List.length_append]
              simp
          · cases h
        · rename_i hi
          exact absurd h hi
      · cases h
    · cases h
/-- A text that goes on with that of a shape goes on behind it. -/
theorem run_shape : ∀ (d : Nat), d ≤ 3 → ∀ (s : Sh d) (σ : St) (r : List UInt8), ne d s → σ.lv = 3 - d → (Opn σ ∨ (Whl σ ∧ 0 < σ.lv)) →
    ∃ σ', run σ (tS d s ++ r) = run σ' r ∧ σ'.vs = σ.vs ++ bS d s σ.vs.length (σ.ab σ.lv) ∧ σ'.lv = σ.lv ∧ Whl σ' ∧ ∀ j, j ≤ σ.lv → σ'.ab j = σ.ab j := by
  intro d
  induction d with
  | zero =>
    intro _ s σ r _ hlv ho
    have hgo : goes σ.q 112 σ.lv = true := by
      rcases ho with ho | ⟨ho, h0⟩
      · rw [goes_opn ho, hlv]; rfl
      · rw [goes_whl ho, hlv]; rfl
    refine ⟨adv σ (lt 3), ?_, ?_, ?_, ?_, ?_⟩
    · exact run_yes hgo
    · rw [adv_letter, hlv]; rfl
    · rw [adv_letter]
    · rw [adv_letter]; exact .inl rfl
    · intro j _; rw [adv_letter]
  | succ d ih =>
    intro hd s σ r hne hlv ho
    have hlv' : σ.lv = 2 - d := by omega
    have hgo : goes σ.q (lt (2 - d)) σ.lv = true := by
      rcases ho with ho | ⟨ho, h0⟩
      · rw [goes_opn ho, hlv']; simp
      · rw [goes_whl ho, decide_eq_true h0, hlv']; simp
    have K : ∀ (ks : List (Sh d)), (∀ k ∈ ks, ne d k) → ∀ (σ1 : St) (r : List UInt8), σ1.lv = 3 - d → (Opn σ1 ∨ Whl σ1) → (ks ≠ [] ∨ Whl σ1) →
        ∃ σ', run σ1 (ks.flatMap (tS d) ++ r) = run σ' r ∧ σ'.vs = σ1.vs ++ bSs (bS d) ks σ1.vs.length (σ1.ab (3 - d)) ∧ σ'.lv = σ1.lv ∧ Whl σ' ∧ ∀ j, j ≤ 3 - d → σ'.ab j = σ1.ab j := by
      intro ks
      induction ks with
      | nil =>
        intro _ σ1 r _ _ hw
        refine ⟨σ1, rfl, by simp [bSs], rfl, ?_, fun _ _ => rfl⟩
        rcases hw with hw | hw
        · exact absurd rfl hw
        · exact hw
      | cons k ks ihk =>
        intro hk σ1 r h1 ho1 _
        obtain ⟨σ2, a1, a2, a3, a4, a5⟩ := ih (by omega) k σ1 (ks.flatMap (tS d) ++ r) (hk k List.mem_cons_self) h1 (by rcases ho1 with h | h; exact .inl h; exact .inr ⟨h, by omega⟩)
        obtain ⟨σ3, b1, b2, b3, b4, b5⟩ := ihk (fun k hk' => hk k (List.mem_cons_of_mem _ hk')) σ2 r (by rw [a3, h1]) (.inr a4) (.inr a4)
        refine ⟨σ3, ?_, ?_, by rw [b3, a3], b4, fun j hj => by rw [b5 j hj, a5 j (by omega)]⟩
        · rw [List.flatMap_cons, List.append_assoc, a1, b1]
        · rw [b2, a2, bSs, a5 _ (by omega), h1, List.append_assoc, List.length_append]
    obtain ⟨σ3, b1, b2, b3, b4, b5⟩ := K s hne.2 ⟨σ.vs ++ [(σ.ab σ.lv, (σ.lv : Int))], fun j => if j = σ.lv + 1 then (σ.vs.length : Int) else σ.ab j, σ.lv + 1, 40⟩ ([41] ++ r) (by simp only; omega) (.inl (.inr rfl)) (.inl hne.1)
    refine ⟨adv σ3 41, ?_, ?_, ?_, .inr rfl, ?_⟩
    · rw [tS, List.cons_append, run_yes hgo, adv_letter, List.cons_append, run_yes (by rw [goes_letter _ _ _ (by omega)]; rfl), adv_open, List.append_assoc]
      have e : (fun j => if j = σ.lv + 1 then (((σ.vs ++ [(σ.ab σ.lv, (σ.lv : Int))]).length : Nat) : Int) - 1 else σ.ab j) = fun j => if j = σ.lv + 1 then (σ.vs.length : Int) else σ.ab j := by
        funext j
        split
        · simp
        · rfl
      simp only
      rw [e, b1]
      exact run_yes (by rw [goes_whl b4, b3]; simp)
    · rw [adv_shut]
      simp only
      rw [b2, bS]
      simp only
      rw [if_pos (by omega), hlv', List.append_assoc, List.length_append]
      rfl
    · rw [adv_shut]; simp only; rw [b3]; simp
    · intro j hj
      rw [adv_shut]
      simp only
      rw [b5 j (by omega)]
      simp only
      rw [if_neg (by omega)]

/-- The shape of a tree's vertex. -/
def kidsL (vs : List (Int × Int)) (v : Int) : List Int := those (fun x => x.1 == v) vs
def shp (vs : List (Int × Int)) : (d : Nat) → Int → Sh d
  | 0, _ => ()
  | d + 1, v => (kidsL vs v).map (shp vs d)
/-- A tree's text. -/
def tx (vs : List (Int × Int)) (d : Nat) (v : Int) : List UInt8 := tS d (shp vs d v)
/-- The tree, numbered in the turn of the letters. -/
def sm (vs : List (Int × Int)) : List (Int × Int) := bS 3 (shp vs 3 0) 0 (-1)
theorem tx_zero (vs : List (Int × Int)) (v : Int) : tx vs 0 v = [112] := rfl
theorem tx_succ (vs : List (Int × Int)) (d : Nat) (v : Int) : tx vs (d + 1) v = lt (2 - d) :: 40 :: ((kidsL vs v).flatMap (tx vs d) ++ [41]) := by
  unfold tx
  refine Eq.trans (tS_succ d ((kidsL vs v).map (shp vs d))) ?_
  rw [List.flatMap_map]
theorem whole_run (s : Sh 3) (h : ne 3 s) (r : List UInt8) : ∃ σ', run st0 (tS 3 s ++ r) = run σ' r ∧ σ'.vs = bS 3 s 0 (-1) ∧ σ'.lv = 0 ∧ Whl σ' := by
  obtain ⟨σ', a1, a2, a3, a4, _⟩ := run_shape 3 (Nat.le_refl _) s st0 r h rfl (.inl (.inl rfl))
  exact ⟨σ', a1, a2, a3, a4⟩
theorem parse_shape (s : Sh 3) (h : ne 3 s) (hm : may (bS 3 s 0 (-1)) = true) : parse (tS 3 s) = (bS 3 s 0 (-1), 0, 0) := by
  obtain ⟨σ', a1, a2, a3, a4⟩ := whole_run s h []
  rw [List.append_nil] at a1
  have e : run σ' [] = (σ', []) := rfl
  unfold parse
  rw [a1, e, if_pos ⟨rfl, a3, by rw [← hm, ← a2]⟩]
  simp only
  rw [a2]
/-- What is parsed is a shape's text, and the shape's tree. -/
theorem parse_ok {l : List UInt8} (h : (parse l).2.2 = 0) : ∃ s : Sh 3, ne 3 s ∧ l = tS 3 s ∧ may (bS 3 s 0 (-1)) = true ∧ parse l = (bS 3 s 0 (-1), 0, 0) := by
  rw [← parse_same] at h ⊢
  unfold parseV at h ⊢
  split at h
  · rename_i hc
    obtain ⟨h1, h2, h3⟩ := hc
    rw [if_pos ⟨h1, h2, h3⟩]
    obtain ⟨s, a1, a2, a3⟩ := vx_shape 3 (Nat.le_refl _) (-1) [] l h1
    rw [h2, List.append_nil] at a2
    rw [List.nil_append] at a3
    exact ⟨s, a1, a2, by rw [← h3, a3]; rfl, by rw [a3]; rfl⟩
  · cases h
end Go.Proofs.Ytdhcnmcfgicbjaa.Tx

