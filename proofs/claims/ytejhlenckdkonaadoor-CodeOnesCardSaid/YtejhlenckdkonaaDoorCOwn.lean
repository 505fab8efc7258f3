/- Programs of the call's own: a list of slices, each a program in a block of its own; one instruction turned. -/
import Derived.Test.YtejhlenckdkonaaDoorCApp
import Derived.Test.YtejhlenckdkonaaDoorCChk
import Derived.Test.YtejhlenckdkonaaDoorCBadOnes
namespace Go.Proofs.YtejhlenckdkonaaDoor
open Go.RowKit
set_option linter.unusedVariables false
set_option maxRecDepth 100000

/-- A program in a block of its own. -/
structure Blk (W : World) (g : Nat) (l : List (Int × Int)) : Prop where
  typ : ∃ cur, W.heap[g]? = some (.cells cur 42 (0, 0))
  c0 : ∀ (t : Nat) x, l[t]? = some x → W.cell? ⟨g, t * 2, none⟩ = some (.int .i64 x.1)
  c1 : ∀ (t : Nat) x, l[t]? = some x → W.cell? ⟨g, t * 2 + 1, none⟩ = some (.int .i64 x.2)
theorem Blk.keep {W W' : World} {g : Nat} {l : List (Int × Int)} (h : Blk W g l) (e : W'.heap[g]? = W.heap[g]?) : Blk W' g l :=
  ⟨by rw [e]; exact h.typ, fun t x hx => (World.cell?_of_block (a := ⟨g, t * 2, none⟩) e).trans (h.c0 t x hx), fun t x hx => (World.cell?_of_block (a := ⟨g, t * 2 + 1, none⟩) e).trans (h.c1 t x hx)⟩
theorem Blk.lt {W : World} {g : Nat} {l : List (Int × Int)} (h : Blk W g l) : g < W.heap.size := by
  obtain ⟨cur, e⟩ := h.typ
  rcases Nat.lt_or_ge g W.heap.size with h' | h'
  · exact h'
  · rw [Array.getElem?_eq_none h'] at e; cases e
theorem Blk.free {W : World} {g : Nat} {l : List (Int × Int)} (h : Blk W g l) (o : Nat) : W.frozen? ⟨g, o, none⟩ = false := by
  obtain ⟨cur, e⟩ := h.typ
  simp [World.frozen?, e]
theorem Blk.vrow {W : World} {g : Nat} {l : List (Int × Int)} (h : Blk W g l) : VRow W W.heap.size (some ⟨g, 0, none⟩) l := by
  intro t x hx
  refine ⟨g, 0, rfl, h.lt, ?_, ?_⟩
  · rw [Nat.zero_add]; exact h.c0 t x hx
  · rw [Nat.zero_add]; exact h.c1 t x hx
theorem grown_set (W : World) (g o : Nat) (z : Value) : W.grownBy (W.setCell ⟨g, o, none⟩ z) (some g) :=
  ⟨rfl, rfl, rfl, by simp [World.setCell], fun k _ hk => Below.heap_setCell _ _ _ _ (fun e => hk (by simp [e]))⟩
theorem Blk.typ_set {W : World} {g o : Nat} {z : Value} {l : List (Int × Int)} (h : Blk W g l) : ∃ cur, (W.setCell ⟨g, o, none⟩ z).heap[g]? = some (.cells cur 42 (0, 0)) := by
  obtain ⟨cur, e⟩ := h.typ
  exact ⟨_, by simp [World.setCell, Array.getElem?_modify, e]; rfl⟩
/-- Its A turned. -/
theorem Blk.put1 {W : World} {g k : Nat} {l : List (Int × Int)} {p : Int × Int} (h : Blk W g l) (hk : l[k]? = some p) (z : Int) : Blk (W.setCell ⟨g, k * 2 + 1, none⟩ (.int .i64 z)) g (l.set k (p.1, z)) := by
  have hkl := (List.getElem?_eq_some_iff.1 hk).1
  refine ⟨h.typ_set, fun t x hx => ?_, fun t x hx => ?_⟩
  · rw [World.cell?_setCell_other _ _ _ _ (fun e => by injection e with _ e; omega)]
    by_cases ht : k = t
    · subst ht
      rw [List.getElem?_set_self hkl] at hx
      injection hx with hx; subst hx
      exact h.c0 k p hk
    · rw [List.getElem?_set_ne ht] at hx
      exact h.c0 t x hx
  · by_cases ht : k = t
    · subst ht
      rw [List.getElem?_set_self hkl] at hx
      injection hx with hx; subst hx
      exact World.cell?_setCell_same' _ _ _ (by rw [h.c1 k p hk]; rfl)
    · rw [List.getElem?_set_ne ht] at hx
      rw [World.cell?_setCell_other _ _ _ _ (fun e => by injection e with _ e; omega)]
      exact h.c1 t x hx
/-- Its Op turned. -/
theorem Blk.put0 {W : World} {g k : Nat} {l : List (Int × Int)} {p : Int × Int} (h : Blk W g l) (hk : l[k]? = some p) (z : Int) : Blk (W.setCell ⟨g, k * 2, none⟩ (.int .i64 z)) g (l.set k (z, p.2)) := by
  have hkl := (List.getElem?_eq_some_iff.1 hk).1
  refine ⟨h.typ_set, fun t x hx => ?_, fun t x hx => ?_⟩
  · by_cases ht : k = t
    · subst ht
      rw [List.getElem?_set_self hkl] at hx
      injection hx with hx; subst hx
      exact World.cell?_setCell_same' _ _ _ (by rw [h.c0 k p hk]; rfl)
    · rw [List.getElem?_set_ne ht] at hx
      rw [World.cell?_setCell_other _ _ _ _ (fun e => by injection e with _ e; omega)]
      exact h.c0 t x hx
  · rw [World.cell?_setCell_other _ _ _ _ (fun e => by injection e with _ e; omega)]
    by_cases ht : k = t
    · subst ht
      rw [List.getElem?_set_self hkl] at hx
      injection hx with hx; subst hx
      exact h.c1 k p hk
    · rw [List.getElem?_set_ne ht] at hx
      exact h.c1 t x hx
theorem Blk.of_own {W : World} {B m : Nat} {v : Value} {l : List (Int × Int)} (h : W.ownsRow B 42 2 v m (vcells l)) (hm : 1 ≤ m) :
    ∃ g c, v = .slice (some ⟨g, 0, none⟩) m c ∧ B ≤ g ∧ Blk W g l ∧ m ≤ c ∧ c ≤ 9223372036854775807 := by
  have h0 := h
  rcases h.2 with ⟨_, h0⟩ | ⟨g, cap, cur, rfl, hB, hg, hnc, hcm, _⟩
  · omega
  · have hv := VRow.of_own h0
    refine ⟨g, cap, rfl, hB, ⟨⟨cur, hg⟩, ?_, ?_⟩, hnc, by unfold maxLen at hcm; omega⟩
    · intro t x hx
      obtain ⟨b, off, e, _, h1, _⟩ := hv t x hx
      injection e with e
      injection e with e1 e2
      subst e1 e2
      rwa [Nat.zero_add] at h1
    · intro t x hx
      obtain ⟨b, off, e, _, _, h2⟩ := hv t x hx
      injection e with e
      injection e with e1 e2
      subst e1 e2
      rwa [Nat.zero_add] at h2
/-- A slice of programs, each in a block of its own. -/
def sl (g : Nat × Nat) (l : List (Int × Int)) : Value := .slice (some ⟨g.1, 0, none⟩) l.length g.2
structure File (W : World) (B : Nat) (v : Value) (gs : List (Nat × Nat)) (ls : List (List (Int × Int))) : Prop where
  len : gs.length = ls.length
  own : W.ownsRow B 24 1 v ls.length (List.zipWith sl gs ls)
  nil : ls = [] → v = .slice none 0 0
  blk : ∀ (i : Nat) g l, gs[i]? = some g → ls[i]? = some l → B ≤ g.1 ∧ Blk W g.1 l ∧ l.length ≤ g.2 ∧ g.2 ≤ 9223372036854775807
theorem File.none (W : World) (B : Nat) : File W B (.slice none 0 0) [] [] :=
  ⟨rfl, World.ownsRow_nil _ _ _ _, fun _ => rfl, fun i g l h => by simp at h⟩
theorem File.step {W W' : World} {B : Nat} {v : Value} {gs : List (Nat × Nat)} {ls : List (List (Int × Int))} (h : File W B v gs ls) (hb : Below W.heap.size W W') : File W' B v gs ls :=
  ⟨h.len, own_below h.own hb, h.nil, fun i g l h1 h2 => by
    obtain ⟨a, b, c, d⟩ := h.blk i g l h1 h2
    exact ⟨a, b.keep (hb.block _ b.lt), c, d⟩⟩
/-- Blocks of unlike types are unlike. -/
theorem Blk.other {W : World} {g B n : Nat} {l : List (Int × Int)} {v : Value} {xs : List Value} (h : Blk W g l) (hv : W.ownsRow B 24 1 v n xs) : v.ownBlock = Option.none ∨ v.ownBlock ≠ some g := by
  rcases hv.2 with ⟨rfl, _⟩ | ⟨q, cap, cur, rfl, _, hq, _⟩
  · exact .inl rfl
  · refine .inr fun e => ?_
    simp only [Value.ownBlock, Option.some.injEq] at e
    subst e
    obtain ⟨c, hc⟩ := h.typ
    rw [hq] at hc
    injection hc with hc
    injection hc with _ hc _
    exact absurd hc (by decide)
theorem other_some {v : Value} {q : Nat} (h : v.ownBlock = Option.none ∨ v.ownBlock ≠ some q) : some q ≠ v.ownBlock := by
  rcases h with h | h
  · rw [h]; simp
  · exact fun e => h e.symm
/-- Another row grows. -/
theorem File.far {W W' : World} {B : Nat} {v : Value} {gs : List (Nat × Nat)} {ls : List (List (Int × Int))} {row : Option Nat} (h : File W B v gs ls) (hg : W.grownBy W' row) (h1 : v.ownBlock = Option.none ∨ v.ownBlock ≠ row) (h2 : ∀ (i : Nat) g l, gs[i]? = some g → ls[i]? = some l → some g.1 ≠ row) : File W' B v gs ls :=
  ⟨h.len, h.own.kept hg h1, h.nil, fun i g l e1 e2 => by
    obtain ⟨a, b, c, d⟩ := h.blk i g l e1 e2
    exact ⟨a, b.keep (hg.block _ b.lt (h2 i g l e1 e2)), c, d⟩⟩
/-- Two such slices that begin otherwise lie apart. -/
theorem own_apart {W : World} {B n m : Nat} {e : TypeId} {u v : Value} {xs ys : List Value} {a b : Value} (hu : W.ownsRow B e 1 u n xs) (hv : W.ownsRow B e 1 v m ys) (ha : xs[0]? = some a) (hb : ys[0]? = some b) (hab : a ≠ b) : u.ownBlock = Option.none ∨ u.ownBlock ≠ v.ownBlock := by
  rcases hu.2 with ⟨rfl, _⟩ | ⟨g, cap, cur, rfl, _, hg, _, _, _, ht⟩
  · exact .inl rfl
  · right
    rcases hv.2 with ⟨rfl, _⟩ | ⟨g', cap', cur', rfl, _, hg', _, _, _, ht'⟩
    · simp [Value.ownBlock]
    · intro e
      simp only [Value.ownBlock, Option.some.injEq] at e
      subst e
      rw [hg] at hg'
      injection hg' with hg'
      injection hg' with hc _ _
      subst hc
      apply hab
      have h1 : cur.toList[0]? = some a := by
        rw [← ht, List.getElem?_take] at ha
        split at ha
        · exact ha
        · cases ha
      have h2 : cur.toList[0]? = some b := by
        rw [← ht', List.getElem?_take] at hb
        split at hb
        · exact hb
        · cases hb
      rw [h1] at h2; injection h2
theorem sl_ne {g g' : Nat × Nat} {l l' : List (Int × Int)} (h : g.1 ≠ g'.1) : sl g l ≠ sl g' l' := fun e => h (by
  unfold sl at e; injection e with e _ _; injection e with e; injection e)
theorem File.apart {W : World} {B : Nat} {u v : Value} {gs hs : List (Nat × Nat)} {ls ms : List (List (Int × Int))} (h : File W B u gs ls) (k : File W B v hs ms) (hd : ∀ g ∈ gs, ∀ g' ∈ hs, g.1 ≠ g'.1) : u.ownBlock = Option.none ∨ u.ownBlock ≠ v.ownBlock := by
  have hl := h.len
  have kl := k.len
  match gs, ls, hs, ms, h, k, hd, hl, kl with
  | [], [], _, _, h, _, _, _, _ => exact .inl (by rw [h.nil rfl]; rfl)
  | _ :: _, _ :: _, [], [], h, k, _, _, _ =>
    rw [k.nil rfl]
    cases e : u.ownBlock with
    | none => exact .inl rfl
    | some q => exact .inr (by simp [Value.ownBlock])
  | g :: _, l :: _, g' :: _, l' :: _, h, k, hd, _, _ =>
    exact own_apart h.own k.own (a := sl g l) (b := sl g' l') rfl rfl (sl_ne (hd g (List.mem_cons_self ..) g' (List.mem_cons_self ..)))
  | [], _ :: _, _, _, _, _, _, hl, _ => simp at hl
  | _ :: _, [], _, _, _, _, _, hl, _ => simp at hl
  | _ :: _, _ :: _, [], _ :: _, _, _, _, _, kl => simp at kl
  | _ :: _, _ :: _, _ :: _, [], _, _, _, _, kl => simp at kl
/-- A program more. -/
theorem File.more {W W' : World} {B : Nat} {v v' : Value} {gs : List (Nat × Nat)} {ls : List (List (Int × Int))} {g c : Nat} {l : List (Int × Int)} (h : File W B v gs ls) (hb : Blk W g l) (hB : B ≤ g) (hc : l.length ≤ c) (hm : c ≤ 9223372036854775807)
    (hown : W'.ownsRow B 24 1 v' (ls.length + 1) (List.zipWith sl gs ls ++ [sl (g, c) l])) (hg : W.grownBy W' v.ownBlock) : File W' B v' (gs ++ [(g, c)]) (ls ++ [l]) := by
  have keep : ∀ {q : Nat} {l : List (Int × Int)}, Blk W q l → Blk W' q l := fun hq => hq.keep (hg.block _ hq.lt (other_some (hq.other h.own)))
  refine ⟨by simp [h.len], ?_, fun e => by simp at e, fun i g' l' e1 e2 => ?_⟩
  · rw [List.zipWith_append h.len, List.length_append]
    exact hown
  · by_cases hi : i < ls.length
    · rw [List.getElem?_append_left (by rw [h.len]; exact hi)] at e1
      rw [List.getElem?_append_left hi] at e2
      obtain ⟨a, b, c', d⟩ := h.blk i g' l' e1 e2
      exact ⟨a, keep b, c', d⟩
    · rw [List.getElem?_append_right (by rw [h.len]; omega)] at e1
      rw [List.getElem?_append_right (by omega)] at e2
      have hi0 : i - ls.length = 0 := by
        have := (List.getElem?_eq_some_iff.1 e2).1
        simp at this; omega
      rw [h.len, hi0] at e1
      rw [hi0] at e2
      injection e1 with e1
      injection e2 with e2
      subst e1 e2
      exact ⟨hB, keep hb, hc, hm⟩
/-- One of its programs turned. -/
theorem File.turn {W W' : World} {B : Nat} {v : Value} {gs : List (Nat × Nat)} {ls : List (List (Int × Int))} {i : Nat} {g : Nat × Nat} {l l' : List (Int × Int)} (h : File W B v gs ls) (hi : gs[i]? = some g) (hl : ls[i]? = some l) (hn : (gs.map Prod.fst).Nodup) (hg : W.grownBy W' (some g.1)) (hb : Blk W' g.1 l') (hl' : l'.length = l.length) : File W' B v gs (ls.set i l') := by
  have hi' := (List.getElem?_eq_some_iff.1 hl).1
  obtain ⟨hB, hblk, hc, hm⟩ := h.blk i g l hi hl
  have hz : List.zipWith sl gs (ls.set i l') = List.zipWith sl gs ls := by
    apply List.ext_getElem?
    intro j
    rw [List.getElem?_zipWith, List.getElem?_zipWith]
    by_cases hj : i = j
    · subst hj
      rw [List.getElem?_set_self hi', hi, hl]
      simp [sl, hl']
    · rw [List.getElem?_set_ne hj]
  refine ⟨by rw [List.length_set]; exact h.len, ?_, fun e => ?_, fun j g2 l2 e1 e2 => ?_⟩
  · rw [hz, List.length_set]
    exact h.own.kept hg (hblk.other h.own)
  · exact h.nil (by
      have := congrArg List.length e
      rw [List.length_set] at this
      exact List.length_eq_zero_iff.1 this)
  · by_cases hj : i = j
    · subst hj
      rw [hi] at e1
      injection e1 with e1
      subst e1
      rw [List.getElem?_set_self hi'] at e2
      injection e2 with e2
      subst e2
      exact ⟨hB, hb, by rw [hl']; exact hc, hm⟩
    · rw [List.getElem?_set_ne hj] at e2
      obtain ⟨a, b, c, d⟩ := h.blk j g2 l2 e1 e2
      refine ⟨a, b.keep (hg.block _ b.lt ?_), c, d⟩
      intro e
      injection e with e
      have h1 := (List.getElem?_eq_some_iff.1 hi)
      have h2 := (List.getElem?_eq_some_iff.1 e1)
      obtain ⟨p1, q1⟩ := h1
      obtain ⟨p2, q2⟩ := h2
      apply hj
      refine (List.getElem_inj (xs := gs.map Prod.fst) (h₀ := by simpa using p1) (h₁ := by simpa using p2) hn).1 ?_
      rw [List.getElem_map, List.getElem_map, q1, q2]
      exact e.symm
theorem File.prow {W : World} {B : Nat} {v : Value} {gs : List (Nat × Nat)} {ls : List (List (Int × Int))} (h : File W B v gs ls) (h0 : 1 ≤ ls.length) : ∃ q c, v = .slice (some ⟨q, 0, Option.none⟩) ls.length c ∧ PRow W (some ⟨q, 0, Option.none⟩) ls.length c ls := by
  have hown := h.own
  rcases h.own.2 with ⟨_, e⟩ | ⟨q, cap, cur, hv, hB, hq, hnc, hcm, _⟩
  · omega
  · refine ⟨q, cap, hv, rfl, hnc, by unfold maxLen at hcm; omega, (fun e => by cases e), fun i l hi => ?_⟩
    have hil := (List.getElem?_eq_some_iff.1 hi).1
    obtain ⟨g, hg⟩ : ∃ g, gs[i]? = some g := ⟨_, List.getElem?_eq_getElem (by rw [h.len]; exact hil)⟩
    obtain ⟨a, b, c, d⟩ := h.blk i g l hg hi
    have hz : (List.zipWith sl gs ls)[i]? = some (sl g l) := by rw [List.getElem?_zipWith, hg, hi]
    have hc := hown.cells (g := q) (by rw [hv]; rfl) i _ hz
    rw [add_lit'] at hc
    refine ⟨q, 0, some ⟨g.1, 0, Option.none⟩, g.2, rfl, ?_, hc, b.vrow, c, d⟩
    have := hown.lt q (by rw [hv]; rfl)
    exact this.2
theorem info_sl : (Tryd.prog.info? 24).map (fun i => (i.zero, i.size, i.bytes)) = some (some (.slice Option.none 0 0), 1, 24) := by kernel_rfl
/-- Two such lists that share no block. -/
structure Two (W : World) (B : Nat) (u v : Value) (gs hs : List (Nat × Nat)) (ls ms : List (List (Int × Int))) : Prop where
  a : File W B u gs ls
  b : File W B v hs ms
  nd : ((gs ++ hs).map Prod.fst).Nodup
theorem Two.swap {W : World} {B : Nat} {u v : Value} {gs hs : List (Nat × Nat)} {ls ms : List (List (Int × Int))} (h : Two W B u v gs hs ls ms) : Two W B v u hs gs ms ls :=
  ⟨h.b, h.a, by
    have := h.nd
    rw [List.map_append] at this ⊢
    exact (List.perm_append_comm.nodup_iff).1 this⟩
theorem Two.apart {W : World} {B : Nat} {u v : Value} {gs hs : List (Nat × Nat)} {ls ms : List (List (Int × Int))} (h : Two W B u v gs hs ls ms) : ∀ g ∈ gs, ∀ g' ∈ hs, g.1 ≠ g'.1 := by
  have := h.nd
  rw [List.map_append, List.nodup_append] at this
  intro g hg g' hg'
  exact this.2.2 _ (List.mem_map_of_mem hg) _ (List.mem_map_of_mem hg')
theorem Two.step {W W' : World} {B : Nat} {u v : Value} {gs hs : List (Nat × Nat)} {ls ms : List (List (Int × Int))} (h : Two W B u v gs hs ls ms) (hb : Below W.heap.size W W') : Two W' B u v gs hs ls ms :=
  ⟨h.a.step hb, h.b.step hb, h.nd⟩
theorem File.lt {W : World} {B : Nat} {v : Value} {gs : List (Nat × Nat)} {ls : List (List (Int × Int))} (h : File W B v gs ls) : ∀ g ∈ gs, g.1 < W.heap.size := by
  intro g hg
  obtain ⟨i, hi⟩ := List.mem_iff_getElem?.1 hg
  obtain ⟨l, hl⟩ : ∃ l, ls[i]? = some l := ⟨_, List.getElem?_eq_getElem (by rw [← h.len]; exact (List.getElem?_eq_some_iff.1 hi).1)⟩
  exact (h.blk i g l hi hl).2.1.lt
/-- A program more in one of both. -/
theorem Two.more {W W5 W6 : World} {B : Nat} {u u' v : Value} {gs hs : List (Nat × Nat)} {ls ms : List (List (Int × Int))} {g c : Nat} {l : List (Int × Int)} (h : Two W B u v gs hs ls ms) (hb : Below W.heap.size W W5) (hB : B ≤ W.heap.size) (hW : W.heap.size ≤ g) (hblk : Blk W5 g l) (hc : l.length ≤ c) (hm : c ≤ 9223372036854775807)
    (hown : W6.ownsRow B 24 1 u' (ls.length + 1) (List.zipWith sl gs ls ++ [sl (g, c) l])) (hg : W5.grownBy W6 u.ownBlock) : Two W6 B u' v (gs ++ [(g, c)]) hs (ls ++ [l]) ms := by
  have h5 := h.step hb
  refine ⟨h5.a.more hblk (Nat.le_trans hB hW) hc hm hown hg, ?_, ?_⟩
  · refine h5.b.far hg ?_ fun i g' l' e1 e2 => other_some ((h5.b.blk i g' l' e1 e2).2.1.other h5.a.own)
    exact h5.b.apart h5.a h5.swap.apart
  · have hp : ((gs ++ [(g, c)]) ++ hs).map Prod.fst = gs.map Prod.fst ++ g :: hs.map Prod.fst := by simp
    rw [hp]
    refine (List.perm_middle.nodup_iff).2 (List.nodup_cons.2 ⟨?_, by have := h.nd; rwa [List.map_append] at this⟩)
    intro hmem
    rw [← List.map_append] at hmem
    obtain ⟨q, hq, e⟩ := List.mem_map.1 hmem
    rcases List.mem_append.1 hq with hq | hq
    · have := h.a.lt q hq; omega
    · have := h.b.lt q hq; omega
/-- One instruction turned in one of both. -/
theorem Two.turn {W W' : World} {B : Nat} {u v : Value} {gs hs : List (Nat × Nat)} {ls ms : List (List (Int × Int))} {i : Nat} {g : Nat × Nat} {l l' : List (Int × Int)} (h : Two W B u v gs hs ls ms) (hi : gs[i]? = some g) (hl : ls[i]? = some l) (hg : W.grownBy W' (some g.1)) (hb : Blk W' g.1 l') (hl' : l'.length = l.length) : Two W' B u v gs hs (ls.set i l') ms := by
  have hnd := h.nd
  rw [List.map_append, List.nodup_append] at hnd
  have hblk := (h.a.blk i g l hi hl).2.1
  refine ⟨h.a.turn hi hl hnd.1 hg hb hl', h.b.far hg (hblk.other h.b.own) fun j g' l2 e1 e2 => ?_, h.nd⟩
  intro e
  injection e with e
  exact h.apart g (List.mem_of_getElem? hi) g' (List.mem_of_getElem? e1) e.symm
theorem File.cell {W : World} {B q n c : Nat} {gs : List (Nat × Nat)} {ls : List (List (Int × Int))} {i : Nat} {g : Nat × Nat} {l : List (Int × Int)} (h : File W B (.slice (some ⟨q, 0, Option.none⟩) n c) gs ls) (hg : gs[i]? = some g) (hl : ls[i]? = some l) : W.cell? ⟨q, i, Option.none⟩ = some (.slice (some ⟨g.1, 0, Option.none⟩) l.length g.2) := by
  have hz : (List.zipWith sl gs ls)[i]? = some (sl g l) := by rw [List.getElem?_zipWith, hg, hl]
  have hc := h.own.cells (g := q) rfl i _ hz
  rw [add_lit', Nat.zero_add] at hc
  exact hc
theorem File.prow' {W : World} {B q n c : Nat} {gs : List (Nat × Nat)} {ls : List (List (Int × Int))} (h : File W B (.slice (some ⟨q, 0, Option.none⟩) n c) gs ls) (hn : ls.length = n) (h0 : 1 ≤ n) : PRow W (some ⟨q, 0, Option.none⟩) n c ls := by
  obtain ⟨q', c', e, hp⟩ := h.prow (by omega)
  injection e with e1 e2 e3
  injection e1 with e1
  injection e1 with e1
  subst e1 e3
  rw [hn] at hp
  exact hp
theorem File.block {W : World} {B q n c : Nat} {gs : List (Nat × Nat)} {ls : List (List (Int × Int))} (h : File W B (.slice (some ⟨q, 0, Option.none⟩) n c) gs ls) : q < W.heap.size ∧ B ≤ q := by
  have := h.own.lt q rfl
  exact ⟨this.2, this.1⟩
/-- One program's A turned in the one list, another's whole last instruction in the other. -/
theorem Two.both {W : World} {B qa qb n ca cb i k m : Nat} {gs hs : List (Nat × Nat)} {ps : List (List (Int × Int))} {l : List (Int × Int)} {g cg gh ch : Nat} {p z : Int × Int} {x : Int}
    (h : Two W B (.slice (some ⟨qa, 0, Option.none⟩) n ca) (.slice (some ⟨qb, 0, Option.none⟩) n cb) gs hs ps ps) (hg : gs[i]? = some (g, cg)) (hh : hs[i]? = some (gh, ch)) (hl : ps[i]? = some l) (hk : l[k]? = some p) (hm : l[m]? = some z) :
    Two (((W.setCell ⟨g, k * 2 + 1, Option.none⟩ (.int .i64 x)).setCell ⟨gh, m * 2, Option.none⟩ (.int .i64 2)).setCell ⟨gh, m * 2 + 1, Option.none⟩ (.int .i64 0)) B (.slice (some ⟨qa, 0, Option.none⟩) n ca) (.slice (some ⟨qb, 0, Option.none⟩) n cb) gs hs (ps.set i (l.set k (p.1, x))) (ps.set i (l.set m (2, 0))) := by
  have hil := (List.getElem?_eq_some_iff.1 hl).1
  have hml := (List.getElem?_eq_some_iff.1 hm).1
  have h1 := h.turn hg hl (grown_set W g (k * 2 + 1) (.int .i64 x)) ((h.a.blk i _ l hg hl).2.1.put1 hk x) List.length_set
  have h2 := h1.swap.turn hh hl (grown_set _ gh (m * 2) (.int .i64 2)) ((h1.b.blk i _ l hh hl).2.1.put0 hm 2) List.length_set
  have hl3 : (ps.set i (l.set m (2, z.2)))[i]? = some (l.set m (2, z.2)) := List.getElem?_set_self hil
  have hm3 : (l.set m (2, z.2))[m]? = some (2, z.2) := List.getElem?_set_self hml
  have h3 := h2.turn hh hl3 (grown_set _ gh (m * 2 + 1) (.int .i64 0)) ((h2.a.blk i _ _ hh hl3).2.1.put1 hm3 0) List.length_set
  rw [List.set_set, List.set_set] at h3
  exact h3.swap
end Go.Proofs.YtejhlenckdkonaaDoor

