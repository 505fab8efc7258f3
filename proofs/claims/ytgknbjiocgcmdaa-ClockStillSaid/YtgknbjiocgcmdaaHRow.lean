/- Rows of timers in memory: three cells each; a heap's own row. -/
import Derived.Test.YtgknbjiocgcmdaaKeep
import Derived.Test.YtgknbjiocgcmdaaHSort
import Derived.RegionTactic
import Derived.BigRegion
namespace Go.Proofs.Ytgknbjiocgcmdaa
open Go.RowKit
set_option linter.unusedVariables false
variable {R : Nat → Value → Prop}

def tcells (ts : List Hp.Tm) : List Value := ts.flatMap fun x => [.int .i64 x.1, .int .i64 x.2.1, .int .i64 x.2.2]
theorem tcells_cons (x : Hp.Tm) (ts : List Hp.Tm) : tcells (x :: ts) = .int .i64 x.1 :: .int .i64 x.2.1 :: .int .i64 x.2.2 :: tcells ts := rfl
theorem tcells_append (a b : List Hp.Tm) : tcells (a ++ b) = tcells a ++ tcells b := by unfold tcells; rw [List.flatMap_append]
theorem tcells_length (ts : List Hp.Tm) : (tcells ts).length = ts.length * 3 := by
  induction ts with
  | nil => rfl
  | cons x xs ih => rw [tcells_cons, List.length_cons, List.length_cons, List.length_cons, ih, List.length_cons]; omega
theorem tcells_at : ∀ (ts : List Hp.Tm) (i : Nat), (tcells ts)[i * 3]? = (ts[i]?).map (fun x => Value.int .i64 x.1) ∧ (tcells ts)[i * 3 + 1]? = (ts[i]?).map (fun x => Value.int .i64 x.2.1) ∧ (tcells ts)[i * 3 + 2]? = (ts[i]?).map (fun x => Value.int .i64 x.2.2) := by
  intro ts
  induction ts with
  | nil => intro i; simp [tcells]
  | cons x xs ih =>
    intro i
    rw [tcells_cons]
    cases i with
    | zero => exact ⟨rfl, rfl, rfl⟩
    | succ i =>
      obtain ⟨h1, h2, h3⟩ := ih i
      rw [show (i + 1) * 3 = i * 3 + 1 + 1 + 1 from by omega]
      simp only [List.getElem?_cons_succ]
      exact ⟨h1, h2, h3⟩
theorem tcells_one (ts : List Hp.Tm) : ∀ u ∈ tcells ts, u.oneCell' = true := by
  intro u hu
  unfold tcells at hu
  obtain ⟨x, _, hx⟩ := List.mem_flatMap.1 hu
  simp only [List.mem_cons, List.not_mem_nil, or_false] at hx
  rcases hx with rfl | rfl | rfl <;> rfl
theorem tcells_take (ts : List Hp.Tm) (n : Nat) : (tcells ts).take (n * 3) = tcells (ts.take n) := by
  induction ts generalizing n with
  | nil => simp [tcells]
  | cons x xs ih =>
    cases n with
    | zero => simp [tcells]
    | succ n =>
      rw [show (n + 1) * 3 = n * 3 + 1 + 1 + 1 from by omega, tcells_cons, List.take_succ_cons, List.take_succ_cons, List.take_succ_cons, ih, List.take_succ_cons, tcells_cons]
theorem tcells_set : ∀ (ts : List Hp.Tm) (i : Nat) (x : Hp.Tm), i < ts.length → (((tcells ts).set (i * 3) (.int .i64 x.1)).set (i * 3 + 1) (.int .i64 x.2.1)).set (i * 3 + 2) (.int .i64 x.2.2) = tcells (ts.set i x) := by
  intro ts
  induction ts with
  | nil => intro i x h; simp at h
  | cons y ys ih =>
    intro i x h
    cases i with
    | zero => rfl
    | succ i =>
      rw [tcells_cons, show (i + 1) * 3 = i * 3 + 1 + 1 + 1 from by omega]
      simp only [List.set_cons_succ]
      rw [ih i x (by simpa using h)]
      rfl
/-- A slice of timers, with its capacity. -/
structure TR (w : World) (A : Option Addr) (n c : Nat) (ts : List Hp.Tm) : Prop where
  len : ts.length = n
  cap : n ≤ c
  most : c ≤ 9223372036854775807
  nil : A = none → c = 0
  row : ∀ i x, ts[i]? = some x → ∃ b off, A = some ⟨b, off, none⟩ ∧ b < w.heap.size ∧ w.cell? ⟨b, off + i * 3, none⟩ = some (.int .i64 x.1) ∧ w.cell? ⟨b, off + i * 3 + 1, none⟩ = some (.int .i64 x.2.1) ∧ w.cell? ⟨b, off + i * 3 + 2, none⟩ = some (.int .i64 x.2.2)
theorem TR.below {w w' : World} {A : Option Addr} {n c : Nat} {ts : List Hp.Tm} (h : TR w A n c ts) (hb : Below w.heap.size w w') : TR w' A n c ts := by
  refine ⟨h.len, h.cap, h.most, h.nil, fun i z hi => ?_⟩
  obtain ⟨b, off, e, hlt, h0, h1, h2⟩ := h.row i z hi
  exact ⟨b, off, e, Nat.lt_of_lt_of_le hlt hb.size, keepcell hb h0, keepcell hb h1, keepcell hb h2⟩
theorem TR.step {w w' : World} {A : Option Addr} {n c : Nat} {ts : List Hp.Tm} (h : TR w A n c ts) (hb : Below w.heap.size w w') : TR w' A n c ts := h.below hb
theorem TR.drew {w : World} {A : Option Addr} {n c : Nat} {ts : List Hp.Tm} (h : TR w A n c ts) : TR w.drew A n c ts := ⟨h.len, h.cap, h.most, h.nil, h.row⟩
theorem TR.nothing (w : World) : TR w none 0 0 [] := ⟨rfl, Nat.le_refl _, by omega, fun _ => rfl, fun i z h => by simp at h⟩
/-- The address and the cells of a row that has a member. -/
theorem TR.cells {w : World} {A : Option Addr} {n c : Nat} {ts : List Hp.Tm} (h : TR w A n c ts) (hn : 0 < n) : ∃ b off, A = some ⟨b, off, none⟩ ∧ b < w.heap.size ∧ ∀ j z, ts[j]? = some z → w.cell? ⟨b, off + j * 3, none⟩ = some (.int .i64 z.1) ∧ w.cell? ⟨b, off + j * 3 + 1, none⟩ = some (.int .i64 z.2.1) ∧ w.cell? ⟨b, off + j * 3 + 2, none⟩ = some (.int .i64 z.2.2) := by
  obtain ⟨z0, h0⟩ : ∃ z, ts[0]? = some z := ⟨_, List.getElem?_eq_getElem (by rw [h.len]; exact hn)⟩
  obtain ⟨b, off, rfl, hb, _⟩ := h.row 0 z0 h0
  refine ⟨b, off, rfl, hb, fun j z hj => ?_⟩
  obtain ⟨b', off', e, _, hc⟩ := h.row j z hj
  injection e with e
  injection e with e1 e2
  subst e1 e2
  exact hc
theorem TR.take {w : World} {A : Option Addr} {n c : Nat} {ts : List Hp.Tm} (h : TR w A n c ts) (k : Nat) (hk : k ≤ n) : TR w A k c (ts.take k) := by
  refine ⟨by rw [List.length_take, h.len]; omega, by have := h.cap; omega, h.most, h.nil, fun i z hi => ?_⟩
  rw [List.getElem?_take] at hi
  split at hi
  · exact h.row i z hi
  · cases hi
theorem TR.drop {w : World} {b off n c : Nat} {ts : List Hp.Tm} (h : TR w (some ⟨b, off, none⟩) n c ts) (k : Nat) (hk : k ≤ n) : TR w (some ⟨b, off + k * 3, none⟩) (n - k) (c - k) (ts.drop k) := by
  refine ⟨by rw [List.length_drop, h.len], by have := h.cap; omega, by have := h.most; omega, fun e => (by cases e), fun i z hi => ?_⟩
  rw [List.getElem?_drop] at hi
  obtain ⟨b', off', e, hb, h0, h1, h2⟩ := h.row _ _ hi
  injection e with e
  injection e with e1 e2
  subst e1 e2
  rw [Nat.add_mul, ← Nat.add_assoc] at h0 h1 h2
  exact ⟨_, _, rfl, hb, h0, h1, h2⟩
theorem TR.slice {w : World} {b off n c : Nat} {ts : List Hp.Tm} (h : TR w (some ⟨b, off, Option.none⟩) n c ts) (k : Nat) (hk : k ≤ n) : TR w (if c = k then some ⟨b, off, Option.none⟩ else some ⟨b, off + k * 3, Option.none⟩) (n - k) (c - k) (ts.drop k) := by
  by_cases e : c = k
  · rw [if_pos e]
    have h1 := h.cap
    have h2 : n - k = 0 := by omega
    have h3 : c - k = 0 := by omega
    rw [h2, h3, List.drop_of_length_le (by rw [h.len]; omega)]
    exact ⟨rfl, Nat.le_refl _, by omega, fun _ => rfl, fun i z hi => by simp at hi⟩
  · rw [if_neg e]
    exact h.drop k hk
theorem TR.far {W : World} {p : Addr} {n c : Nat} {A : Option Addr} {ts : List Hp.Tm} {u : Value} (h : TR W A n c ts) (ha : ∀ ad, A = some ad → ad.block ≠ p.block) : TR (W.setCell p u) A n c ts := by
  refine ⟨h.len, h.cap, h.most, h.nil, fun i z hi => ?_⟩
  obtain ⟨b, off, e, hb, h0, h1, h2⟩ := h.row i z hi
  have hne := ha _ e
  simp only at hne
  have ne : ∀ o, p ≠ (⟨b, o, none⟩ : Addr) := fun o e => hne (by rw [e])
  exact ⟨b, off, e, by simpa [World.setCell] using hb, (World.cell?_setCell_other _ _ _ _ (ne _)).trans h0, (World.cell?_setCell_other _ _ _ _ (ne _)).trans h1, (World.cell?_setCell_other _ _ _ _ (ne _)).trans h2⟩
theorem TR.of_own {w : World} {base n : Nat} {e : TypeId} {v : Value} {ts : List Hp.Tm} (h : w.ownsRow base e 3 v n (tcells ts)) : ∃ A c, v = .slice A n c ∧ TR w A n c ts ∧ From base A := by
  have hl : ts.length = n := by have h1 := h.1; rw [tcells_length] at h1; omega
  rcases h.2 with ⟨rfl, rfl⟩ | ⟨g, cap, cur, rfl, hg, hh, h1, h2, _⟩
  · obtain rfl := List.length_eq_zero_iff.1 hl
    exact ⟨_, _, rfl, TR.nothing w, From.none _⟩
  · refine ⟨_, _, rfl, ⟨hl, h1, by unfold maxLen at h2; omega, (fun e => by cases e), fun i x hi => ?_⟩, fun ad e => by injection e with e; subst e; exact hg⟩
    obtain ⟨g1, g2, g3⟩ := tcells_at ts i
    rw [hi] at g1 g2 g3
    have c1 := h.cells (g := g) rfl _ _ g1
    have c2 := h.cells (g := g) rfl _ _ g2
    have c3 := h.cells (g := g) rfl _ _ g3
    rw [add_lit'] at c1 c2 c3
    exact ⟨g, 0, rfl, (Array.getElem?_eq_some_iff.1 hh).1, c1, by rw [Nat.add_assoc]; exact c2, by rw [Nat.add_assoc]; exact c3⟩
theorem TR.tcells {w : World} {b off n c : Nat} {ts : List Hp.Tm} (h : TR w (some ⟨b, off, none⟩) n c ts) : ∀ j u, (tcells ts)[j]? = some u → w.cell? ((⟨b, off, none⟩ : Addr).add j) = some u := by
  intro j u hj
  have hl := (List.getElem?_eq_some_iff.1 hj).1
  rw [tcells_length] at hl
  obtain ⟨x, hx⟩ : ∃ x, ts[j / 3]? = some x := ⟨_, List.getElem?_eq_getElem (by omega)⟩
  obtain ⟨b', off', hA, _, h0, h1, h2⟩ := h.row _ _ hx
  injection hA with hA
  injection hA with e1 e2
  subst e1 e2
  obtain ⟨g0, g1, g2⟩ := tcells_at ts (j / 3)
  rw [hx] at g0 g1 g2
  rw [add_lit']
  have hm : j % 3 = 0 ∨ j % 3 = 1 ∨ j % 3 = 2 := by omega
  rcases hm with e | e | e
  · rw [show j / 3 * 3 = j from by omega, hj] at g0
    rw [show j / 3 * 3 = j from by omega] at h0
    rw [h0, g0]; rfl
  · rw [show j / 3 * 3 + 1 = j from by omega, hj] at g1
    rw [show off + j / 3 * 3 + 1 = off + j from by omega] at h1
    rw [h1, g1]; rfl
  · rw [show j / 3 * 3 + 2 = j from by omega, hj] at g2
    rw [show off + j / 3 * 3 + 2 = off + j from by omega] at h2
    rw [h2, g2]; rfl

/-- What a call leaves that has made a row of timers. -/
def MadeT (w0 : World) (ts : List Hp.Tm) (e : Ending) (w' : World) : Prop :=
  ∃ A n c, e = .returned (.slice A n c) ∧ TR w' A n c ts ∧ From w0.heap.size A ∧ Below w0.heap.size w0 w'
/-- Nothing but blocks of which F holds has turned. -/
structure Kept (F : Nat → Prop) (w w' : World) : Prop where
  os : w'.os = w.os
  tape : w'.tape = w.tape
  output : w'.output = w.output
  size : w.heap.size ≤ w'.heap.size
  block : ∀ k, k < w.heap.size → ¬ F k → w'.heap[k]? = w.heap[k]?
theorem Kept.refl (F : Nat → Prop) (w : World) : Kept F w w := ⟨rfl, rfl, rfl, Nat.le_refl _, fun _ _ _ => rfl⟩
theorem Kept.trans {F : Nat → Prop} {a b c : World} (h : Kept F a b) (k : Kept F b c) : Kept F a c :=
  ⟨k.os.trans h.os, k.tape.trans h.tape, k.output.trans h.output, Nat.le_trans h.size k.size, fun i hi hn => (k.block i (Nat.lt_of_lt_of_le hi h.size) hn).trans (h.block i hi hn)⟩
/-- .. where the second may turn new blocks too. -/
theorem Kept.trans' {F F' : Nat → Prop} {a b c : World} (h : Kept F a b) (k : Kept F' b c) (hF : ∀ j, F' j → F j ∨ a.heap.size ≤ j) : Kept F a c :=
  ⟨k.os.trans h.os, k.tape.trans h.tape, k.output.trans h.output, Nat.le_trans h.size k.size, fun i hi hn => (k.block i (Nat.lt_of_lt_of_le hi h.size) (fun f => (hF i f).elim hn (fun e => by omega))).trans (h.block i hi hn)⟩
theorem Kept.of_grown {F : Nat → Prop} {a b : World} {row : Option Nat} (h : a.grownBy b row) (hr : ∀ k, row = some k → F k) : Kept F a b :=
  ⟨h.os, h.tape, h.output, h.size, fun i hi hn => h.block i hi (fun e => hn (hr i e.symm))⟩
theorem Kept.of_below {F : Nat → Prop} {a b : World} (h : Below a.heap.size a b) : Kept F a b := ⟨h.os, h.tape, h.output, h.size, fun i hi _ => h.block i hi⟩
theorem Kept.setCell {F : Nat → Prop} {a w : World} (h : Kept F a w) (p : Addr) (hb : F p.block) (u : Value) : Kept F a (w.setCell p u) :=
  ⟨h.os, h.tape, h.output, Nat.le_trans h.size (by simp [World.setCell]), fun i hi hn => (Below.heap_setCell w p u i (fun e => hn (by rw [e]; exact hb))).trans (h.block i hi hn)⟩
theorem Kept.drew {F : Nat → Prop} {a w : World} (h : Kept F a w) : Kept F a w.drew := ⟨h.os, h.tape, h.output, h.size, h.block⟩
theorem Kept.drewN {F : Nat → Prop} {a w : World} (h : Kept F a w) (q : Nat) : Kept F a (w.drewN q) := ⟨h.os, h.tape, h.output, h.size, h.block⟩
theorem Kept.below {F : Nat → Prop} {w0 w w' : World} {B : Nat} (h : Kept F w w') (hb : Below B w0 w) (hF : ∀ k, F k → B ≤ k) (hB : B ≤ w.heap.size) : Below B w0 w' :=
  ⟨h.os.trans hb.os, h.tape.trans hb.tape, h.output.trans hb.output, Nat.le_trans hb.size h.size, fun k hk => (h.block k (by omega) (fun f => by have := hF k f; omega)).trans (hb.block k hk)⟩
theorem Kept.cell {F : Nat → Prop} {w w' : World} {a : Addr} {v : Value} (h : Kept F w w') (hc : w.cell? a = some v) (hn : ¬ F a.block) : w'.cell? a = some v :=
  (World.cell?_of_block (w := w) (h.block a.block (World.block_lt_of_cell? _ _ hc) hn)).trans hc
theorem Kept.free {F : Nat → Prop} {w w' : World} {a : Addr} {v : Value} (h : Kept F w w') (hc : w.cell? a = some v) (hn : ¬ F a.block) (hf : w.frozen? a = false) : w'.frozen? a = false :=
  (World.frozen?_of_block (w := w) (h.block a.block (World.block_lt_of_cell? _ _ hc) hn)).trans hf
theorem TR.kept {F : Nat → Prop} {w w' : World} {A : Option Addr} {n c : Nat} {ts : List Hp.Tm} (h : TR w A n c ts) (hk : Kept F w w') (hn : ∀ ad, A = some ad → ¬ F ad.block) : TR w' A n c ts := by
  refine ⟨h.len, h.cap, h.most, h.nil, fun i z hi => ?_⟩
  obtain ⟨b, off, e, hlt, h0, h1, h2⟩ := h.row i z hi
  have := hn _ e
  exact ⟨b, off, e, Nat.lt_of_lt_of_le hlt hk.size, hk.cell h0 this, hk.cell h1 this, hk.cell h2 this⟩

/-- Nothing stands in a heap's block beside it. -/
def NoR : Nat → Value → Prop := fun _ _ => False
/-- Block b holds a heap: a slice of timers that the heap owns, in blocks of which F holds; R tells what else stands in block b (of a struct that embeds the heap). -/
structure HM (R : Nat → Value → Prop) (w : World) (b : Nat) (F : Nat → Prop) (l : List Hp.Tm) : Prop where
  mem : ∃ A c, w.cell? ⟨b, 0, none⟩ = some (.slice A l.length c) ∧ w.ownsRow 0 62 3 (.slice A l.length c) l.length (tcells l) ∧ (∀ ad, A = some ad → ad.block ≠ b ∧ F ad.block)
  free : w.frozen? ⟨b, 0, none⟩ = false
  inb : F b
  lt : ∀ j, F j → j < w.heap.size
  rest : ∀ i v, R i v → i ≠ 0 ∧ w.cell? ⟨b, i, none⟩ = some v ∧ w.frozen? ⟨b, i, none⟩ = false
/-- .. in a world in which those cells are as they were. -/
def Rest (R : Nat → Value → Prop) (w : World) (b : Nat) : Prop := ∀ i v, R i v → i ≠ 0 ∧ w.cell? ⟨b, i, none⟩ = some v ∧ w.frozen? ⟨b, i, none⟩ = false
theorem Rest.block {w w' : World} {b : Nat} (h : Rest R w b) (hk : w'.heap[b]? = w.heap[b]?) : Rest R w' b := fun i v hr => by
  obtain ⟨h0, h1, h2⟩ := h i v hr
  exact ⟨h0, (World.cell?_of_block (w := w) (a := ⟨b, i, none⟩) hk).trans h1, (World.frozen?_of_block (w := w) (a := ⟨b, i, none⟩) hk).trans h2⟩
theorem Rest.row {w : World} {b g o : Nat} {u : Value} (h : Rest R w b) (hg : g ≠ b) : Rest R (w.setCell ⟨g, o, none⟩ u) b := fun i v hr => by
  obtain ⟨h0, h1, h2⟩ := h i v hr
  exact ⟨h0, (World.cell?_setCell_other _ _ _ _ (fun e => by injection e with e; exact hg e)).trans h1, by rw [World.frozen?_setCell]; exact h2⟩
theorem Rest.head {w : World} {b : Nat} {u : Value} (h : Rest R w b) : Rest R (w.setCell ⟨b, 0, none⟩ u) b := fun i v hr => by
  obtain ⟨h0, h1, h2⟩ := h i v hr
  exact ⟨h0, (World.cell?_setCell_other _ _ _ _ (fun e => by injection e with _ e; exact h0 e.symm)).trans h1, by rw [World.frozen?_setCell]; exact h2⟩
theorem own_keep {w w' : World} {base n : Nat} {e : TypeId} {size : Nat} {v : Value} {xs : List Value} (h : w.ownsRow base e size v n xs) (hk : ∀ g, v.ownBlock = some g → w'.heap[g]? = w.heap[g]?) : w'.ownsRow base e size v n xs := by
  refine ⟨h.1, ?_⟩
  rcases h.2 with hn | ⟨g, cap, cur, rfl, hb, hgg, rest⟩
  · exact .inl hn
  · exact .inr ⟨g, cap, cur, rfl, hb, (hk g rfl).trans hgg, rest⟩
theorem HM.keep {w w' : World} {b : Nat} {F : Nat → Prop} {l : List Hp.Tm} (h : HM R w b F l) (hs : w.heap.size ≤ w'.heap.size) (hk : ∀ j, F j → w'.heap[j]? = w.heap[j]?) : HM R w' b F l := by
  obtain ⟨A, c, h1, h2, h3⟩ := h.mem
  refine ⟨⟨A, c, (World.cell?_of_block (w := w) (hk _ h.inb)).trans h1, own_keep h2 (fun g hg => hk _ ?_), h3⟩, (World.frozen?_of_block (w := w) (hk _ h.inb)).trans h.free, h.inb, fun j hj => Nat.lt_of_lt_of_le (h.lt j hj) hs, Rest.block h.rest (hk _ h.inb)⟩
  cases A with
  | none => cases hg
  | some ad => injection hg with hg; subst hg; exact (h3 ad rfl).2
theorem HM.step {w w' : World} {b : Nat} {F : Nat → Prop} {l : List Hp.Tm} (h : HM R w b F l) (hb : Below w.heap.size w w') : HM R w' b F l := h.keep hb.size (fun j hj => hb.block j (h.lt j hj))
theorem HM.drew {w : World} {b : Nat} {F : Nat → Prop} {l : List Hp.Tm} (h : HM R w b F l) : HM R w.drew b F l := h.keep (Nat.le_refl _) (fun _ _ => rfl)
/-- Another heap, in other blocks, is as it was. -/
theorem HM.kept {w w' : World} {b : Nat} {F G : Nat → Prop} {l : List Hp.Tm} (h : HM R w b F l) (hk : Kept G w w') (hd : ∀ j, F j → ¬ G j) : HM R w' b F l :=
  h.keep hk.size (fun j hj => hk.block j (h.lt j hj) (hd j hj))
theorem Kept.setNew {F : Nat → Prop} {a w : World} (h : Kept F a w) (p : Addr) (hp : a.heap.size ≤ p.block) (u : Value) : Kept F a (w.setCell p u) :=
  ⟨h.os, h.tape, h.output, Nat.le_trans h.size (by simp [World.setCell]), fun i hi hn => (Below.heap_setCell w p u i (fun e => by omega)).trans (h.block i hi hn)⟩
theorem HM.setFar {w : World} {b : Nat} {F : Nat → Prop} {l : List Hp.Tm} (h : HM R w b F l) (p : Addr) (hp : ¬ F p.block) (u : Value) : HM R (w.setCell p u) b F l :=
  h.keep (by simp [World.setCell]) (fun j hj => Below.heap_setCell w p u j (fun e => hp (by rw [← e]; exact hj)))
/-- What a method leaves that turns the heap alone. -/
def HTurn (R : Nat → Value → Prop) (b : Nat) (F : Nat → Prop) (l : List Hp.Tm) (w w' : World) : Prop :=
  ∃ F' : Nat → Prop, HM R w' b F' l ∧ Kept F w w' ∧ (∀ k, F' k → F k ∨ w.heap.size ≤ k)
theorem HM.same {w : World} {b : Nat} {F : Nat → Prop} {l : List Hp.Tm} (h : HM R w b F l) : HTurn R b F l w w := ⟨F, h, Kept.refl _ _, fun _ h => .inl h⟩
/-- The cells of a heap's row, as they are read and written. -/
theorem HM.cells {w : World} {b : Nat} {F : Nat → Prop} {l : List Hp.Tm} (h : HM R w b F l) (hn : 0 < l.length) : ∃ g c, w.cell? ⟨b, 0, none⟩ = some (.slice (some ⟨g, 0, none⟩) l.length c) ∧ g ≠ b ∧ F g ∧ l.length ≤ c ∧ c ≤ 9223372036854775807 ∧ w.ownsRow 0 62 3 (.slice (some ⟨g, 0, none⟩) l.length c) l.length (tcells l) ∧ ∀ j x, l[j]? = some x → w.cell? ⟨g, j * 3, none⟩ = some (.int .i64 x.1) ∧ w.cell? ⟨g, j * 3 + 1, none⟩ = some (.int .i64 x.2.1) ∧ w.cell? ⟨g, j * 3 + 2, none⟩ = some (.int .i64 x.2.2) := by
  obtain ⟨A, c, h1, h2, h3⟩ := h.mem
  obtain ⟨A', c', e, hr, _⟩ := TR.of_own h2
  injection e with e1 e2 e3
  subst e1 e3
  obtain ⟨g, off, rfl, hg, hc⟩ := hr.cells hn
  have hoff : off = 0 := by
    rcases h2.2 with ⟨e, _⟩ | ⟨g', cap, cur, e, _⟩
    · cases e
    · injection e with e
      injection e with e
      injection e with _ e
  subst hoff
  obtain ⟨n1, n2⟩ := h3 _ rfl
  exact ⟨g, c, h1, n1, n2, hr.cap, hr.most, h2, fun j x hj => by simpa using hc j x hj⟩
/-- No cell of the row is frozen. -/
theorem own_free {w : World} {base g n c : Nat} {e : TypeId} {size : Nat} {xs : List Value} (h : w.ownsRow base e size (.slice (some ⟨g, 0, none⟩) n c) n xs) (o : Nat) : w.frozen? ⟨g, o, none⟩ = false := by
  rcases h.2 with ⟨e, _⟩ | ⟨g', cap, cur, e, _, hh, _⟩
  · cases e
  · injection e with e
    injection e with e
    injection e with e
    subst e
    simp [World.frozen?, hh]
/-- A row of which one timer is written anew. -/
theorem own_put {w : World} {base g n c : Nat} {e : TypeId} {ts : List Hp.Tm} (h : w.ownsRow base e 3 (.slice (some ⟨g, 0, none⟩) n c) n (tcells ts)) (i : Nat) (hi : i < ts.length) (x : Hp.Tm) :
    (((w.setCell ⟨g, i * 3, none⟩ (.int .i64 x.1)).setCell ⟨g, i * 3 + 1, none⟩ (.int .i64 x.2.1)).setCell ⟨g, i * 3 + 2, none⟩ (.int .i64 x.2.2)).ownsRow base e 3 (.slice (some ⟨g, 0, none⟩) n c) n (tcells (ts.set i x)) := by
  have hl : ts.length = n := by have h1 := h.1; rw [tcells_length] at h1; omega
  rw [← tcells_set ts i x hi]
  exact (((h.stored (i * 3) _).1.stored (i * 3 + 1) _).1.stored (i * 3 + 2) _).1
theorem own_tcut {w : World} {base g n c : Nat} {e : TypeId} {ts : List Hp.Tm} (h : w.ownsRow base e 3 (.slice (some ⟨g, 0, none⟩) n c) n (tcells ts)) (k : Nat) (hk : k ≤ n) : w.ownsRow base e 3 (.slice (some ⟨g, 0, none⟩) k c) k (tcells (ts.take k)) := by
  have hl : ts.length = n := by have h1 := h.1; rw [tcells_length] at h1; omega
  refine ⟨by rw [tcells_length, List.length_take]; congr 1; omega, ?_⟩
  rcases h.2 with ⟨e, _⟩ | ⟨g', cap, cur, e, hb, hg, hn, hm, hs, ht⟩
  · cases e
  · injection e with e1 e2 e3
    injection e1 with e1
    injection e1 with e1
    subst e1 e3
    refine .inr ⟨g, c, cur, rfl, hb, hg, by omega, hm, hs, ?_⟩
    rw [← tcells_take, ← ht, List.take_take]
    congr 1
    omega
end Go.Proofs.Ytgknbjiocgcmdaa

