/- An arena of numbers in memory: its cells, the map of those that live, the list of those that were freed. -/
import Derived.Test.YtncmliojndgoiaaRRow
import Derived.Test.YtncmliojndgoiaaVPlain
import Derived.Maps.OwnSet
import Derived.RegionTactic
import Derived.BigRegion
namespace Go.Proofs.Ytncmliojndgoiaa
open Go.RowKit
set_option linter.unusedVariables false

theorem keyint : Go.Maps.Keyed Try.prog 3 := Go.Maps.int_keyed Try.underlying3
theorem zeroUnit (w : World) : (zeroValue 53).run Try.prog w = .ok (.agg #[]) w := by kernel_rfl
theorem key_of {g : Int} (h : In64 g) : keyOf Try.prog 3 (.int .i64 g) = some (.int .i64 g) := by
  refine Go.Maps.keyOf_int_mk Try.underlying3 ?_
  unfold In64 at h
  simpa [Lit.wf, IntKind.min, IntKind.max, IntKind.signed, IntKind.bits] using h
/-- Block m is a map whose keys are these numbers. -/
def LiveM (W : World) (m : Nat) (l : List Int) : Prop :=
  ∃ D : DataW Unit, W.ownsMap Try.prog 3 unitElem m 64 D ∧ (∀ g : Int, Maps.has D (.int .i64 g) = l.contains g) ∧ Maps.size D = l.length
theorem LiveM.lt {W : World} {m : Nat} {l : List Int} (h : LiveM W m l) : m < W.heap.size := by obtain ⟨D, hD, _⟩ := h; exact hD.lt
theorem LiveM.keep {W W' : World} {m : Nat} {l : List Int} (h : LiveM W m l) (hk : W'.heap[m]? = W.heap[m]?) : LiveM W' m l := by
  obtain ⟨D, ⟨es, clock, hb, r⟩, h2⟩ := h
  exact ⟨D, ⟨es, clock, hk.trans hb, r⟩, h2⟩
theorem own_tight {H : Type} {P : Program} {k : TypeId} {R : Value → Option (DataW H × List MemPlace)} {w : World} {b n : Nat} {D : DataW H} (h : w.ownsMap P k R b n D) {n' : Nat} (hn : Maps.size D ≤ n') : w.ownsMap P k R b n' D := by
  obtain ⟨es, clock, hb, F, hs, rfl⟩ := h
  refine ⟨es, clock, hb, F, ?_, rfl⟩
  simpa [Maps.size, length_sorted] using hn
theorem LiveM.made (w : World) : LiveM (w.alloc (.map #[] 0)) w.heap.size [] :=
  ⟨.map [], (World.ownsMap_made w Try.prog 3 unitElem).mono (by omega), fun g => rfl, rfl⟩
theorem LiveM.put {W : World} {m n : Nat} {l : List Int} {D : DataW Unit} {g : Int} (hk : In64 g) (h0 : ∀ g : Int, Maps.has D (.int .i64 g) = l.contains g) (hs : Maps.size D = l.length) (ht : Go.Maps.Tidy D) (hg : g ∉ l) (hl : l.length < 64)
    (h : W.ownsMap Try.prog 3 unitElem m n (D.put (.int .i64 g) (.agg []))) : LiveM W m (l ++ [g]) := by
  have hkl := keyint.key (key_of hk)
  have h1 : Maps.has D (.int .i64 g) = false := by rw [h0, ← Bool.not_eq_true, List.contains_iff_mem]; exact hg
  have hsz : Maps.size (D.put (.int .i64 g) (.agg [])) = l.length + 1 := by rw [Go.Maps.size_put ht, h1]; simp [hs]
  refine ⟨_, own_tight h (by omega), fun z => ?_, by rw [hsz]; simp⟩
  by_cases e : z = g
  · subst e
    rw [Go.Maps.has_put_same ht.isMap hkl]
    simp
  · rw [Go.Maps.has_put_other (fun e' => e (by injection e')), h0, Bool.eq_iff_iff, List.contains_iff_mem, List.contains_iff_mem, List.mem_append, List.mem_singleton]
    exact ⟨.inl, fun h => h.resolve_right e⟩
theorem LiveM.del {W : World} {m n : Nat} {l : List Int} {D : DataW Unit} {g : Int} (h0 : ∀ g : Int, Maps.has D (.int .i64 g) = l.contains g) (hs : Maps.size D = l.length) (ht : Go.Maps.Tidy D) (hg : g ∈ l) (hn : l.Nodup) (hl : l.length ≤ 64)
    (h : W.ownsMap Try.prog 3 unitElem m n (D.del (.int .i64 g))) : LiveM W m (Vp.without l g) := by
  have h1 : Maps.has D (.int .i64 g) = true := by rw [h0, List.contains_iff_mem]; exact hg
  have hsz := Go.Maps.size_del (k := .int .i64 g) ht
  rw [h1, hs, if_pos rfl] at hsz
  have hw := Vp.without_len hn hg
  refine ⟨_, own_tight h (by omega), fun z => ?_, by omega⟩
  by_cases e : z = g
  · subst e
    rw [Go.Maps.has_del_same]
    symm
    rw [← Bool.not_eq_true, List.contains_iff_mem, Vp.without_mem]
    exact fun h => h.2 rfl
  · rw [Go.Maps.has_del_other (fun e' => e (by injection e')), h0, Bool.eq_iff_iff, List.contains_iff_mem, List.contains_iff_mem, Vp.without_mem]
    exact ⟨fun h => ⟨h, e⟩, fun h => h.1⟩

/-- Block b holds an arena's cells: how many there are, how many ever lived, the list, the map, the generations. -/
structure VRaw (W : World) (b m : Nat) (r k : Int) (v : Value) (G : Nat → Int) : Prop where
  r : W.cell? ⟨b, 0, none⟩ = some (.int .i64 r)
  k : W.cell? ⟨b, 1, none⟩ = some (.int .i64 k)
  f : W.cell? ⟨b, 2, none⟩ = some v
  m : W.cell? ⟨b, 3, none⟩ = some (.map (some m))
  g : ∀ j : Nat, j < 65 → W.cell? ⟨b, 4 + j, none⟩ = some (.int .i64 (G j))
  z : ∀ o : Nat, W.frozen? ⟨b, o, none⟩ = false
theorem raw_other {W : World} {b o o' : Nat} {v u : Value} (h : W.cell? ⟨b, o, none⟩ = some v) (hne : o ≠ o') : (W.setCell ⟨b, o', none⟩ u).cell? ⟨b, o, none⟩ = some v :=
  (World.cell?_setCell_other _ _ _ _ (fun e => by injection e with _ e; omega)).trans h
theorem VRaw.keep {W W' : World} {b m : Nat} {r k : Int} {v : Value} {G : Nat → Int} (h : VRaw W b m r k v G) (hk : W'.heap[b]? = W.heap[b]?) : VRaw W' b m r k v G :=
  ⟨(World.cell?_of_block (w := W) hk).trans h.r, (World.cell?_of_block (w := W) hk).trans h.k, (World.cell?_of_block (w := W) hk).trans h.f, (World.cell?_of_block (w := W) hk).trans h.m, fun i hi => (World.cell?_of_block (w := W) hk).trans (h.g i hi), fun o => (World.frozen?_of_block (w := W) hk).trans (h.z o)⟩
theorem VRaw.lt {W : World} {b m : Nat} {r k : Int} {v : Value} {G : Nat → Int} (h : VRaw W b m r k v G) : b < W.heap.size := World.block_lt_of_cell? W ⟨b, 0, none⟩ h.r
theorem VRaw.drew {W : World} {b m : Nat} {r k : Int} {v : Value} {G : Nat → Int} (h : VRaw W b m r k v G) : VRaw W.drew b m r k v G := h.keep rfl
theorem VRaw.drewN {W : World} {b m : Nat} {r k : Int} {v : Value} {G : Nat → Int} (h : VRaw W b m r k v G) (q : Nat) : VRaw (W.drewN q) b m r k v G := h.keep rfl
theorem VRaw.setK {W : World} {b m : Nat} {r k : Int} {v : Value} {G : Nat → Int} (h : VRaw W b m r k v G) (x : Int) : VRaw (W.setCell ⟨b, 1, none⟩ (.int .i64 x)) b m r x v G :=
  ⟨raw_other h.r (by omega), World.cell?_setCell_same' _ _ _ (by rw [h.k]; rfl), raw_other h.f (by omega), raw_other h.m (by omega), fun i hi => raw_other (h.g i hi) (by omega), fun o => by rw [World.frozen?_setCell]; exact h.z o⟩
theorem VRaw.setF {W : World} {b m : Nat} {r k : Int} {v : Value} {G : Nat → Int} (h : VRaw W b m r k v G) (x : Value) : VRaw (W.setCell ⟨b, 2, none⟩ x) b m r k x G :=
  ⟨raw_other h.r (by omega), raw_other h.k (by omega), World.cell?_setCell_same' _ _ _ (by rw [h.f]; rfl), raw_other h.m (by omega), fun i hi => raw_other (h.g i hi) (by omega), fun o => by rw [World.frozen?_setCell]; exact h.z o⟩
def updG (G : Nat → Int) (p : Nat) (x : Int) : Nat → Int := fun j => if j = p then x else G j
theorem VRaw.setG {W : World} {b m : Nat} {r k : Int} {v : Value} {G : Nat → Int} (h : VRaw W b m r k v G) (p : Nat) (hp : p < 65) (x : Int) : VRaw (W.setCell ⟨b, 4 + p, none⟩ (.int .i64 x)) b m r k v (updG G p x) :=
  ⟨raw_other h.r (by omega), raw_other h.k (by omega), raw_other h.f (by omega), raw_other h.m (by omega), fun i hi => by
    unfold updG
    by_cases e : i = p
    · subst e; rw [if_pos rfl]; exact World.cell?_setCell_same' _ _ _ (by rw [h.g i hi]; rfl)
    · rw [if_neg e]; exact raw_other (h.g i hi) (by omega), fun o => by rw [World.frozen?_setCell]; exact h.z o⟩

/-- Nothing but blocks of which F holds has turned. -/
structure Kept (F : Nat → Prop) (w w' : World) : Prop where
  os : w'.os = w.os
  tape : w'.tape = w.tape
  output : w'.output = w.output
  size : w.heap.size ≤ w'.heap.size
  block : ∀ k, k < w.heap.size → ¬ F k → w'.heap[k]? = w.heap[k]?
theorem Kept.refl (F : Nat → Prop) (w : World) : Kept F w w := ⟨rfl, rfl, rfl, Nat.le_refl _, fun _ _ _ => rfl⟩
theorem Kept.trans {F : Nat → Prop} {a b c : World} (h : Kept F a b) (k : Kept F b c) : Kept F a c :=
  ⟨k.os.trans h.os, k.tape.trans h.tape, k.output.trans h.output, Nat.le_trans h.size k.size, fun i hi hn => (k.block i (Nat.lt_of_lt_of_le hi h.size) hn).trans (h.block i hi hn)⟩
theorem Kept.of_grown {F : Nat → Prop} {a b : World} {row : Option Nat} (h : a.grownBy b row) (hr : ∀ k, row = some k → F k) : Kept F a b :=
  ⟨h.os, h.tape, h.output, h.size, fun i hi hn => h.block i hi (fun e => hn (hr i e.symm))⟩
theorem Kept.of_below {F : Nat → Prop} {a b : World} (h : Below a.heap.size a b) : Kept F a b := ⟨h.os, h.tape, h.output, h.size, fun i hi _ => h.block i hi⟩
theorem Kept.setCell {F : Nat → Prop} {a w : World} (h : Kept F a w) (b o : Nat) (hb : F b) (u : Value) : Kept F a (w.setCell ⟨b, o, none⟩ u) :=
  ⟨h.os, h.tape, h.output, Nat.le_trans h.size (by simp [World.setCell]), fun i hi hn => (Below.heap_setCell w ⟨b, o, none⟩ u i (fun e => hn (by rw [e]; exact hb))).trans (h.block i hi hn)⟩
theorem Kept.drew {F : Nat → Prop} {a w : World} (h : Kept F a w) : Kept F a w.drew := ⟨h.os, h.tape, h.output, h.size, h.block⟩
theorem Kept.drewN {F : Nat → Prop} {a w : World} (h : Kept F a w) (q : Nat) : Kept F a (w.drewN q) := ⟨h.os, h.tape, h.output, h.size, h.block⟩
theorem Kept.below {F : Nat → Prop} {w0 w w' : World} {B : Nat} (h : Kept F w w') (hb : Below B w0 w) (hF : ∀ k, F k → B ≤ k) (hB : B ≤ w.heap.size) : Below B w0 w' :=
  ⟨h.os.trans hb.os, h.tape.trans hb.tape, h.output.trans hb.output, Nat.le_trans hb.size h.size, fun k hk => (h.block k (by omega) (fun f => by have := hF k f; omega)).trans (hb.block k hk)⟩
/-- A block that was there, and of which F doesn't hold, is as it was. -/
theorem Kept.cell {F : Nat → Prop} {w w' : World} {a : Addr} {v : Value} (h : Kept F w w') (hc : w.cell? a = some v) (hn : ¬ F a.block) : w'.cell? a = some v :=
  (World.cell?_of_block (w := w) (h.block a.block (World.block_lt_of_cell? _ _ hc) hn)).trans hc
theorem Kept.free {F : Nat → Prop} {w w' : World} {a : Addr} {v : Value} (h : Kept F w w') (hc : w.cell? a = some v) (hn : ¬ F a.block) (hf : w.frozen? a = false) : w'.frozen? a = false :=
  (World.frozen?_of_block (w := w) (h.block a.block (World.block_lt_of_cell? _ _ hc) hn)).trans hf

/-- Block b holds this arena, in blocks of which F holds; no generation is above t. -/
structure VAr (W : World) (b : Nat) (F : Nat → Prop) (a : Vp.Ar) (t : Int) : Prop where
  room1 : 1 ≤ a.room
  room64 : a.room ≤ 64
  top : ∀ j, a.gens.getD j 0 ≤ t
  lt : ∀ j, F j → j < W.heap.size
  mem : ∃ (k m : Nat) (v : Value) (G : Nat → Int), Vp.Ok a k ∧ VRaw W b m a.room k v G ∧ LiveM W m a.live ∧ W.ownsRow 0 3 1 v a.freed.length (a.freed.map (Value.int .i64)) ∧ v.ownBlock ≠ some b ∧ (∀ j, j ≤ a.room → G j = a.gens.getD j 0) ∧ F b ∧ F m ∧ (∀ g, v.ownBlock = some g → F g)
theorem own_keep {w w' : World} {base n : Nat} {e : TypeId} {size : Nat} {v : Value} {xs : List Value} (h : w.ownsRow base e size v n xs) (hk : ∀ g, v.ownBlock = some g → w'.heap[g]? = w.heap[g]?) : w'.ownsRow base e size v n xs := by
  refine ⟨h.1, ?_⟩
  rcases h.2 with hn | ⟨g, cap, cur, rfl, hb, hgg, rest⟩
  · exact .inl hn
  · exact .inr ⟨g, cap, cur, rfl, hb, (hk g rfl).trans hgg, rest⟩
theorem VAr.keep {W W' : World} {b : Nat} {F : Nat → Prop} {a : Vp.Ar} {t : Int} (h : VAr W b F a t) (hs : W.heap.size ≤ W'.heap.size) (hk : ∀ j, F j → W'.heap[j]? = W.heap[j]?) : VAr W' b F a t := by
  obtain ⟨k, m, v, G, h1, h2, h3, h4, h5, h6, h7, h8, h9⟩ := h.mem
  exact ⟨h.room1, h.room64, h.top, fun j hj => Nat.lt_of_lt_of_le (h.lt j hj) hs, k, m, v, G, h1, h2.keep (hk _ h7), h3.keep (hk _ h8), own_keep h4 (fun g hg => hk _ (h9 g hg)), h5, h6, h7, h8, h9⟩
theorem VAr.step {W W' : World} {b : Nat} {F : Nat → Prop} {a : Vp.Ar} {t : Int} (h : VAr W b F a t) (hb : Below W.heap.size W W') : VAr W' b F a t := h.keep hb.size (fun j hj => hb.block j (h.lt j hj))
theorem VAr.drew {W : World} {b : Nat} {F : Nat → Prop} {a : Vp.Ar} {t : Int} (h : VAr W b F a t) : VAr W.drew b F a t := h.keep (Nat.le_refl _) (fun _ _ => rfl)
/-- A cell that is written elsewhere. -/
theorem VAr.set {W : World} {b : Nat} {F : Nat → Prop} {a : Vp.Ar} {t : Int} (h : VAr W b F a t) {p : Addr} (hp : ¬ F p.block) (u : Value) : VAr (W.setCell p u) b F a t :=
  h.keep (by simp [World.setCell]) (fun j hj => Below.heap_setCell W p u j (fun e => hp (by rw [← e]; exact hj)))
theorem VAr.grown {W W' : World} {b : Nat} {F : Nat → Prop} {a : Vp.Ar} {t : Int} {row : Option Nat} (h : VAr W b F a t) (hg : W.grownBy W' row) (hr : ∀ k, row = some k → ¬ F k) : VAr W' b F a t :=
  h.keep hg.size (fun j hj => hg.block j (h.lt j hj) (fun e => hr j e.symm hj))
theorem VAr.mono {W : World} {b : Nat} {F : Nat → Prop} {a : Vp.Ar} {t t' : Int} (h : VAr W b F a t) (ht : t ≤ t') : VAr W b F a t' := ⟨h.room1, h.room64, fun j => by have := h.top j; omega, h.lt, h.mem⟩
theorem VAr.inF {W : World} {b : Nat} {F : Nat → Prop} {a : Vp.Ar} {t : Int} (h : VAr W b F a t) : F b := by obtain ⟨k, m, v, G, h1, h2, h3, h4, h5, h6, h7, h8, h9⟩ := h.mem; exact h7
theorem VAr.ok {W : World} {b : Nat} {F : Nat → Prop} {a : Vp.Ar} {t : Int} (h : VAr W b F a t) : ∃ k, Vp.Ok a k := by obtain ⟨k, m, v, G, h1, _⟩ := h.mem; exact ⟨k, h1⟩
/-- What a method leaves that turns the arena alone. -/
def VTurn (b : Nat) (F : Nat → Prop) (a' : Vp.Ar) (t' : Int) (w : World) (v : Value) (e : Ending) (w' : World) : Prop :=
  e = .returned v ∧ ∃ F' : Nat → Prop, VAr w' b F' a' t' ∧ Kept F w w' ∧ (∀ k, F' k → F k ∨ w.heap.size ≤ k)
end Go.Proofs.Ytncmliojndgoiaa

