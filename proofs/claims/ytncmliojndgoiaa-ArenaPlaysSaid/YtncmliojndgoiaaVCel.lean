/- Rows of the call's own beside the arena; what Take and Free make of a fresh arena, and of a full one. -/
import Derived.Test.YtncmliojndgoiaaVShown
import Derived.Test.YtncmliojndgoiaaBFrame
namespace Go.Proofs.Ytncmliojndgoiaa
open Go.RowKit
set_option linter.unusedVariables false

/-- A row of the call's own, from block B on, in blocks of which F doesn't hold. -/
structure VOwn (W : World) (F : Nat → Prop) (B : Nat) (v : Value) (n : Nat) (l : List Int) : Prop where
  own : W.ownsRow B 3 1 v n (l.map (Value.int .i64))
  far : ∀ g, v.ownBlock = some g → ¬ F g
theorem VOwn.nil (W : World) (F : Nat → Prop) (B : Nat) : VOwn W F B (.slice none 0 0) 0 [] := ⟨World.ownsRow_nil _ _ _ _, fun g e => by cases e⟩
theorem VOwn.step {W W' : World} {F : Nat → Prop} {B n : Nat} {v : Value} {l : List Int} (h : VOwn W F B v n l) (hb : Below W.heap.size W W') : VOwn W' F B v n l := ⟨own_below h.own hb, h.far⟩
theorem VOwn.kept {W W' : World} {F F' : Nat → Prop} {B n : Nat} {v : Value} {l : List Int} (h : VOwn W F B v n l) (hk : Kept F W W') (hF : ∀ k, F' k → F k ∨ W.heap.size ≤ k) : VOwn W' F' B v n l :=
  ⟨own_keep h.own (fun g hg => hk.block g (h.own.lt g hg).2 (h.far g hg)), fun g hg f => by
    rcases hF g f with f | f
    · exact h.far g hg f
    · have := (h.own.lt g hg).2; omega⟩
theorem VOwn.row {W : World} {F : Nat → Prop} {B n : Nat} {v : Value} {l : List Int} (h : VOwn W F B v n l) : ∃ A c, v = .slice A n c ∧ Row W A n c l := Row.of_own h.own
/-- One is appended to it. -/
theorem VOwn.more {W W2 : World} {F : Nat → Prop} {B n c gg : Nat} {v : Value} {l : List Int} {g : Int} (h : VOwn W F B v n l) (hF : ∀ j, F j → j < W.heap.size)
    (ho : W2.ownsRow B 3 1 (.slice (some ⟨gg, 0, none⟩) (n + 1) c) (n + 1) (l.map (Value.int .i64) ++ [.int .i64 g])) (hat : v.ownBlock = some gg ∨ gg = (W.alloc (.cells #[.int .i64 g] 3)).heap.size) : VOwn W2 F B (.slice (some ⟨gg, 0, none⟩) (n + 1) c) (n + 1) (l ++ [g]) := by
  refine ⟨by simpa using ho, fun j e f => ?_⟩
  injection e with e
  simp only at e
  subst e
  rcases hat with e | e
  · exact h.far _ e f
  · have := hF _ f; simp at e; omega
theorem VC.grown {w W W2 : World} {b : Nat} {F : Nat → Prop} {a : Vp.Ar} {t : Int} {row : Option Nat} (h : VC w W b F a t) (hg : W.grownBy W2 row) (hr : ∀ k, row = some k → w.heap.size ≤ k ∧ ¬ F k) : VC w W2 b F a t :=
  ⟨h.ar.grown hg (fun k e => (hr k e).2), h.low, h.below.grown hg h.below.size (fun k e => (hr k e).1)⟩
theorem VOwn.inb {W : World} {F : Nat → Prop} {B n : Nat} {v : Value} {l : List Int} (h : VOwn W F B v n l) : ∀ k, v.ownBlock = some k → B ≤ k ∧ ¬ F k := fun k e => ⟨(h.own.lt k e).1, h.far k e⟩
theorem VAr.gen_le {W : World} {b : Nat} {F : Nat → Prop} {a : Vp.Ar} {t : Int} (h : VAr W b F a t) (g : Int) (ht : 0 ≤ t) : 0 ≤ Vp.gen a g ∧ Vp.gen a g ≤ t := by
  obtain ⟨k, hk⟩ := h.ok
  unfold Vp.gen
  split
  · omega
  · exact ⟨hk.zero _ (by omega), h.top _⟩
/-- What Take answers, of a fresh arena, of a full one. -/
theorem tookV_of {a b : Vp.Ar} {x y : Int} {s : Bool} (h : Vp.take a = (b, x, y, s)) : tookV a = .tuple #[.int .i64 x, .int .i64 y, .bool s] ∧ (Vp.take a).1 = b := by
  unfold tookV; rw [h]; exact ⟨rfl, rfl⟩
theorem fresh_has {a : Vp.Ar} {n i : Nat} (h : Vp.Fresh a n i) (g : Int) : a.live.contains g = decide (1 ≤ g ∧ g ≤ i) := by
  rw [Bool.eq_iff_iff, List.contains_iff_mem, h.lives g, decide_eq_true_eq]
/-- All live. -/
structure Full (a : Vp.Ar) (n : Nat) : Prop where
  ok : ∃ k, Vp.Ok a k
  freed : a.freed = []
  room : a.room = n
  len : a.live.length = n
theorem Vp.Fresh.toFull {a : Vp.Ar} {n : Nat} (h : Vp.Fresh a n n) : Full a n := ⟨⟨_, h.ok⟩, h.freed, h.room, by rw [h.live]; simp⟩
theorem Full.mem {a : Vp.Ar} {n : Nat} (h : Full a n) {g : Int} (h1 : 1 ≤ g) (h2 : g ≤ n) : g ∈ a.live := by
  obtain ⟨k, hk⟩ := h.ok
  have c := hk.count
  rw [h.freed, h.len] at c
  have := (hk.all g).2 (by simp at c; omega)
  rw [h.freed] at this
  simpa using this
theorem Full.none {a : Vp.Ar} {n : Nat} (h : Full a n) : Vp.take a = (a, 0, 0, false) := by
  obtain ⟨k, hk⟩ := h.ok
  exact Vp.take_none (hk.full.2 (by rw [h.len, h.room]))
theorem mod_nat {z : Int} (n : Nat) (h0 : 0 ≤ z) (hn : 0 < n) : ∃ r : Nat, z.tmod n = r ∧ r < n := by
  refine ⟨(z % (n : Int)).toNat, ?_, ?_⟩
  · rw [Int.tmod_eq_emod_of_nonneg h0]
    have := Int.emod_nonneg z (show (n : Int) ≠ 0 by omega)
    omega
  · have := Int.emod_lt_of_pos z (show (0 : Int) < n by omega)
    have := Int.emod_nonneg z (show (n : Int) ≠ 0 by omega)
    omega
end Go.Proofs.Ytncmliojndgoiaa

