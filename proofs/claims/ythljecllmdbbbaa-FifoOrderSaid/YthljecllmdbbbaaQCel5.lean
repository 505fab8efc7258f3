/- Two cells of a block of the call's own: a variable that holds a struct of two words. -/
import Derived.Test.YthljecllmdbbbaaRRow
import Derived.Test.YthljecllmdbbbaaQArena
namespace Go.Proofs.Ythljecllmdbbbaa
open Go.RowKit
set_option linter.unusedVariables false

/-- Block b holds two cells that may be written. -/
structure Cel5 (W : World) (b : Nat) (x y : Value) : Prop where
  c0 : W.cell? ⟨b, 0, none⟩ = some x
  c1 : W.cell? ⟨b, 1, none⟩ = some y
  f0 : W.frozen? ⟨b, 0, none⟩ = false
  f1 : W.frozen? ⟨b, 1, none⟩ = false
theorem Cel5.step {W W' : World} {b : Nat} {x y : Value} (h : Cel5 W b x y) (hb : Below W.heap.size W W') : Cel5 W' b x y :=
  ⟨keepcell hb h.c0, keepcell hb h.c1, keepfree hb h.c0 h.f0, keepfree hb h.c1 h.f1⟩
theorem Cel5.lt {W : World} {b : Nat} {x y : Value} (h : Cel5 W b x y) : b < W.heap.size := World.block_lt_of_cell? W ⟨b, 0, none⟩ h.c0
theorem Cel5.new (w : World) (x y : Value) (T : TypeId) : Cel5 (w.alloc (.cells #[x, y] T)) w.heap.size x y :=
  ⟨by rw [World.cell?_alloc_at _ _ _ _ rfl]; rfl, by rw [World.cell?_alloc_at _ _ _ _ rfl]; rfl, by rw [World.frozen?_alloc_at _ _ _ _ rfl], by rw [World.frozen?_alloc_at _ _ _ _ rfl]⟩
theorem Cel5.drew {W : World} {b : Nat} {x y : Value} (h : Cel5 W b x y) : Cel5 W.drew b x y := ⟨h.c0, h.c1, h.f0, h.f1⟩
theorem Cel5.put {W : World} {b : Nat} {x y : Value} (h : Cel5 W b x y) (u v : Value) : Cel5 ((W.setCell ⟨b, 0, none⟩ u).setCell ⟨b, 1, none⟩ v) b u v := by
  obtain ⟨k0, k1⟩ := told2 (u := u) (v := v) h.c0 h.c1
  exact ⟨k0, k1, by rw [World.frozen?_setCell, World.frozen?_setCell]; exact h.f0, by rw [World.frozen?_setCell, World.frozen?_setCell]; exact h.f1⟩
theorem Cel5.grown {W W' : World} {b : Nat} {x y : Value} {row : Option Nat} (h : Cel5 W b x y) (hg : W.grownBy W' row) (hr : some b ≠ row) : Cel5 W' b x y := by
  have hb : W'.heap[b]? = W.heap[b]? := hg.block b h.lt hr
  exact ⟨by rw [World.cell?_of_block (w := W) hb]; exact h.c0, by rw [World.cell?_of_block (w := W) hb]; exact h.c1, by rw [World.frozen?_of_block (w := W) hb]; exact h.f0, by rw [World.frozen?_of_block (w := W) hb]; exact h.f1⟩
/-- The row, if it has a member, lies in a block of which P holds. -/
def FromP (P : Nat → Prop) (A : Option Addr) (l : List Int) : Prop := ∀ ad, A = some ad → l ≠ [] → P ad.block
theorem FromP.nothing (P : Nat → Prop) (A : Option Addr) : FromP P A [] := fun _ _ h => absurd rfl h
theorem From.fromP {B : Nat} {P : Nat → Prop} {A : Option Addr} (h : From B A) (hP : ∀ b, B ≤ b → P b) (l : List Int) : FromP P A l := fun ad e _ => hP _ (h ad e)
theorem Row.turnedP {W W' : World} {P : Nat → Prop} {A : Option Addr} {n c b : Nat} {zs : List Int} (h : Row W A n c zs) (hf : FromP P A zs) (hP : ¬ P b) (hg : W.grownBy W' (some b)) : Row W' A n c zs := by
  refine ⟨h.len, h.cap, h.most, h.nil, fun i z hi => ?_⟩
  obtain ⟨b', off, e, hb, hc⟩ := h.row i z hi
  have hne := hf _ e (by intro e0; rw [e0] at hi; cases hi)
  simp only at hne
  exact ⟨b', off, e, Nat.lt_of_lt_of_le hb hg.size, (hg.cell_far ⟨b', off + i, Option.none⟩ hb (fun e => by injection e with e; simp only at e; subst e; exact hP hne)).trans hc⟩
/-- Of a row that is there, what P says of its block need be said of blocks that are there alone. -/
theorem FromP.imp {W : World} {P P' : Nat → Prop} {A : Option Addr} {n c : Nat} {zs : List Int} (h : FromP P A zs) (hr : Row W A n c zs) (hP : ∀ b, b < W.heap.size → P b → P' b) : FromP P' A zs := fun ad e hz => by
  cases zs with
  | nil => exact absurd rfl hz
  | cons z t =>
    obtain ⟨b', off, e', hb, _⟩ := hr.row 0 z rfl
    have := h ad e hz
    rw [e] at e'
    injection e' with e'
    subst e'
    exact hP _ hb this
/-- A row of the call's own stays where the arena alone is turned. -/
theorem Row.turned {W W' : World} {A : Option Addr} {n c b : Nat} {zs : List Int} (h : Row W A n c zs) (hf : From (b + 1) A) (hg : W.grownBy W' (some b)) : Row W' A n c zs := by
  refine ⟨h.len, h.cap, h.most, h.nil, fun i z hi => ?_⟩
  obtain ⟨b', off, e, hb, hc⟩ := h.row i z hi
  have hne := hf _ e
  simp only at hne
  exact ⟨b', off, e, Nat.lt_of_lt_of_le hb hg.size, (hg.cell_far ⟨b', off + i, none⟩ hb (fun e => by injection e with e; simp only at e; omega)).trans hc⟩
end Go.Proofs.Ythljecllmdbbbaa

