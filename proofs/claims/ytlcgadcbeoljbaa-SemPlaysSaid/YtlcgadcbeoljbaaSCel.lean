/- The semaphores that a law keeps in its variables: two cells each. -/
import Derived.Test.YtlcgadcbeoljbaaSShown
namespace Go.Proofs.Ytlcgadcbeoljbaa
open Go.RowKit
set_option linter.unusedVariables false

/-- Block b holds a semaphore: two cells that may be written. -/
structure Cel (W : World) (b : Nat) (x y : Value) : Prop where
  c0 : W.cell? ⟨b, 0, none⟩ = some x
  c1 : W.cell? ⟨b, 1, none⟩ = some y
  f0 : W.frozen? ⟨b, 0, none⟩ = false
  f1 : W.frozen? ⟨b, 1, none⟩ = false
theorem Cel.step {W W' : World} {b : Nat} {x y : Value} (h : Cel W b x y) (hb : Below W.heap.size W W') : Cel W' b x y :=
  ⟨keepcell hb h.c0, keepcell hb h.c1, keepfree hb h.c0 h.f0, keepfree hb h.c1 h.f1⟩
theorem Cel.alloc {W : World} {b : Nat} {x y : Value} (h : Cel W b x y) (o : Obj) : Cel (W.alloc o) b x y := h.step (below_new W o)
theorem Cel.drewN {W : World} {b : Nat} {x y : Value} (h : Cel W b x y) (q : Nat) : Cel (W.drewN q) b x y := ⟨h.c0, h.c1, h.f0, h.f1⟩
theorem Cel.lt {W : World} {b : Nat} {x y : Value} (h : Cel W b x y) : b < W.heap.size := World.block_lt_of_cell? W ⟨b, 0, none⟩ h.c0
theorem Cel.new (w : World) (x y : Value) (T : TypeId) : Cel (w.alloc (.cells #[x, y] T)) w.heap.size x y :=
  ⟨by rw [World.cell?_alloc_at _ _ _ _ rfl]; rfl, by rw [World.cell?_alloc_at _ _ _ _ rfl]; rfl, by rw [World.frozen?_alloc_at _ _ _ _ rfl], by rw [World.frozen?_alloc_at _ _ _ _ rfl]⟩
theorem Cel.new' (w : World) (x y : Value) (T : TypeId) (b : Nat) (hb : w.heap.size = b) : Cel (w.alloc (.cells #[x, y] T)) b x y := by subst hb; exact Cel.new w x y T
/-- Written anew. -/
theorem Cel.put {W : World} {b : Nat} {x y : Value} (h : Cel W b x y) (u v : Value) : Cel ((W.setCell ⟨b, 0, none⟩ u).setCell ⟨b, 1, none⟩ v) b u v := by
  obtain ⟨k0, k1⟩ := told2 (u := u) (v := v) h.c0 h.c1
  exact ⟨k0, k1, by rw [World.frozen?_setCell, World.frozen?_setCell]; exact h.f0, by rw [World.frozen?_setCell, World.frozen?_setCell]; exact h.f1⟩
/-- Another block is written. -/
theorem Cel.far {W : World} {b b' : Nat} {x y u v : Value} (h : Cel W b x y) (hne : b ≠ b') : Cel ((W.setCell ⟨b', 0, none⟩ u).setCell ⟨b', 1, none⟩ v) b x y := by
  refine ⟨?_, ?_, by rw [World.frozen?_setCell, World.frozen?_setCell]; exact h.f0, by rw [World.frozen?_setCell, World.frozen?_setCell]; exact h.f1⟩
  · rw [World.cell?_setCell_other _ _ _ _ (fun e => by injection e with e; omega), World.cell?_setCell_other _ _ _ _ (fun e => by injection e with e; omega)]; exact h.c0
  · rw [World.cell?_setCell_other _ _ _ _ (fun e => by injection e with e; omega), World.cell?_setCell_other _ _ _ _ (fun e => by injection e with e; omega)]; exact h.c1
theorem Row.put {W : World} {A : Option Addr} {n c b : Nat} {zs : List Int} {u v : Value} (h : Row W A n c zs) (hf : From (b + 1) A) : Row ((W.setCell ⟨b, 0, none⟩ u).setCell ⟨b, 1, none⟩ v) A n c zs := (h.set hf).set hf
theorem Row.below_alloc {W : World} {A : Option Addr} {n c : Nat} {zs : List Int} (h : Row W A n c zs) (o : Obj) : Row (W.alloc o) A n c zs := h.below (below_new W o)
theorem below_put {B : Nat} {w W : World} {b : Nat} {u v : Value} (h : Below B w W) (hb : B ≤ b) : Below B w ((W.setCell ⟨b, 0, none⟩ u).setCell ⟨b, 1, none⟩ v) := (h.setCell hb u).setCell hb v
/-- A semaphore in a variable, with its row. -/
structure RI (W : World) (b : Nat) (y : Int) (A : Option Addr) (n c : Nat) (l : List Int) : Prop where
  cel : Cel W b (.int .i64 y) (.slice A n c)
  row : Row W A n c l
theorem RI.step {W W' : World} {b : Nat} {y : Int} {A : Option Addr} {n c : Nat} {l : List Int} (h : RI W b y A n c l) (hb : Below W.heap.size W W') : RI W' b y A n c l := ⟨h.cel.step hb, h.row.below hb⟩
theorem RI.new {w : World} {y : Int} {A : Option Addr} {n c : Nat} {l : List Int} (T : TypeId) (h : Row w A n c l) : RI (w.alloc (.cells #[.int .i64 y, .slice A n c] T)) w.heap.size y A n c l := ⟨Cel.new w _ _ T, h.below_alloc _⟩
theorem Row.step {W W' : World} {A : Option Addr} {n c : Nat} {l : List Int} (h : Row W A n c l) (hb : Below W.heap.size W W') : Row W' A n c l := h.below hb
/-- What was there at the call is as it was. -/
structure Bl (w W : World) : Prop where
  b : Below w.heap.size w W
theorem Bl.step {w W W' : World} (h : Bl w W) (hb : Below W.heap.size W W') : Bl w W' := ⟨h.b.trans (hb.mono h.b.size)⟩
theorem below_then {W w' : World} (hb : Below W.heap.size W w') (o : Obj) : Below W.heap.size W (w'.alloc o) := hb.trans ((below_new w' o).mono hb.size)
theorem held_trans {W9 W w' : World} (h : Below W9.heap.size W9 W) (hb : Below W.heap.size W w') : Below W9.heap.size W9 w' := h.trans (hb.mono h.size)
theorem Cel.grown {W W' : World} {b : Nat} {x y : Value} {row : Option Nat} (h : Cel W b x y) (hg : W.grownBy W' row) (hr : ∀ k, row = some k → b ≠ k) : Cel W' b x y := by
  have hb : W'.heap[b]? = W.heap[b]? := hg.block b h.lt (fun e => hr b e.symm rfl)
  exact ⟨by rw [World.cell?_of_block (w := W) hb]; exact h.c0, by rw [World.cell?_of_block (w := W) hb]; exact h.c1, by rw [World.frozen?_of_block (w := W) hb]; exact h.f0, by rw [World.frozen?_of_block (w := W) hb]; exact h.f1⟩
theorem own_put {W : World} {base n b : Nat} {e : TypeId} {v u1 u2 : Value} {xs : List Value} (h : W.ownsRow base e 1 v n xs) (hb : b < base) : ((W.setCell ⟨b, 0, none⟩ u1).setCell ⟨b, 1, none⟩ u2).ownsRow base e 1 v n xs := ownsRow_setCell_below (ownsRow_setCell_below h hb u1) hb u2
theorem mod_nat (m : Nat) {z : Int} (h : 0 ≤ z) (hm : 0 < m) : ∃ r : Nat, z.tmod m = r ∧ z % m = r ∧ r < m := by
  obtain ⟨n, rfl⟩ := Int.eq_ofNat_of_zero_le h
  exact ⟨n % m, by rw [Int.tmod_eq_emod_of_nonneg h]; rfl, rfl, Nat.mod_lt _ hm⟩
end Go.Proofs.Ytlcgadcbeoljbaa

