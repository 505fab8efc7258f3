/- Two cells of a block of the call's own: a variable that holds a struct of two words. -/
import Derived.Test.YtceboejhdgjgoaaKeep
namespace Go.Proofs.Ytceboejhdgjgoaa
open Go.RowKit
set_option linter.unusedVariables false

/-- Block b holds two cells that may be written. -/
structure Cel2 (W : World) (b : Nat) (x y : Value) : Prop where
  c0 : W.cell? ⟨b, 0, none⟩ = some x
  c1 : W.cell? ⟨b, 1, none⟩ = some y
  f0 : W.frozen? ⟨b, 0, none⟩ = false
  f1 : W.frozen? ⟨b, 1, none⟩ = false
theorem Cel2.step {W W' : World} {b : Nat} {x y : Value} (h : Cel2 W b x y) (hb : Below W.heap.size W W') : Cel2 W' b x y :=
  ⟨keepcell hb h.c0, keepcell hb h.c1, keepfree hb h.c0 h.f0, keepfree hb h.c1 h.f1⟩
theorem Cel2.lt {W : World} {b : Nat} {x y : Value} (h : Cel2 W b x y) : b < W.heap.size := World.block_lt_of_cell? W ⟨b, 0, none⟩ h.c0
theorem Cel2.new (w : World) (x y : Value) (T : TypeId) : Cel2 (w.alloc (.cells #[x, y] T)) w.heap.size x y :=
  ⟨by rw [World.cell?_alloc_at _ _ _ _ rfl]; rfl, by rw [World.cell?_alloc_at _ _ _ _ rfl]; rfl, by rw [World.frozen?_alloc_at _ _ _ _ rfl], by rw [World.frozen?_alloc_at _ _ _ _ rfl]⟩
theorem Cel2.drew {W : World} {b : Nat} {x y : Value} (h : Cel2 W b x y) : Cel2 W.drew b x y := ⟨h.c0, h.c1, h.f0, h.f1⟩
theorem Cel2.put {W : World} {b : Nat} {x y : Value} (h : Cel2 W b x y) (u v : Value) : Cel2 ((W.setCell ⟨b, 0, none⟩ u).setCell ⟨b, 1, none⟩ v) b u v := by
  obtain ⟨k0, k1⟩ := told2 (u := u) (v := v) h.c0 h.c1
  exact ⟨k0, k1, by rw [World.frozen?_setCell, World.frozen?_setCell]; exact h.f0, by rw [World.frozen?_setCell, World.frozen?_setCell]; exact h.f1⟩
theorem Cel2.grown {W W' : World} {b : Nat} {x y : Value} {row : Option Nat} (h : Cel2 W b x y) (hg : W.grownBy W' row) (hr : some b ≠ row) : Cel2 W' b x y := by
  have hb : W'.heap[b]? = W.heap[b]? := hg.block b h.lt hr
  exact ⟨by rw [World.cell?_of_block (w := W) hb]; exact h.c0, by rw [World.cell?_of_block (w := W) hb]; exact h.c1, by rw [World.frozen?_of_block (w := W) hb]; exact h.f0, by rw [World.frozen?_of_block (w := W) hb]; exact h.f1⟩
theorem Cel2.far {W : World} {b : Nat} {p : Addr} {x y u : Value} (h : Cel2 W b x y) (hne : p.block ≠ b) : Cel2 (W.setCell p u) b x y :=
  ⟨(World.cell?_setCell_other _ _ _ _ (fun e => hne (by rw [e]))).trans h.c0, (World.cell?_setCell_other _ _ _ _ (fun e => hne (by rw [e]))).trans h.c1, by rw [World.frozen?_setCell]; exact h.f0, by rw [World.frozen?_setCell]; exact h.f1⟩
theorem Cel2.set1 {W : World} {b : Nat} {x y : Value} (h : Cel2 W b x y) (v : Value) : Cel2 (W.setCell ⟨b, 1, none⟩ v) b x v :=
  ⟨by rw [World.cell?_setCell_other _ _ _ _ (fun e => by injection e with _ e; omega)]; exact h.c0, World.cell?_setCell_same' _ _ _ (by rw [h.c1]; rfl), by rw [World.frozen?_setCell]; exact h.f0, by rw [World.frozen?_setCell]; exact h.f1⟩
end Go.Proofs.Ytceboejhdgjgoaa

