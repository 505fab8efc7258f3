/- Cells that are kept, boxes of arguments and of results, where an address lies. -/
import Derived.Test.YtceboejhdgjgoaaBase
import Derived.ArgAppend
import Derived.Deep.RegionLawGrows
import Derived.Deep.RegionHeld3
import Derived.Deep.AppendLies
import Derived.Deep.DeepCutAuto
import Derived.Maps.AppendAt
import Derived.Laws.AppendOwn
import Derived.Laws.OwnMore
namespace Go.Proofs.Ytceboejhdgjgoaa
open Go.RowKit
set_option linter.unusedVariables false

theorem add_lit' (b o j : Nat) : ((⟨b, o, none⟩ : Addr).add j) = ⟨b, o + j, none⟩ := by
  unfold Addr.add; split <;> simp_all
theorem below_of_drew {B : Nat} {w w' : World} (h : Below B w.drew w') : Below B w w' := ⟨h.os, h.tape, h.output, h.size, h.block⟩
theorem below_of_drewN {B : Nat} {w w' : World} (q : Nat) (h : Below B (w.drewN q) w') : Below B w w' := ⟨h.os, h.tape, h.output, h.size, h.block⟩
theorem below_new (w : World) (o : Obj) : Below w.heap.size w (w.alloc o) := (Below.refl _ _).alloc (Nat.le_refl _) o
/-- A cell that was there is as it was. -/
theorem keepcell {w w' : World} {a : Addr} {v : Value} (hb : Below w.heap.size w w') (h : w.cell? a = some v) : w'.cell? a = some v := (hb.cell (World.block_lt_of_cell? _ _ h)).trans h
theorem keepfree {w w' : World} {a : Addr} {v : Value} (hb : Below w.heap.size w w') (h : w.cell? a = some v) (hf : w.frozen? a = false) : w'.frozen? a = false := (hb.frozen (World.block_lt_of_cell? _ _ h)).trans hf
theorem keepcell_drew {w w' : World} {a : Addr} {v : Value} (hb : Below w.drew.heap.size w.drew w') (h : w.cell? a = some v) : w'.cell? a = some v := keepcell (below_of_drew hb) h
theorem keepfree_drew {w w' : World} {a : Addr} {v : Value} (hb : Below w.drew.heap.size w.drew w') (h : w.cell? a = some v) (hf : w.frozen? a = false) : w'.frozen? a = false := keepfree (below_of_drew hb) h hf
/-- The box of an argument of two cells, and behind it the place of a result of two, in a world that has grown. -/
structure Bx (w W : World) (x y u v : Value) : Prop where
  c0 : W.cell? ⟨w.heap.size, 0, Option.none⟩ = some x
  c1 : W.cell? ⟨w.heap.size, 1, Option.none⟩ = some y
  r0 : W.cell? ⟨w.heap.size + 1, 0, Option.none⟩ = some u
  r1 : W.cell? ⟨w.heap.size + 1, 1, Option.none⟩ = some v
  f0 : W.frozen? ⟨w.heap.size + 1, 0, Option.none⟩ = false
  f1 : W.frozen? ⟨w.heap.size + 1, 1, Option.none⟩ = false
  below : Below w.heap.size w W
  size : w.heap.size + 2 ≤ W.heap.size
theorem Bx.start (w : World) (x y u v : Value) (T U : TypeId) : ∃ W, W = (w.alloc (.cells #[x, y] T)).alloc (.cells #[u, v] U) ∧ Bx w W x y u v := by
  refine ⟨_, rfl, ?_, ?_, ?_, ?_, ?_, ?_, ((Below.refl _ _).alloc (Nat.le_refl _) _).alloc (by simp) _, by simp⟩
  · rw [World.cell?_alloc_lt _ _ _ (by simp), World.cell?_alloc_at _ _ _ _ rfl]; rfl
  · rw [World.cell?_alloc_lt _ _ _ (by simp), World.cell?_alloc_at _ _ _ _ rfl]; rfl
  · rw [World.cell?_alloc_at _ _ _ _ (by simp)]; rfl
  · rw [World.cell?_alloc_at _ _ _ _ (by simp)]; rfl
  · rw [World.frozen?_alloc_at _ _ _ _ (by simp)]
  · rw [World.frozen?_alloc_at _ _ _ _ (by simp)]
theorem Bx.drew {w W : World} {x y u v : Value} (h : Bx w W x y u v) : Bx w W.drew x y u v := ⟨h.c0, h.c1, h.r0, h.r1, h.f0, h.f1, h.below.drew, h.size⟩
theorem Bx.step {w W W' : World} {x y u v : Value} (h : Bx w W x y u v) (hb : Below W.heap.size W W') : Bx w W' x y u v :=
  ⟨keepcell hb h.c0, keepcell hb h.c1, keepcell hb h.r0, keepcell hb h.r1, keepfree hb h.r0 h.f0, keepfree hb h.r1 h.f1, h.below.trans (hb.mono h.below.size), Nat.le_trans h.size hb.size⟩
theorem icells_one (zs : List Int) : ∀ u ∈ zs.map (Value.int .i64), u.oneCell' = true := by
  intro u hu
  obtain ⟨x, _, rfl⟩ := List.mem_map.1 hu
  rfl
/-- The address lies in memory from block B on. -/
def From (B : Nat) (A : Option Addr) : Prop := ∀ ad, A = some ad → B ≤ ad.block
theorem From.none (B : Nat) : From B Option.none := fun _ e => by cases e
theorem From.mono {B B' : Nat} {A : Option Addr} (h : From B A) (hB : B' ≤ B) : From B' A := fun ad e => Nat.le_trans hB (h ad e)
/-- Two cells of one block, written. -/
theorem told2 {W : World} {X : Nat} {a b u v : Value} (h0 : W.cell? ⟨X, 0, Option.none⟩ = some a) (h1 : W.cell? ⟨X, 1, Option.none⟩ = some b) :
    ((W.setCell ⟨X, 0, Option.none⟩ u).setCell ⟨X, 1, Option.none⟩ v).cell? ⟨X, 0, Option.none⟩ = some u ∧ ((W.setCell ⟨X, 0, Option.none⟩ u).setCell ⟨X, 1, Option.none⟩ v).cell? ⟨X, 1, Option.none⟩ = some v := by
  refine ⟨?_, ?_⟩
  · rw [World.cell?_setCell_other _ _ _ _ (fun e => by injection e with _ e; omega)]
    exact World.cell?_setCell_same' _ _ _ (by rw [h0]; rfl)
  · exact World.cell?_setCell_same' _ _ _ (by rw [World.cell?_setCell_other _ _ _ _ (fun e => by injection e with _ e; omega), h1]; rfl)
end Go.Proofs.Ytceboejhdgjgoaa

