/- Contracts and plain mathematics, put together by program (wip/merge.py) out of: Base Frame Ints Keep Plain In RPlain RRow NRefused. -/
import Derived.Test.YtcoccegmkcdeiaaDoorRows
import Derived.WalkKit
import Derived.Below
import Derived.OwnWalk
import Derived.Outline
import Derived.Deep.QuietTactic
import Derived.BigQuiet
import Derived.Lib.Hide
import Derived.Deep.Draws
import Derived.ProofKit
import Derived.OpenShut
import Derived.ChangeOld
import Derived.Deep.SlicePairs
import Derived.ArgAppend
import Derived.Deep.RegionLawGrows
import Derived.Deep.RegionHeld3
import Derived.Deep.AppendLies
import Derived.Deep.DeepCutAuto
import Derived.Maps.AppendAt
import Derived.Laws.AppendOwn
import Derived.Laws.OwnMore
/- Small words on memory, used by the proofs of layer 1: a slice of numbers, and a slice of vertices (pairs of numbers), that reads as a list. -/
namespace Go.Proofs.YtcoccegmkcdeiaaDoor
open Go.RowKit

/-- The numbers that lie behind a slice's address, one cell each, below block B. -/
def IRow (w : World) (B : Nat) (A : Option Addr) (zs : List Int) : Prop :=
  ∀ i z, zs[i]? = some z → ∃ b off, A = some ⟨b, off, none⟩ ∧ b < B ∧ w.cell? ⟨b, off + i, none⟩ = some (.int .i64 z)

/-- The vertices that lie behind a slice's address, two cells each, below block B. -/
def VRow (w : World) (B : Nat) (A : Option Addr) (vs : List (Int × Int)) : Prop :=
  ∀ i x, vs[i]? = some x → ∃ b off, A = some ⟨b, off, none⟩ ∧ b < B ∧ w.cell? ⟨b, off + i * 2, none⟩ = some (.int .i64 x.1) ∧ w.cell? ⟨b, off + i * 2 + 1, none⟩ = some (.int .i64 x.2)

theorem IRow.keep {w w' : World} {B : Nat} {A : Option Addr} {zs : List Int} (h : IRow w B A zs) (hk : ∀ p : Addr, p.block < B → w'.cell? p = w.cell? p) : IRow w' B A zs := by
  intro i z hi
  obtain ⟨b, off, e, hb, hc⟩ := h i z hi
  exact ⟨b, off, e, hb, (hk _ hb).trans hc⟩
theorem VRow.keep {w w' : World} {B : Nat} {A : Option Addr} {vs : List (Int × Int)} (h : VRow w B A vs) (hk : ∀ p : Addr, p.block < B → w'.cell? p = w.cell? p) : VRow w' B A vs := by
  intro i z hi
  obtain ⟨b, off, e, hb, hc, hd⟩ := h i z hi
  exact ⟨b, off, e, hb, (hk _ hb).trans hc, (hk _ hb).trans hd⟩
theorem IRow.more {w : World} {B B' : Nat} {A : Option Addr} {zs : List Int} (h : IRow w B A zs) (hB : B ≤ B') : IRow w B' A zs := by
  intro i z hi
  obtain ⟨b, off, e, hb, hc⟩ := h i z hi
  exact ⟨b, off, e, by omega, hc⟩
theorem VRow.more {w : World} {B B' : Nat} {A : Option Addr} {vs : List (Int × Int)} (h : VRow w B A vs) (hB : B ≤ B') : VRow w B' A vs := by
  intro i z hi
  obtain ⟨b, off, e, hb, hc⟩ := h i z hi
  exact ⟨b, off, e, by omega, hc⟩
theorem IRow.below {w w' : World} {B : Nat} {A : Option Addr} {zs : List Int} (h : IRow w B A zs) (hb : Below B w w') : IRow w' B A zs := h.keep fun _ hp => hb.cell hp
theorem VRow.below {w w' : World} {B : Nat} {A : Option Addr} {vs : List (Int × Int)} (h : VRow w B A vs) (hb : Below B w w') : VRow w' B A vs := h.keep fun _ hp => hb.cell hp
/-- A row that a call has made for itself, read as numbers. -/
theorem IRow.of_own {w : World} {base n c : Nat} {e : TypeId} {A : Option Addr} {zs : List Int} (h : w.ownsRow base e 1 (.slice A n c) n (zs.map (Value.int .i64))) : IRow w w.heap.size A zs := by
  intro i z hi
  have hl : i < n := by
    have h1 := h.1
    have h2 := (List.getElem?_eq_some_iff.1 hi).1
    simp at h1; omega
  rcases h.2 with ⟨_, h0⟩ | ⟨g, cap, cur, hv, _, hh, _⟩
  · omega
  · injection hv with h1 h2 h3
    subst h1
    refine ⟨_, _, rfl, (Array.getElem?_eq_some_iff.1 hh).1, ?_⟩
    have := h.cells (g := g) rfl i (.int .i64 z) (by simp [hi])
    rw [show ((⟨g, 0, none⟩ : Addr).add i) = ⟨g, 0 + i, none⟩ from by unfold Addr.add; split <;> simp_all] at this
    exact this
theorem own_form {w : World} {base n : Nat} {e : TypeId} {size : Nat} {v : Value} {xs : List Value} (h : w.ownsRow base e size v n xs) : ∃ A c, v = .slice A n c := by
  rcases h.2 with ⟨rfl, rfl⟩ | ⟨g, cap, cur, rfl, _⟩
  · exact ⟨none, 0, rfl⟩
  · exact ⟨some ⟨g, 0, none⟩, cap, rfl⟩
theorem own_len {w : World} {base n : Nat} {e : TypeId} {v : Value} {zs : List Int} (h : w.ownsRow base e 1 v n (zs.map (Value.int .i64))) : zs.length = n := by
  simpa using h.1
theorem own_below {w w' : World} {base n : Nat} {e : TypeId} {size : Nat} {v : Value} {xs : List Value} (h : w.ownsRow base e size v n xs) (hb : Below w.heap.size w w') : w'.ownsRow base e size v n xs :=
  h.kept (row := none) ⟨hb.os, hb.tape, hb.output, hb.size, fun k hk _ => hb.block k hk⟩ (by cases v.ownBlock <;> simp)
theorem one_cell (w : World) (u : Value) (e : TypeId) : ∀ j x, [u][j]? = some x → (w.alloc (.cells #[u] e)).cell? ((⟨w.heap.size, 0, none⟩ : Addr).add j) = some x := by
  intro j x hj
  match j, hj with
  | 0, hj => simp at hj; subst hj; simp [Addr.add]
/-- The element types' rows of the table. -/
theorem info_int : (Tryd.prog.info? 3).map (fun i => (i.zero, i.size, i.bytes)) = some (some (.int .i64 0), 1, 8) := by kernel_rfl
theorem info_vx : (Tryd.prog.info? 78).map (fun i => (i.zero, i.size, i.bytes)) = some (some (.agg #[.int .i64 0, .int .i64 0]), 2, 16) := by kernel_rfl

theorem ret_bool {a b : Bool} (h : a = b) : Ending.returned (.bool a) = .returned (.bool b) := by rw [h]
theorem ret_int {k : IntKind} {a b : Int} (h : a = b) : Ending.returned (.int k a) = .returned (.int k b) := by rw [h]
theorem below_drewN {B : Nat} {a w : World} (h : Below B a w) (n : Nat) : Below B a (w.drewN n) := ⟨h.os, h.tape, h.output, h.size, h.block⟩
/-- What a call leaves that has made a list of numbers: the list in new memory, all else as it was. -/
def Made (w0 : World) (zs : List Int) (e : Ending) (w' : World) : Prop :=
  ∃ A c, e = .returned (.slice A zs.length c) ∧ IRow w' w'.heap.size A zs ∧ Below w0.heap.size w0 w'
theorem made_of {w w1 w' : World} {v : Value} {zs : List Int} {ty : TypeId} (hb : Below w.heap.size w w1) (hown : w'.ownsRow w1.heap.size ty 1 v zs.length (zs.map (Value.int .i64))) (hb1 : Below w1.heap.size w1 w') : Made w zs (.returned v) w' := by
  obtain ⟨A, c, rfl⟩ := own_form hown
  exact ⟨A, c, rfl, IRow.of_own hown, hb.trans (hb1.mono hb.size)⟩
/-- The same, and the list's capacity is no less than its length. -/
def MadeC (w0 : World) (zs : List Int) (e : Ending) (w' : World) : Prop :=
  ∃ A c, e = .returned (.slice A zs.length c) ∧ IRow w' w'.heap.size A zs ∧ Below w0.heap.size w0 w' ∧ zs.length ≤ c ∧ c ≤ 9223372036854775807
theorem MadeC.made {w0 w' : World} {zs : List Int} {e : Ending} (h : MadeC w0 zs e w') : Made w0 zs e w' := by
  obtain ⟨A, c, h1, h2, h3, _⟩ := h
  exact ⟨A, c, h1, h2, h3⟩
theorem madeC_of {w w1 w' : World} {v : Value} {zs : List Int} {ty : TypeId} (hb : Below w.heap.size w w1) (hown : w'.ownsRow w1.heap.size ty 1 v zs.length (zs.map (Value.int .i64))) (hb1 : Below w1.heap.size w1 w') : MadeC w zs (.returned v) w' := by
  have h2 := hown.2
  rcases h2 with ⟨rfl, h0⟩ | ⟨g, cap, cur, rfl, _, _, hnc, hcm, _⟩
  · rw [h0] at hown
    exact ⟨none, 0, by rw [h0], IRow.of_own hown, hb.trans (hb1.mono hb.size), by omega, by omega⟩
  · exact ⟨some ⟨g, 0, none⟩, cap, rfl, IRow.of_own hown, hb.trans (hb1.mono hb.size), hnc, by unfold maxLen at hcm; omega⟩
/-- A number that an int may hold. -/
def In64 (n : Int) : Prop := -9223372036854775808 ≤ n ∧ n ≤ 9223372036854775807
def Fit (vs : List (Int × Int)) : Prop := ∀ x ∈ vs, In64 x.1 ∧ In64 x.2
end Go.Proofs.YtcoccegmkcdeiaaDoor


/- A slice of vertices that came in as an argument, opened: its address leads to the cells of a list of vertices, each number an int. -/
namespace Go.Proofs.YtcoccegmkcdeiaaDoor
open Go.ChangeShapes Go.WideShapes Go.ChangeAt Go.RowKit
set_option linter.unusedVariables false

theorem own : ownKnob Tryd.prog.godebug = none := by kernel_rfl
theorem laidOut : laidOutB Tryd.prog = true := by kernel_rfl
theorem in64_of_wf {n : Int} (h : (Lit.int .i64 n).wf = true) : In64 n := by
  have : -9223372036854775808 ≤ n ∧ n ≤ 9223372036854775807 := by simpa [Lit.wf, IntKind.min, IntKind.max, IntKind.signed, IntKind.bits] using h
  exact this

theorem open_vs {H : Type} {enc : TypeId × Value → H} {W : World} {base : Nat} {spare : Nat → Bool} {held : Bool} {a0 : Option Addr} {len cap : Nat} {x : DataW H × List MemPlace} {fuel : Nat}
    (h : DataW.trod enc Tryd.prog W base spare held fuel 22 [.slice a0 len cap] = some x) :
    len ≤ 9223372036854775807 ∧ (len ≤ cap ∧ cap ≤ 9223372036854775807) ∧ ∃ vs : List (Int × Int), vs.length = len ∧ Fit vs ∧ VRow W W.heap.size a0 vs := by
  rcases Go.Deep.open_slice_pairs Tryd.underlying22 Tryd.underlying78 (by kernel_rfl) rfl rfl (by kernel_rfl) (by kernel_rfl) h with ⟨hcs, _⟩ | ⟨a, l, c, m, n, V0, V1, D0, D1, P0, P1, hcs, _, hl, hm, hmm, _, hi⟩
  · simp at hcs
    obtain ⟨rfl, rfl, rfl⟩ := hcs
    exact ⟨by omega, ⟨by omega, by omega⟩, [], rfl, fun x hx => by simp at hx, fun i x hi => by simp at hi⟩
  · simp only [List.cons.injEq, Value.slice.injEq, and_true] at hcs
    obtain ⟨rfl, rfl, rfl⟩ := hcs
    have hlm : len ≤ m := by rw [hmm]; split <;> omega
    have each : ∀ i, i < len → ∃ q : Int × Int, W.cell? (a.add (i * 2)) = some (.int .i64 q.1) ∧ W.cell? (a.add (i * 2 + 1)) = some (.int .i64 q.2) ∧ In64 q.1 ∧ In64 q.2 := by
      intro i hil
      obtain ⟨h0, h1, t0, t1⟩ := hi i (by omega)
      obtain ⟨p, e0, _, w0⟩ := DataW.trod_int Tryd.underlying3 t0
      obtain ⟨q, e1, _, w1⟩ := DataW.trod_int Tryd.underlying3 t1
      injection e0 with e0 _
      injection e1 with e1 _
      exact ⟨(p, q), by rw [h0, e0], by rw [h1, e1], in64_of_wf w0, in64_of_wf w1⟩
    obtain ⟨f, hf⟩ := Go.Deep.choose_lt each
    refine ⟨by unfold maxLen at hm; omega, ⟨hl, by unfold maxLen at hm; omega⟩, (List.range len).map f, by simp, ?_, ?_⟩
    · intro x hx
      obtain ⟨i, hir, rfl⟩ := List.mem_map.1 hx
      exact (hf i (List.mem_range.1 hir)).2.2
    · intro i x hx
      have hil : i < len := by have := (List.getElem?_eq_some_iff.1 hx).1; simpa using this
      have e : f i = x := by
        rw [List.getElem?_map, List.getElem?_range hil] at hx
        injection hx
      obtain ⟨h0, h1, _, _⟩ := hf i hil
      rw [e] at h0 h1
      have hs : a.spot = none := by
        obtain ⟨ab, ao, sp⟩ := a
        have := World.cell?_spot (hf 0 (by omega)).1
        simpa [Addr.add] using this
      obtain ⟨ab, ao, sp⟩ := a
      simp only at hs
      subst hs
      have e0 : ((⟨ab, ao, none⟩ : Addr).add (i * 2)) = ⟨ab, ao + i * 2, none⟩ := by
        unfold Addr.add
        split
        · rename_i hz; rw [show i * 2 = 0 by simpa using hz]; rfl
        · rfl
      have e1 : ((⟨ab, ao, none⟩ : Addr).add (i * 2 + 1)) = ⟨ab, ao + i * 2 + 1, none⟩ := by
        unfold Addr.add
        rw [if_neg (by simp)]
        simp [Nat.add_assoc]
      rw [e0] at h0
      rw [e1] at h1
      exact ⟨ab, ao, rfl, World.block_lt_of_cell? (a := ⟨ab, ao + i * 2, none⟩) _ h0, h0, h1⟩
end Go.Proofs.YtcoccegmkcdeiaaDoor


/- The comparison of two lists that are one, by its contract. -/
namespace Go.Proofs.YtcoccegmkcdeiaaDoor
open Go.RowKit
set_option linter.unusedVariables false

/-- Two lists that are one: true; and nothing that was there is another. -/
theorem ints_same (A B : Option Addr) (n c d : Nat) (zs : List Int) (w : World) (hn : Hid (zs.length = n)) (hl : n ≤ 9223372036854775807)
    (ha : IRow w w.heap.size A zs) (hb : IRow w w.heap.size B zs) :
    Calls Tryd.prog 13 #[.slice A n c, .slice B n d] w fun e w' => e = .returned (.bool true) ∧ Below w.heap.size w w' := by
  go_enter Tryd.func13, Tryd.ntmps13
  go_wp2
  go_loopw [5] (fun i wr => ∃ k : Nat, k ≤ n ∧ i = .int .i64 k ∧ Below w.heap.size w wr)
    (fun i _ => n - (intOf i).toNat)
  case atStart => exact ⟨0, Nat.zero_le _, rfl, Below.refl _ _⟩
  case round =>
    obtain ⟨k, hk, rfl, hbe⟩ := hrel
    by_cases hlt : k < n
    · obtain ⟨x, hx⟩ : ∃ x, zs[k]? = some x := ⟨_, List.getElem?_eq_getElem (by have := hn.out; omega)⟩
      obtain ⟨b, off, hA, hbk, hc⟩ := (ha.below hbe) k x hx
      obtain ⟨b', off', hB, hbk', hc'⟩ := (hb.below hbe) k x hx
      subst hA
      subst hB
      clear hx
      go_wp2
      go_quiet (fail)
      go_wp2
      go_roundw
      case rel => exact ⟨k + 1, by omega, by go_num, below_drewN hbe _⟩
      case measure => simp [intOf]; omega
    · go_wp2
      go_ret
      exact ⟨rfl, hbe⟩
end Go.Proofs.YtcoccegmkcdeiaaDoor


/- Cells that are kept, boxes of arguments and of results, where an address lies. -/
namespace Go.Proofs.YtcoccegmkcdeiaaDoor
open Go.RowKit
set_option linter.unusedVariables false

theorem add_lit' (b o j : Nat) : ((⟨b, o, none⟩ : Addr).add j) = ⟨b, o + j, none⟩ := by
  unfold Addr.add; split <;> simp_all
theorem below_of_drew {B : Nat} {w w' : World} (h : Below B w.drew w') : Below B w w' := ⟨h.os, h.tape, h.output, h.size, h.block⟩
theorem below_of_drewN {B : Nat} {w w' : World} (q : Nat) (h : Below B (w.drewN q) w') : Below B w w' := ⟨h.os, h.tape, h.output, h.size, h.block⟩
theorem below_new (w : World) (o : Obj) : Below w.heap.size w (w.alloc o) := (Below.refl _ _).alloc (Nat.le_refl _) o
theorem held_trans {W9 W w' : World} (h : Below W9.heap.size W9 W) (hb : Below W.heap.size W w') : Below W9.heap.size W9 w' := h.trans (hb.mono h.size)
/-- A cell that was there is as it was. -/
theorem keepcell {w w' : World} {a : Addr} {v : Value} (hb : Below w.heap.size w w') (h : w.cell? a = some v) : w'.cell? a = some v := (hb.cell (World.block_lt_of_cell? _ _ h)).trans h
theorem keepfree {w w' : World} {a : Addr} {v : Value} (hb : Below w.heap.size w w') (h : w.cell? a = some v) (hf : w.frozen? a = false) : w'.frozen? a = false := (hb.frozen (World.block_lt_of_cell? _ _ h)).trans hf
theorem keepcell_drew {w w' : World} {a : Addr} {v : Value} (hb : Below w.drew.heap.size w.drew w') (h : w.cell? a = some v) : w'.cell? a = some v := keepcell (below_of_drew hb) h
theorem keepfree_drew {w w' : World} {a : Addr} {v : Value} (hb : Below w.drew.heap.size w.drew w') (h : w.cell? a = some v) (hf : w.frozen? a = false) : w'.frozen? a = false := keepfree (below_of_drew hb) h hf
/-- The box of an argument of two cells, and behind it the place of a result of two, in a world that has grown. -/
structure Bx (w W : World) (x y u v : Value) : Prop where
  c0 : W.cell? ⟨w.heap.size, 0, Option.none⟩ = some x
  c1 : W.cell? ⟨w.heap.size, 1, Option.none⟩ = some y
  r0 : W.cell? ⟨w.heap.size + 1, 0, Option.none⟩ = some u
  r1 : W.cell? ⟨w.heap.size + 1, 1, Option.none⟩ = some v
  f0 : W.frozen? ⟨w.heap.size + 1, 0, Option.none⟩ = false
  f1 : W.frozen? ⟨w.heap.size + 1, 1, Option.none⟩ = false
  below : Below w.heap.size w W
  size : w.heap.size + 2 ≤ W.heap.size
theorem Bx.start (w : World) (x y u v : Value) (T U : TypeId) : ∃ W, W = (w.alloc (.cells #[x, y] T)).alloc (.cells #[u, v] U) ∧ Bx w W x y u v := by
  refine ⟨_, rfl, ?_, ?_, ?_, ?_, ?_, ?_, ((Below.refl _ _).alloc (Nat.le_refl _) _).alloc (by simp) _, by simp⟩
  · rw [World.cell?_alloc_lt _ _ _ (by simp), World.cell?_alloc_at _ _ _ _ rfl]; rfl
  · rw [World.cell?_alloc_lt _ _ _ (by simp), World.cell?_alloc_at _ _ _ _ rfl]; rfl
  · rw [World.cell?_alloc_at _ _ _ _ (by simp)]; rfl
  · rw [World.cell?_alloc_at _ _ _ _ (by simp)]; rfl
  · rw [World.frozen?_alloc_at _ _ _ _ (by simp)]
  · rw [World.frozen?_alloc_at _ _ _ _ (by simp)]
theorem Bx.drew {w W : World} {x y u v : Value} (h : Bx w W x y u v) : Bx w W.drew x y u v := ⟨h.c0, h.c1, h.r0, h.r1, h.f0, h.f1, h.below.drew, h.size⟩
theorem Bx.step {w W W' : World} {x y u v : Value} (h : Bx w W x y u v) (hb : Below W.heap.size W W') : Bx w W' x y u v :=
  ⟨keepcell hb h.c0, keepcell hb h.c1, keepcell hb h.r0, keepcell hb h.r1, keepfree hb h.r0 h.f0, keepfree hb h.r1 h.f1, h.below.trans (hb.mono h.below.size), Nat.le_trans h.size hb.size⟩
theorem icells_one (zs : List Int) : ∀ u ∈ zs.map (Value.int .i64), u.oneCell' = true := by
  intro u hu
  obtain ⟨x, _, rfl⟩ := List.mem_map.1 hu
  rfl
/-- The address lies in memory from block B on. -/
def From (B : Nat) (A : Option Addr) : Prop := ∀ ad, A = some ad → B ≤ ad.block
theorem From.none (B : Nat) : From B Option.none := fun _ e => by cases e
theorem From.mono {B B' : Nat} {A : Option Addr} (h : From B A) (hB : B' ≤ B) : From B' A := fun ad e => Nat.le_trans hB (h ad e)
/-- Two cells of one block, written. -/
theorem told2 {W : World} {X : Nat} {a b u v : Value} (h0 : W.cell? ⟨X, 0, Option.none⟩ = some a) (h1 : W.cell? ⟨X, 1, Option.none⟩ = some b) :
    ((W.setCell ⟨X, 0, Option.none⟩ u).setCell ⟨X, 1, Option.none⟩ v).cell? ⟨X, 0, Option.none⟩ = some u ∧ ((W.setCell ⟨X, 0, Option.none⟩ u).setCell ⟨X, 1, Option.none⟩ v).cell? ⟨X, 1, Option.none⟩ = some v := by
  refine ⟨?_, ?_⟩
  · rw [World.cell?_setCell_other _ _ _ _ (fun e => by injection e with _ e; omega)]
    exact World.cell?_setCell_same' _ _ _ (by rw [h0]; rfl)
  · exact World.cell?_setCell_same' _ _ _ (by rw [World.cell?_setCell_other _ _ _ _ (fun e => by injection e with _ e; omega), h1]; rfl)
end Go.Proofs.YtcoccegmkcdeiaaDoor


/- Layer 1 in plain mathematics: vertices as pairs of numbers (the Parent, the Level); what the document says of them. -/
namespace Go.Proofs.YtcoccegmkcdeiaaDoor.Tp
/-- The numbers of the elements that are as asked, rising, from place k on. -/
def thoseF (p : Int × Int → Bool) : Nat → List (Int × Int) → List Int
  | _, [] => []
  | k, x :: xs => if p x then (k : Int) :: thoseF p (k + 1) xs else thoseF p (k + 1) xs
def those (p : Int × Int → Bool) (vs : List (Int × Int)) : List Int := thoseF p 0 vs
theorem thoseF_snoc (p : Int × Int → Bool) (x : Int × Int) : ∀ (xs : List (Int × Int)) (k : Nat), thoseF p k (xs ++ [x]) = thoseF p k xs ++ if p x then [((k + xs.length : Nat) : Int)] else [] := by
  intro xs
  induction xs with
  | nil => intro k; simp [thoseF]
  | cons y ys ih =>
    intro k
    simp only [List.cons_append, thoseF, ih, List.length_cons]
    rw [show k + 1 + ys.length = k + (ys.length + 1) from by omega]
    split <;> simp
theorem take_snoc {vs : List (Int × Int)} {k : Nat} {x : Int × Int} (h : vs[k]? = some x) : vs.take (k + 1) = vs.take k ++ [x] := by
  rw [List.take_add_one, h]; rfl
theorem those_hit {p : Int × Int → Bool} {vs : List (Int × Int)} {k : Nat} {x : Int × Int} (h : vs[k]? = some x) (hp : p x = true) : those p (vs.take (k + 1)) = those p (vs.take k) ++ [(k : Int)] := by
  have hl := (List.getElem?_eq_some_iff.1 h).1
  unfold those
  rw [take_snoc h, thoseF_snoc, if_pos hp, List.length_take]
  congr 3
  omega
theorem those_miss {p : Int × Int → Bool} {vs : List (Int × Int)} {k : Nat} {x : Int × Int} (h : vs[k]? = some x) (hp : p x = false) : those p (vs.take (k + 1)) = those p (vs.take k) := by
  unfold those
  rw [take_snoc h, thoseF_snoc, hp]; simp
theorem thoseF_le (p : Int × Int → Bool) : ∀ (xs : List (Int × Int)) (k : Nat), (thoseF p k xs).length ≤ xs.length := by
  intro xs
  induction xs with
  | nil => intro k; simp [thoseF]
  | cons y ys ih => intro k; have := ih (k + 1); simp only [thoseF]; split <;> simp <;> omega
theorem those_le (p : Int × Int → Bool) (vs : List (Int × Int)) (k : Nat) : (those p (vs.take k)).length ≤ k := by
  have := thoseF_le p (vs.take k) 0
  rw [List.length_take] at this
  unfold those; omega
def has (zs : List Int) (z : Int) : Bool := zs.contains z
/-- From a vertex up, from Parent to Parent, each ahead of the one before, to the first of a level; -1, if there is none. -/
def upF (vs : List (Int × Int)) (level : Int) : Nat → Int → Int → Int
  | 0, _, _ => -1
  | f + 1, bound, v => if 0 ≤ v ∧ v < bound then
      match vs[v.toNat]? with
      | some x => if x.2 = level then v else upF vs level f v x.1
      | none => -1
    else -1
theorem upF_more (vs : List (Int × Int)) (level : Int) : ∀ (f g : Nat) (bound v : Int), bound ≤ f → bound ≤ g → upF vs level f bound v = upF vs level g bound v := by
  intro f
  induction f with
  | zero =>
    intro g bound v hf _
    cases g with
    | zero => rfl
    | succ g => rw [upF, upF, if_neg (by omega)]
  | succ f ih =>
    intro g bound v hf hg
    cases g with
    | zero => rw [upF, upF, if_neg (by omega)]
    | succ g =>
      rw [upF, upF]
      split
      · split
        · split
          · rfl
          · exact ih g v _ (by omega) (by omega)
        · rfl
      · rfl
def up (vs : List (Int × Int)) (level : Int) (bound : Nat) (v : Int) : Int := upF vs level bound bound v
theorem up_out {vs : List (Int × Int)} {level v : Int} {bound : Nat} (h : ¬ (0 ≤ v ∧ v < bound)) : up vs level bound v = -1 := by
  unfold up
  cases bound with
  | zero => rfl
  | succ b => rw [upF, if_neg h]
theorem up_hit {vs : List (Int × Int)} {level : Int} {bound k : Nat} {x : Int × Int} (hk : k < bound) (hx : vs[k]? = some x) (hl : x.2 = level) : up vs level bound k = k := by
  unfold up
  cases bound with
  | zero => omega
  | succ b => rw [upF, if_pos (by omega)]; simp only [Int.toNat_natCast, hx, if_pos hl]
theorem up_step {vs : List (Int × Int)} {level : Int} {bound k : Nat} {x : Int × Int} (hk : k < bound) (hx : vs[k]? = some x) (hl : ¬ x.2 = level) : up vs level bound k = up vs level k x.1 := by
  unfold up
  cases bound with
  | zero => omega
  | succ b => rw [upF, if_pos (by omega)]; simp only [Int.toNat_natCast, hx, if_neg hl]; exact upF_more _ _ _ _ _ _ (by omega) (by omega)
/-- Whatever the bound, as long as the vertex lies below it. -/
theorem up_bound {vs : List (Int × Int)} {level v : Int} {a b : Nat} (ha : v < a) (hb : v < b) (hal : a ≤ vs.length) : up vs level a v = up vs level b v := by
  by_cases h0 : 0 ≤ v
  · obtain ⟨k, rfl⟩ := Int.eq_ofNat_of_zero_le h0
    obtain ⟨x, hx⟩ : ∃ x, vs[k]? = some x := ⟨_, List.getElem?_eq_getElem (by omega)⟩
    by_cases hl : x.2 = level
    · rw [up_hit (by omega) hx hl, up_hit (by omega) hx hl]
    · rw [up_step (by omega) hx hl, up_step (by omega) hx hl]
  · rw [up_out (by omega), up_out (by omega)]
/-- One less, as an int reckons it. -/
def dec (l : Int) : Int := if l = -9223372036854775808 then 9223372036854775807 else l - 1
/-- Has vertex k the Parent and the Level that it may have? -/
def hangsX (vs : List (Int × Int)) (k : Nat) (x : Int × Int) : Bool :=
  if k = 0 then x.1 == -1 && x.2 == 0
  else if x.1 < 0 ∨ (k : Int) ≤ x.1 then false
  else decide (x.2 ≤ 3) && ((vs[x.1.toNat]?.getD (0, 0)).2 == dec x.2)
def hangs (vs : List (Int × Int)) (k : Nat) : Bool := hangsX vs k (vs[k]?.getD (0, 0))
def kidsN (vs : List (Int × Int)) (k : Nat) : Nat := (those (fun x => x.1 == (k : Int)) vs).length
/-- Has vertex k as many below it as it may have? -/
def filled (vs : List (Int × Int)) (k : Nat) : Bool :=
  if 3 ≤ (vs[k]?.getD (0, 0)).2 then true else decide (1 ≤ kidsN vs k) && decide (kidsN vs k ≤ 8)
def headOK (vs : List (Int × Int)) : Bool := decide (1 ≤ vs.length) && decide (vs.length ≤ 64) && decide ((those (fun x => x.2 == 3) vs).length ≤ 32)
def bodyTo (vs : List (Int × Int)) (k : Nat) : Bool := (List.range k).all fun j => hangs vs j && filled vs j
/-- May the tree be? -/
def may (vs : List (Int × Int)) : Bool := headOK vs && bodyTo vs vs.length
def errno (b : Bool) : Int := if b then 0 else 2
theorem bodyTo_succ (vs : List (Int × Int)) (k : Nat) : bodyTo vs (k + 1) = (bodyTo vs k && (hangs vs k && filled vs k)) := by
  simp [bodyTo, List.range_succ, List.all_append]
theorem bodyTo_false {vs : List (Int × Int)} {k n : Nat} (hk : k < n) (h : (hangs vs k && filled vs k) = false) : bodyTo vs n = false := by
  unfold bodyTo
  rw [List.all_eq_false]
  exact ⟨k, List.mem_range.2 hk, by simpa using h⟩
theorem bodyTo_all {vs : List (Int × Int)} {n : Nat} (h : ∀ j, j < n → hangs vs j = true) (f : ∀ j, j < n → filled vs j = true) : bodyTo vs n = true := by
  unfold bodyTo
  rw [List.all_eq_true]
  intro j hj
  rw [h j (List.mem_range.1 hj), f j (List.mem_range.1 hj)]; rfl
theorem may_no_hangs {vs : List (Int × Int)} {k : Nat} (hk : k < vs.length) (h : hangs vs k = false) : may vs = false := by
  unfold may; rw [bodyTo_false hk (by rw [h]; rfl)]; simp
theorem may_no_filled {vs : List (Int × Int)} {k : Nat} (hk : k < vs.length) (h : filled vs k = false) : may vs = false := by
  unfold may; rw [bodyTo_false hk (by rw [h]; simp)]; simp
end Go.Proofs.YtcoccegmkcdeiaaDoor.Tp


/- Whether a number is in a list, by its contract. -/
namespace Go.Proofs.YtcoccegmkcdeiaaDoor
open Go.RowKit
set_option linter.unusedVariables false

/-- Is a number in a list? The world stays as it was. -/
theorem in_any (A : Option Addr) (n c : Nat) (zs : List Int) (z : Int) (w : World) (B : Nat) (hn : Hid (zs.length = n)) (hl : n ≤ 9223372036854775807)
    (ha : IRow w B A zs) :
    Calls Tryd.prog 27 #[.slice A n c, .int .i64 z] w fun e w' => e = .returned (.bool (Tp.has zs z)) ∧ w' = w := by
  go_enter Tryd.func27, Tryd.ntmps27
  go_wp2
  go_loop [5] (fun i => ∃ k : Nat, k ≤ n ∧ i = .int .i64 k ∧ Tp.has (zs.take k) z = false)
    (fun i => n - (intOf i).toNat)
  case atStart => exact ⟨0, Nat.zero_le _, rfl, rfl⟩
  case round =>
    obtain ⟨k, hk, rfl, hno⟩ := hrel
    by_cases hlt : k < n
    · obtain ⟨x, hx⟩ : ∃ x, zs[k]? = some x := ⟨_, List.getElem?_eq_getElem (by have := hn.out; omega)⟩
      obtain ⟨b, off, hA, hbk, hc⟩ := ha k x hx
      subst hA
      have hs : zs.take (k + 1) = zs.take k ++ [x] := by rw [List.take_add_one, hx]; rfl
      cases hp : (x == z)
      · have H := Lib.hid (show Tp.has (zs.take (k + 1)) z = false by
          unfold Tp.has at hno ⊢
          rw [hs, List.contains_eq_any_beq, List.any_append, ← List.contains_eq_any_beq, hno]
          have : (z == x) = false := by rw [beq_eq_false_iff_ne] at hp ⊢; exact fun h => hp h.symm
          simp [this])
        clear hx hs hno
        go_wp2
        go_round
        case rel => exact ⟨k + 1, by omega, by go_num, H.out⟩
        case measure => simp [intOf]; omega
      · have H := Lib.hid (show Tp.has zs z = true by
          unfold Tp.has
          rw [List.contains_iff_mem]
          have := List.mem_of_getElem? hx
          rw [beq_iff_eq] at hp
          exact hp ▸ this)
        clear hx hs hno
        go_wp2
        go_ret
        exact ⟨by rw [H.out]; rfl, rfl⟩
    · have e := hn.out
      have H := Lib.hid (show Tp.has zs z = false by rw [List.take_of_length_le (by omega)] at hno; exact hno)
      clear e hno
      go_wp2
      go_ret
      exact ⟨by rw [H.out]; rfl, rfl⟩
end Go.Proofs.YtcoccegmkcdeiaaDoor


/- Rings in plain mathematics: who is next, and a row of others. -/
namespace Go.Proofs.YtcoccegmkcdeiaaDoor.Rp
set_option linter.unusedVariables false

/-- Sizes below 2 count as 2. -/
def sz (s : Int) : Nat := if s < 2 then 2 else s.toNat
def add (r : Int × List Int) (g s : Int) : (Int × List Int) × List Int :=
  if r.2.length < sz s then ((r.1, r.2 ++ [g]), []) else ((r.1, r.2.drop (sz s / 2)), r.2.take (sz s / 2) ++ [g])
def put (r : Int × List Int) (g s : Int) : (Int × List Int) × List Int :=
  if r.1 = 0 then ((g, r.2), []) else add (g, r.2) r.1 s
def take (r : Int × List Int) : (Int × List Int) × Int :=
  if r.1 = 0 then ((0, r.2.drop 1), r.2.headD 0) else ((0, r.2), r.1)
def all (r : Int × List Int) : List Int := if r.1 = 0 then r.2 else r.1 :: r.2
/-- The first half, rounded up. -/
def hf (l : List Int) : Nat := l.length - l.length / 2
def half (r : Int × List Int) : (Int × List Int) × List Int :=
  if r.2.length = 0 then ((0, []), all r) else ((r.1, r.2.drop (hf r.2)), r.2.take (hf r.2))
/-- All above 0, each once. -/
def Once (l : List Int) : Prop := (∀ x ∈ l, 1 ≤ x) ∧ l.Nodup
instance (l : List Int) : Decidable (Once l) := by unfold Once; infer_instance
def may (r : Int × List Int) (s : Int) : Bool := decide (r.2.length ≤ sz s) && decide (Once (all r))

theorem sz_two (s : Int) : 2 ≤ sz s := by unfold sz; split <;> omega
theorem sz_low {s : Int} (h : s < 2) : sz s = 2 := by unfold sz; rw [if_pos h]
theorem sz_high {s : Int} (h : 2 ≤ s) : ((sz s : Nat) : Int) = s := by unfold sz; rw [if_neg (by omega)]; omega
theorem sz_nat (n : Nat) (h : 2 ≤ n) : sz (n : Int) = n := by unfold sz; rw [if_neg (by omega)]; omega
theorem half_le (l : List Int) (s : Int) (h : ¬ l.length < sz s) : sz s / 2 ≤ l.length := by omega
theorem hf_le (l : List Int) : hf l ≤ l.length := by unfold hf; omega
theorem all_length (r : Int × List Int) : (all r).length ≤ r.2.length + 1 := by
  unfold all; split <;> simp

/-! ### Nothing is lost -/
theorem perm_add (r : Int × List Int) (g s : Int) : (all (add r g s).1 ++ (add r g s).2).Perm (all r ++ [g]) := by
  unfold add all
  by_cases h : r.2.length < sz s
  · rw [if_pos h]
    simp only
    split <;> simp
  · rw [if_neg h]
    simp only
    have e : r.2 = r.2.take (sz s / 2) ++ r.2.drop (sz s / 2) := (List.take_append_drop _ _).symm
    have p : (r.2.drop (sz s / 2) ++ (r.2.take (sz s / 2) ++ [g])).Perm (r.2 ++ [g]) := by
      conv => rhs; rw [e]
      rw [← List.append_assoc]
      exact List.Perm.append_right _ List.perm_append_comm
    split
    · exact p
    · simpa using List.Perm.cons r.1 p
theorem perm_put (r : Int × List Int) (g s : Int) (hg : g ≠ 0) : (all (put r g s).1 ++ (put r g s).2).Perm (all r ++ [g]) := by
  unfold put
  by_cases h : r.1 = 0
  · rw [if_pos h]
    unfold all
    simp only [h, if_pos, if_neg hg, List.append_nil]
    exact (List.perm_append_comm (l₁ := [g]) (l₂ := r.2))
  · rw [if_neg h]
    refine (perm_add (g, r.2) r.1 s).trans ?_
    unfold all
    simp only [if_neg hg, if_neg h]
    have p : (g :: (r.2 ++ [r.1])).Perm (r.1 :: (r.2 ++ [g])) := by
      have p1 : (r.2 ++ [r.1]).Perm (r.1 :: r.2) := List.perm_append_comm (l₁ := r.2) (l₂ := [r.1])
      have p2 : (r.2 ++ [g]).Perm (g :: r.2) := List.perm_append_comm (l₁ := r.2) (l₂ := [g])
      exact ((List.Perm.cons g p1).trans (List.Perm.swap _ _ _)).trans (List.Perm.cons r.1 p2.symm)
    simpa using p
theorem perm_half (r : Int × List Int) : (all (half r).1 ++ (half r).2).Perm (all r) := by
  unfold half
  by_cases h : r.2.length = 0
  · rw [if_pos h]
    show (all (0, []) ++ all r).Perm (all r)
    rw [show all (0, []) = [] from rfl, List.nil_append]
  · rw [if_neg h]
    unfold all
    simp only
    have e : r.2 = r.2.take (hf r.2) ++ r.2.drop (hf r.2) := (List.take_append_drop _ _).symm
    have p : (r.2.drop (hf r.2) ++ r.2.take (hf r.2)).Perm r.2 := by
      conv => rhs; rw [e]
      exact List.perm_append_comm
    split
    · exact p
    · exact List.Perm.cons _ p
/-- What is taken ahead of what is left: all, if none of the row is 0. -/
def told (r : Int × List Int) : List Int := if (take r).2 = 0 then all (take r).1 else (take r).2 :: all (take r).1
theorem told_all (r : Int × List Int) (h : (0 : Int) ∉ r.2) : told r = all r := by
  unfold told take all
  by_cases h1 : r.1 = 0
  · rw [if_pos h1]
    obtain ⟨n, l⟩ := r
    cases l with
    | nil => simp_all
    | cons x xs =>
      have : x ≠ 0 := fun e => h (by simp [e])
      simp_all
  · rw [if_neg h1]
    simp_all

/-! ### Sizes, and who may be -/
theorem Once.perm {a b : List Int} (h : Once a) (p : a.Perm b) : Once b := ⟨fun x hx => h.1 x (p.mem_iff.2 hx), p.nodup_iff.1 h.2⟩
theorem Once.left {a b : List Int} (h : Once (a ++ b)) : Once a := ⟨fun x hx => h.1 x (List.mem_append_left _ hx), (List.nodup_append.1 h.2).1⟩
theorem Once.snoc {a : List Int} {g : Int} (h : Once a) (hg : 1 ≤ g) (hn : g ∉ a) : Once (a ++ [g]) := by
  refine ⟨fun x hx => ?_, ?_⟩
  · rcases List.mem_append.1 hx with h1 | h1
    · exact h.1 x h1
    · rw [List.mem_singleton] at h1; omega
  · rw [List.nodup_append]
    refine ⟨h.2, List.nodup_cons.2 ⟨by simp, List.nodup_nil⟩, fun x hx y hy => ?_⟩
    rw [List.mem_singleton] at hy
    subst hy
    exact fun e => hn (e ▸ hx)
/-- A ring whose row is no longer than n, whose members are from 1 to k, each once. -/
def Good (r : Int × List Int) (n k : Nat) : Prop := r.2.length ≤ n ∧ Once (all r) ∧ ∀ x ∈ all r, x ≤ k
theorem Good.may {r : Int × List Int} {n k : Nat} (h : Good r n k) (hn : 2 ≤ n) : Rp.may r n = true := by
  unfold Rp.may
  rw [sz_nat n hn]
  simp [h.1, h.2.1]
theorem Good.nil (n : Nat) : Good (0, []) n 0 := ⟨Nat.zero_le _, ⟨fun x hx => (List.not_mem_nil hx).elim, List.nodup_nil⟩, fun x hx => (List.not_mem_nil hx).elim⟩
theorem add_len (r : Int × List Int) (g : Int) (n : Nat) (hn : 2 ≤ n) (h : r.2.length ≤ n) : (add r g n).1.2.length ≤ n ∧ ((add r g n).2 = [] ∨ (add r g n).2.length = n / 2 + 1) := by
  unfold add
  rw [sz_nat n hn]
  by_cases h1 : r.2.length < n
  · rw [if_pos h1]
    simp; omega
  · rw [if_neg h1]
    simp; omega
theorem put_len (r : Int × List Int) (g : Int) (n : Nat) (hn : 2 ≤ n) (h : r.2.length ≤ n) : (put r g n).1.2.length ≤ n ∧ ((put r g n).2 = [] ∨ (put r g n).2.length = n / 2 + 1) := by
  unfold put
  by_cases h1 : r.1 = 0
  · rw [if_pos h1]; exact ⟨h, .inl rfl⟩
  · rw [if_neg h1]; exact add_len (g, r.2) r.1 n hn h
theorem Good.grow {r r' : Int × List Int} {t : List Int} {n k : Nat} (h : Good r n k) (hl : r'.2.length ≤ n) (hp : (all r' ++ t).Perm (all r ++ [((k + 1 : Nat) : Int)])) : Good r' n (k + 1) := by
  have o : Once (all r ++ [((k + 1 : Nat) : Int)]) := h.2.1.snoc (by omega) fun hm => by have := h.2.2 _ hm; omega
  have o2 := o.perm hp.symm
  refine ⟨hl, o2.left, fun x hx => ?_⟩
  have := hp.mem_iff.1 (List.mem_append_left _ hx)
  rcases List.mem_append.1 this with h1 | h1
  · have := h.2.2 x h1; omega
  · rw [List.mem_singleton] at h1; omega
theorem Good.add {r : Int × List Int} {n k : Nat} (h : Good r n k) (hn : 2 ≤ n) : Good (Rp.add r ((k + 1 : Nat) : Int) n).1 n (k + 1) :=
  h.grow (add_len r _ n hn h.1).1 (perm_add r _ n)
theorem Good.put {r : Int × List Int} {n k : Nat} (h : Good r n k) (hn : 2 ≤ n) : Good (Rp.put r ((k + 1 : Nat) : Int) n).1 n (k + 1) :=
  h.grow (put_len r _ n hn h.1).1 (perm_put r _ n (by omega))
theorem half_len (r : Int × List Int) : (half r).1.2.length ≤ (half r).2.length ∧ (half r).2.length ≤ (half r).1.2.length + 1 ∧ (half r).1.2.length ≤ r.2.length := by
  unfold half
  by_cases h : r.2.length = 0
  · rw [if_pos h]
    have := all_length r
    simp; omega
  · rw [if_neg h]
    simp [hf]; omega
theorem Good.half {r : Int × List Int} {n k : Nat} (h : Good r n k) : Good (Rp.half r).1 n k := by
  have p := perm_half r
  have o := h.2.1.perm p.symm
  refine ⟨Nat.le_trans (half_len r).2.2 h.1, o.left, fun x hx => h.2.2 x (p.mem_iff.1 (List.mem_append_left _ hx))⟩

/-! ### Halved again and again -/
/-- The row, then who is next. -/
def turn (r : Int × List Int) : List Int := if r.1 = 0 then r.2 else r.2 ++ [r.1]
theorem turn_half (r : Int × List Int) : (half r).2 ++ turn (half r).1 = turn r := by
  unfold half
  by_cases h : r.2.length = 0
  · rw [if_pos h]
    have e : r.2 = [] := List.length_eq_zero_iff.1 h
    unfold turn all
    simp only [e]
    split <;> simp
  · rw [if_neg h]
    unfold turn
    simp only
    have e : r.2.take (hf r.2) ++ r.2.drop (hf r.2) = r.2 := List.take_append_drop _ _
    split
    · exact e
    · rw [← List.append_assoc, e]
/-- Behind j halvings the row is as short; behind nine nobody is there. -/
def Cut (r : Int × List Int) (j : Nat) : Prop := r.2.length ≤ 200 / 2 ^ j ∧ (9 ≤ j → r = (0, []))
theorem Cut.half {r : Int × List Int} {j : Nat} (h : Cut r j) : Cut (Rp.half r).1 (j + 1) := by
  obtain ⟨h1, h2⟩ := h
  have hd : 200 / 2 ^ (j + 1) = 200 / 2 ^ j / 2 := by rw [Nat.pow_succ, Nat.div_div_eq_div_mul]
  unfold Cut Rp.half
  by_cases h0 : r.2.length = 0
  · rw [if_pos h0]
    exact ⟨by simp, fun _ => rfl⟩
  · rw [if_neg h0]
    refine ⟨?_, fun hj => ?_⟩
    · rw [hd]; simp [hf]; omega
    · exfalso
      have h8 : 200 / 2 ^ j = 0 := by
        refine Nat.div_eq_of_lt ?_
        have := Nat.pow_le_pow_right (n := 2) (by omega) (show 8 ≤ j by omega)
        omega
      omega

/-! ### Taken one by one -/
/-- Nobody of the row is 0: what is taken is the first of all, and all others are left. -/
theorem take_all (r : Int × List Int) (h : (0 : Int) ∉ r.2) : (take r).2 = (all r).headD 0 ∧ all (take r).1 = (all r).drop 1 ∧ (0 : Int) ∉ (take r).1.2 ∧ (take r).1.2.length ≤ r.2.length := by
  unfold take all
  by_cases h1 : r.1 = 0
  · rw [if_pos h1]
    simp only [h1, if_pos]
    refine ⟨by first | trivial | rfl, by first | trivial | rfl, fun hm => h (List.mem_of_mem_drop hm), by simp⟩
  · rw [if_neg h1]
    simp only [if_neg h1]
    refine ⟨by simp, by simp, h, Nat.le_refl _⟩
theorem all_zero {r : Int × List Int} (h : (0 : Int) ∉ r.2) : (0 : Int) ∉ all r := by
  unfold all
  split
  · exact h
  · rename_i h1
    intro hm
    rcases List.mem_cons.1 hm with e | e
    · exact h1 e.symm
    · exact h e
end Go.Proofs.YtcoccegmkcdeiaaDoor.Rp


/- Rows of numbers with their capacity; appends that make new memory. -/
namespace Go.Proofs.YtcoccegmkcdeiaaDoor
open Go.RowKit
set_option linter.unusedVariables false

/-- A slice of numbers, with its capacity. -/
structure Row (w : World) (A : Option Addr) (n c : Nat) (zs : List Int) : Prop where
  len : zs.length = n
  cap : n ≤ c
  most : c ≤ 9223372036854775807
  nil : A = none → c = 0
  row : IRow w w.heap.size A zs
theorem Row.below {w w' : World} {A : Option Addr} {n c : Nat} {zs : List Int} (h : Row w A n c zs) (hb : Below w.heap.size w w') : Row w' A n c zs :=
  ⟨h.len, h.cap, h.most, h.nil, (h.row.below hb).more hb.size⟩
theorem Row.nothing (w : World) : Row w none 0 0 [] := ⟨rfl, Nat.le_refl _, by omega, fun _ => rfl, fun i z h => by simp at h⟩
theorem Row.of_own {w : World} {base n : Nat} {e : TypeId} {v : Value} {zs : List Int} (h : w.ownsRow base e 1 v n (zs.map (Value.int .i64))) : ∃ A c, v = .slice A n c ∧ Row w A n c zs := by
  have hl := own_len h
  rcases h.2 with ⟨rfl, rfl⟩ | ⟨g, cap, cur, rfl, _, _, h1, h2, _⟩
  · exact ⟨_, _, rfl, hl, Nat.le_refl _, by omega, (fun _ => rfl), IRow.of_own h⟩
  · exact ⟨_, _, rfl, hl, h1, by unfold maxLen at h2; omega, (fun e => by cases e), IRow.of_own h⟩
/-- The address and the cells of a row that has a member. -/
theorem Row.cells {w : World} {A : Option Addr} {n c : Nat} {zs : List Int} (h : Row w A n c zs) (hn : 0 < n) : ∃ b off, A = some ⟨b, off, none⟩ ∧ b < w.heap.size ∧ ∀ j z, zs[j]? = some z → w.cell? ⟨b, off + j, none⟩ = some (.int .i64 z) := by
  obtain ⟨z0, h0⟩ : ∃ z, zs[0]? = some z := ⟨_, List.getElem?_eq_getElem (by rw [h.len]; exact hn)⟩
  obtain ⟨b, off, rfl, hb, _⟩ := h.row 0 z0 h0
  refine ⟨b, off, rfl, hb, fun j z hj => ?_⟩
  obtain ⟨b', off', e, _, hc⟩ := h.row j z hj
  injection e with e
  injection e with e1 e2
  subst e1 e2
  exact hc
theorem Row.drop {w : World} {b off n c : Nat} {zs : List Int} (h : Row w (some ⟨b, off, none⟩) n c zs) (k : Nat) (hk : k ≤ n) : Row w (some ⟨b, off + k, none⟩) (n - k) (c - k) (zs.drop k) := by
  refine ⟨by rw [List.length_drop, h.len], by have := h.cap; omega, by have := h.most; omega, fun e => (by cases e), fun i z hi => ?_⟩
  rw [List.getElem?_drop] at hi
  obtain ⟨b', off', e, hb, hc⟩ := h.row _ _ hi
  injection e with e
  injection e with e1 e2
  subst e1 e2
  exact ⟨_, _, rfl, hb, by rw [Nat.add_assoc]; exact hc⟩
theorem Row.take {w : World} {A : Option Addr} {n c : Nat} {zs : List Int} (h : Row w A n c zs) (k : Nat) (hk : k ≤ n) : Row w A k c (zs.take k) := by
  refine ⟨by rw [List.length_take, h.len]; omega, by have := h.cap; omega, h.most, h.nil, fun i z hi => ?_⟩
  rw [List.getElem?_take] at hi
  split at hi
  · exact h.row i z hi
  · cases hi
theorem Row.drew {w : World} {A : Option Addr} {n c : Nat} {zs : List Int} (h : Row w A n c zs) : Row w.drew A n c zs := ⟨h.len, h.cap, h.most, h.nil, h.row⟩
theorem Row.slice {w : World} {b off n c : Nat} {zs : List Int} (h : Row w (some ⟨b, off, Option.none⟩) n c zs) (k : Nat) (hk : k ≤ n) : Row w (if c = k then some ⟨b, off, Option.none⟩ else some ⟨b, off + k, Option.none⟩) (n - k) (c - k) (zs.drop k) := by
  by_cases e : c = k
  · rw [if_pos e]
    have h1 := h.cap
    have h2 : n - k = 0 := by omega
    have h3 : c - k = 0 := by omega
    rw [h2, h3, List.drop_of_length_le (by rw [h.len]; omega)]
    exact ⟨rfl, Nat.le_refl _, by omega, fun _ => rfl, fun i z hi => by simp at hi⟩
  · rw [if_neg e]
    exact h.drop k hk
theorem Row.icells {w : World} {b off n c : Nat} {zs : List Int} (h : Row w (some ⟨b, off, none⟩) n c zs) : ∀ j u, (zs.map (Value.int .i64))[j]? = some u → w.cell? ((⟨b, off, none⟩ : Addr).add j) = some u := by
  intro j u hj
  rw [List.getElem?_map] at hj
  cases hz : zs[j]? with
  | none => rw [hz] at hj; cases hj
  | some z =>
    rw [hz] at hj
    injection hj with hj
    subst hj
    obtain ⟨b', off', e, _, hc⟩ := h.row j z hz
    injection e with e
    injection e with e1 e2
    subst e1 e2
    rw [add_lit']
    exact hc
theorem Row.set {W : World} {X j n c : Nat} {A : Option Addr} {zs : List Int} {u : Value} (h : Row W A n c zs) (ha : From (X + 1) A) : Row (W.setCell ⟨X, j, Option.none⟩ u) A n c zs := by
  refine ⟨h.len, h.cap, h.most, h.nil, fun i z hi => ?_⟩
  obtain ⟨b, off, e, hb, hc⟩ := h.row i z hi
  have hne := ha _ e
  simp only at hne
  exact ⟨b, off, e, by simpa [World.setCell] using hb, (World.cell?_setCell_other _ _ _ _ (fun e => by injection e with e; omega)).trans hc⟩
theorem Row.from {w W : World} {A : Option Addr} {n c : Nat} {zs : List Int} (h : Row w A n c zs) (hb : Below w.heap.size w W) : Row W A n c zs := h.below hb
theorem Row.of_own' {w : World} {base n : Nat} {e : TypeId} {v : Value} {zs : List Int} (h : w.ownsRow base e 1 v n (zs.map (Value.int .i64))) : ∃ A c, v = .slice A n c ∧ Row w A n c zs ∧ From base A := by
  obtain ⟨A, c, rfl, hr⟩ := Row.of_own h
  refine ⟨A, c, rfl, hr, fun ad e => ?_⟩
  subst e
  exact (h.lt _ rfl).1
/-- What a call leaves that has made a row. -/
def MadeR (w0 : World) (zs : List Int) (e : Ending) (w' : World) : Prop :=
  ∃ A n c, e = .returned (.slice A n c) ∧ Row w' A n c zs ∧ From w0.heap.size A ∧ Below w0.heap.size w0 w'
/-- What a call leaves that has made a row, with the memory that it owns. -/
def MadeO (w0 : World) (zs : List Int) (e : Ending) (w' : World) : Prop :=
  ∃ v n, e = .returned v ∧ w'.ownsRow w0.heap.size 3 1 v n (zs.map (Value.int .i64)) ∧ Below w0.heap.size w0 w'
theorem MadeO.madeR {w0 w' : World} {zs : List Int} {e : Ending} (h : MadeO w0 zs e w') : MadeR w0 zs e w' := by
  obtain ⟨v, n, rfl, ho, hb⟩ := h
  obtain ⟨A, c, rfl, hr, hf⟩ := Row.of_own' ho
  exact ⟨A, n, c, rfl, hr, hf, hb⟩
end Go.Proofs.YtcoccegmkcdeiaaDoor


/- plug.refused: the error of the first in a row for which there is reason. Each one's reason is a closure, whatever it is. -/
namespace Go.Proofs.YtcoccegmkcdeiaaDoor
open Go.RowKit
set_option linter.unusedVariables false

/-- One in the row: its error, its closure, and what that tells. -/
structure Ask where
  err : Int
  f : FuncId
  cap : Array Value
  ans : Bool
def told1 : List Ask → Int
  | [] => 0
  | x :: t => if x.ans then x.err else told1 t
theorem told1_at {es : List Ask} {k : Nat} {x : Ask} (h : es[k]? = some x) (hx : x.ans = true) (hn : ∀ (j : Nat) (y : Ask), j < k → es[j]? = some y → y.ans = false) : told1 es = x.err := by
  induction es generalizing k with
  | nil => simp at h
  | cons y t ih =>
    cases k with
    | zero =>
      simp only [List.getElem?_cons_zero, Option.some.injEq] at h
      subst h
      unfold told1
      rw [hx]; rfl
    | succ k =>
      rw [List.getElem?_cons_succ] at h
      have h0 := hn 0 y (by omega) rfl
      unfold told1
      rw [h0]
      exact ih h (fun j z hj hz => hn (j + 1) z (by omega) (by rw [List.getElem?_cons_succ]; exact hz))
theorem told1_no {es : List Ask} (hn : ∀ (j : Nat) (y : Ask), es[j]? = some y → y.ans = false) : told1 es = 0 := by
  induction es with
  | nil => rfl
  | cons y t ih =>
    unfold told1
    rw [hn 0 y rfl]
    exact ih (fun j z hz => hn (j + 1) z (by rw [List.getElem?_cons_succ]; exact hz))
/-- The row in memory, and what its closures tell as long as what stood below M stays. -/
structure Asks (b M : Nat) (es : List Ask) (w : World) : Prop where
  cells : ∀ (i : Nat) (x : Ask), es[i]? = some x → w.cell? ⟨b, i * 2, none⟩ = some (.int .i64 x.err) ∧ w.cell? ⟨b, i * 2 + 1, none⟩ = some (.func (.func x.f) #[] x.cap)
  enters : ∀ (i : Nat) (x : Ask), es[i]? = some x → ∀ (args : Array Value) (W : World), (callFunc x.f args).run Tryd.prog W = .ok (.enter x.f args) W
  call : ∀ (i : Nat) (x : Ask), es[i]? = some x → ∀ W, Below M w W → Calls Tryd.prog x.f x.cap W fun e W' => e = .returned (.bool x.ans) ∧ Below W.heap.size W W'
set_option maxRecDepth 100000 in
set_option maxHeartbeats 1000000 in
theorem refused_any (b c : Nat) (es : List Ask) (n : Nat) (w : World) (h : Asks b w.heap.size es w) (hn : es.length = n) (hc : n ≤ 100) :
    Calls Tryd.prog 29 #[.slice (some ⟨b, 0, none⟩) n c] w fun e w' => e = .returned (.int .i64 (told1 es)) ∧ Below w.heap.size w w' := by
  have H := Lib.hid h
  have HNL := Lib.hid hn
  clear h hn
  go_enter Tryd.func29, Tryd.ntmps29
  go_wp2_with fail
  go_loopw [7] (fun i wr => ∃ k : Nat, k ≤ n ∧ i = .int .i64 k ∧ Hid (∀ (j : Nat) (y : Ask), j < k → es[j]? = some y → y.ans = false) ∧ Hid (Below w.heap.size w wr)) (fun i _ => n - (intOf i).toNat)
  case atStart => exact ⟨0, Nat.zero_le _, rfl, Lib.hid (fun j y h => by omega), Lib.hid (Below.refl _ _)⟩
  case round =>
    obtain ⟨k, hk, rfl, HA, HB⟩ := hrel
    by_cases hlt : k < n
    · obtain ⟨x, hx⟩ : ∃ x, es[k]? = some x := ⟨_, List.getElem?_eq_getElem (by have := HNL.out; omega)⟩
      have HX := Lib.hid hx
      have HE := Lib.hid (H.out.enters k x hx)
      obtain ⟨hc0, hc1⟩ := H.out.cells k x hx
      have c0 := keepcell HB.out hc0
      have c1 := keepcell HB.out hc1
      have i0 : (0 : Int) ≤ (k : Int) := by omega
      have i1 : (k : Int) < (n : Int) := by omega
      clear hx hc0 hc1
      obtain ⟨fx, hfx⟩ : ∃ f, f = x.f := ⟨_, rfl⟩
      obtain ⟨cx, hcx⟩ : ∃ f, f = x.cap := ⟨_, rfl⟩
      obtain ⟨ex, hex⟩ : ∃ f, f = x.err := ⟨_, rfl⟩
      obtain ⟨ax, hax⟩ : ∃ f, f = x.ans := ⟨_, rfl⟩
      have hen := HE.out
      have hcl := Lib.hid (fun W (hW : Below w.heap.size w W) => H.out.call k x HX.out W hW)
      rw [← hfx] at c1 hen hcl
      rw [← hcx] at c1 hcl
      rw [← hex] at c0
      rw [← hax] at hcl
      have HEX := Lib.hid hex
      have HAX := Lib.hid hax
      clear hfx hcx hex hax HE
      have hb1 := below_new wr (.cells #[.int .i64 ex, .func (.func fx) #[] cx] 65)
      obtain ⟨w1, hw1⟩ : ∃ y, y = wr.alloc (.cells #[.int .i64 ex, .func (.func fx) #[] cx] 65) := ⟨_, rfl⟩
      have m0 : w1.cell? ⟨wr.heap.size, 0, none⟩ = some (.int .i64 ex) := by rw [hw1, World.cell?_alloc_at _ _ _ _ rfl]; rfl
      rw [← hw1] at hb1
      have HB1 := Lib.hid (HB.out.trans (hb1.mono HB.out.size))
      have E1 := Lib.hid hw1
      have HM := Lib.hid m0
      have m1 : w1.cell? ⟨wr.heap.size, 1, none⟩ = some (.func (.func fx) #[] cx) := by rw [hw1, World.cell?_alloc_at _ _ _ _ rfl]; rfl
      clear hb1 hw1 m0
      have hst := fun (a : Addr) (fn : Fn) (cb : Array Value) (W : World) => run_store Tryd.prog W a (.func fn #[] cb) .plain rfl
      go_wp2_with (rw [← E1.out])
      refine (hcl.out _ HB1.out).mono ?_
      rintro e w2 ⟨rfl, hb2⟩
      have HB2 := Lib.hid (HB1.out.trans (hb2.mono HB1.out.size))
      have m0 := keepcell hb2 HM.out
      clear hb2 E1 HM hcl hen m1 hst
      cases ax
      · have HA2 := Lib.hid (show ∀ (j : Nat) (y : Ask), j < k + 1 → es[j]? = some y → y.ans = false from fun j y hj hy => by
          by_cases e : j = k
          · subst e
            rw [HX.out] at hy
            injection hy with hy
            subst hy
            exact HAX.out.symm
          · exact HA.out j y (by omega) hy)
        go_wp2_with fail
        go_roundw
        case rel => exact ⟨k + 1, hlt, by go_num, HA2, HB2⟩
        case measure => simp [intOf]; omega
      · have HT := Lib.hid (show told1 es = ex by rw [told1_at HX.out HAX.out.symm HA.out, HEX.out])
        go_wp2_with fail
        go_ret
        exact ⟨by rw [HT.out]; rfl, HB2.out⟩
    · have HT := Lib.hid (show told1 es = 0 from told1_no (fun j y hy => HA.out j y (by have := (List.getElem?_eq_some_iff.1 hy).1; have := HNL.out; omega) hy))
      have i1 : ¬ (k : Int) < (n : Int) := by omega
      have HB1 := Lib.hid HB.out
      go_wp2_with fail
      go_ret
      exact ⟨by rw [HT.out]; rfl, HB1.out⟩
end Go.Proofs.YtcoccegmkcdeiaaDoor

