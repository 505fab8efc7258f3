/- Small words on memory, used by the proofs of layer 1: a slice of numbers, and a slice of vertices (pairs of numbers), that reads as a list. -/
import Derived.Test.YtceboejhdgjgoaaRows
import Derived.WalkKit
import Derived.Below
import Derived.OwnWalk
import Derived.Outline
import Derived.Deep.QuietTactic
import Derived.BigQuiet
import Derived.Lib.Hide
import Derived.Deep.Draws
namespace Go.Proofs.Ytceboejhdgjgoaa
open Go.RowKit

/-- The numbers that lie behind a slice's address, one cell each, below block B. -/
def IRow (w : World) (B : Nat) (A : Option Addr) (zs : List Int) : Prop :=
  ∀ i z, zs[i]? = some z → ∃ b off, A = some ⟨b, off, none⟩ ∧ b < B ∧ w.cell? ⟨b, off + i, none⟩ = some (.int .i64 z)

/-- The vertices that lie behind a slice's address, two cells each, below block B. -/
def VRow (w : World) (B : Nat) (A : Option Addr) (vs : List (Int × Int)) : Prop :=
  ∀ i x, vs[i]? = some x → ∃ b off, A = some ⟨b, off, none⟩ ∧ b < B ∧ w.cell? ⟨b, off + i * 2, none⟩ = some (.int .i64 x.1) ∧ w.cell? ⟨b, off + i * 2 + 1, none⟩ = some (.int .i64 x.2)

theorem IRow.keep {w w' : World} {B : Nat} {A : Option Addr} {zs : List Int} (h : IRow w B A zs) (hk : ∀ p : Addr, p.block < B → w'.cell? p = w.cell? p) : IRow w' B A zs := by
  intro i z hi
  obtain ⟨b, off, e, hb, hc⟩ := h i z hi
  exact ⟨b, off, e, hb, (hk _ hb).trans hc⟩
theorem VRow.keep {w w' : World} {B : Nat} {A : Option Addr} {vs : List (Int × Int)} (h : VRow w B A vs) (hk : ∀ p : Addr, p.block < B → w'.cell? p = w.cell? p) : VRow w' B A vs := by
  intro i z hi
  obtain ⟨b, off, e, hb, hc, hd⟩ := h i z hi
  exact ⟨b, off, e, hb, (hk _ hb).trans hc, (hk _ hb).trans hd⟩
theorem IRow.more {w : World} {B B' : Nat} {A : Option Addr} {zs : List Int} (h : IRow w B A zs) (hB : B ≤ B') : IRow w B' A zs := by
  intro i z hi
  obtain ⟨b, off, e, hb, hc⟩ := h i z hi
  exact ⟨b, off, e, by omega, hc⟩
theorem VRow.more {w : World} {B B' : Nat} {A : Option Addr} {vs : List (Int × Int)} (h : VRow w B A vs) (hB : B ≤ B') : VRow w B' A vs := by
  intro i z hi
  obtain ⟨b, off, e, hb, hc⟩ := h i z hi
  exact ⟨b, off, e, by omega, hc⟩
theorem IRow.below {w w' : World} {B : Nat} {A : Option Addr} {zs : List Int} (h : IRow w B A zs) (hb : Below B w w') : IRow w' B A zs := h.keep fun _ hp => hb.cell hp
theorem VRow.below {w w' : World} {B : Nat} {A : Option Addr} {vs : List (Int × Int)} (h : VRow w B A vs) (hb : Below B w w') : VRow w' B A vs := h.keep fun _ hp => hb.cell hp
/-- A row that a call has made for itself, read as numbers. -/
theorem IRow.of_own {w : World} {base n c : Nat} {e : TypeId} {A : Option Addr} {zs : List Int} (h : w.ownsRow base e 1 (.slice A n c) n (zs.map (Value.int .i64))) : IRow w w.heap.size A zs := by
  intro i z hi
  have hl : i < n := by
    have h1 := h.1
    have h2 := (List.getElem?_eq_some_iff.1 hi).1
    simp at h1; omega
  rcases h.2 with ⟨_, h0⟩ | ⟨g, cap, cur, hv, _, hh, _⟩
  · omega
  · injection hv with h1 h2 h3
    subst h1
    refine ⟨_, _, rfl, (Array.getElem?_eq_some_iff.1 hh).1, ?_⟩
    have := h.cells (g := g) rfl i (.int .i64 z) (by simp [hi])
    rw [show ((⟨g, 0, none⟩ : Addr).add i) = ⟨g, 0 + i, none⟩ from by unfold Addr.add; split <;> simp_all] at this
    exact this
theorem own_form {w : World} {base n : Nat} {e : TypeId} {size : Nat} {v : Value} {xs : List Value} (h : w.ownsRow base e size v n xs) : ∃ A c, v = .slice A n c := by
  rcases h.2 with ⟨rfl, rfl⟩ | ⟨g, cap, cur, rfl, _⟩
  · exact ⟨none, 0, rfl⟩
  · exact ⟨some ⟨g, 0, none⟩, cap, rfl⟩
theorem own_len {w : World} {base n : Nat} {e : TypeId} {v : Value} {zs : List Int} (h : w.ownsRow base e 1 v n (zs.map (Value.int .i64))) : zs.length = n := by
  simpa using h.1
theorem own_below {w w' : World} {base n : Nat} {e : TypeId} {size : Nat} {v : Value} {xs : List Value} (h : w.ownsRow base e size v n xs) (hb : Below w.heap.size w w') : w'.ownsRow base e size v n xs :=
  h.kept (row := none) ⟨hb.os, hb.tape, hb.output, hb.size, fun k hk _ => hb.block k hk⟩ (by cases v.ownBlock <;> simp)
theorem one_cell (w : World) (u : Value) (e : TypeId) : ∀ j x, [u][j]? = some x → (w.alloc (.cells #[u] e)).cell? ((⟨w.heap.size, 0, none⟩ : Addr).add j) = some x := by
  intro j x hj
  match j, hj with
  | 0, hj => simp at hj; subst hj; simp [Addr.add]
/-- The element types' rows of the table. -/
theorem info_int : (Try.prog.info? 3).map (fun i => (i.zero, i.size, i.bytes)) = some (some (.int .i64 0), 1, 8) := by kernel_rfl

theorem ret_bool {a b : Bool} (h : a = b) : Ending.returned (.bool a) = .returned (.bool b) := by rw [h]
theorem ret_int {k : IntKind} {a b : Int} (h : a = b) : Ending.returned (.int k a) = .returned (.int k b) := by rw [h]
theorem below_drewN {B : Nat} {a w : World} (h : Below B a w) (n : Nat) : Below B a (w.drewN n) := ⟨h.os, h.tape, h.output, h.size, h.block⟩
/-- What a call leaves that has made a list of numbers: the list in new memory, all else as it was. -/
def Made (w0 : World) (zs : List Int) (e : Ending) (w' : World) : Prop :=
  ∃ A c, e = .returned (.slice A zs.length c) ∧ IRow w' w'.heap.size A zs ∧ Below w0.heap.size w0 w'
theorem made_of {w w1 w' : World} {v : Value} {zs : List Int} {ty : TypeId} (hb : Below w.heap.size w w1) (hown : w'.ownsRow w1.heap.size ty 1 v zs.length (zs.map (Value.int .i64))) (hb1 : Below w1.heap.size w1 w') : Made w zs (.returned v) w' := by
  obtain ⟨A, c, rfl⟩ := own_form hown
  exact ⟨A, c, rfl, IRow.of_own hown, hb.trans (hb1.mono hb.size)⟩
/-- The same, and the list's capacity is no less than its length. -/
def MadeC (w0 : World) (zs : List Int) (e : Ending) (w' : World) : Prop :=
  ∃ A c, e = .returned (.slice A zs.length c) ∧ IRow w' w'.heap.size A zs ∧ Below w0.heap.size w0 w' ∧ zs.length ≤ c ∧ c ≤ 9223372036854775807
theorem MadeC.made {w0 w' : World} {zs : List Int} {e : Ending} (h : MadeC w0 zs e w') : Made w0 zs e w' := by
  obtain ⟨A, c, h1, h2, h3, _⟩ := h
  exact ⟨A, c, h1, h2, h3⟩
theorem madeC_of {w w1 w' : World} {v : Value} {zs : List Int} {ty : TypeId} (hb : Below w.heap.size w w1) (hown : w'.ownsRow w1.heap.size ty 1 v zs.length (zs.map (Value.int .i64))) (hb1 : Below w1.heap.size w1 w') : MadeC w zs (.returned v) w' := by
  have h2 := hown.2
  rcases h2 with ⟨rfl, h0⟩ | ⟨g, cap, cur, rfl, _, _, hnc, hcm, _⟩
  · rw [h0] at hown
    exact ⟨none, 0, by rw [h0], IRow.of_own hown, hb.trans (hb1.mono hb.size), by omega, by omega⟩
  · exact ⟨some ⟨g, 0, none⟩, cap, rfl, IRow.of_own hown, hb.trans (hb1.mono hb.size), hnc, by unfold maxLen at hcm; omega⟩
/-- A number that an int may hold. -/
def In64 (n : Int) : Prop := -9223372036854775808 ≤ n ∧ n ≤ 9223372036854775807
def Fit (vs : List (Int × Int)) : Prop := ∀ x ∈ vs, In64 x.1 ∧ In64 x.2
end Go.Proofs.Ytceboejhdgjgoaa

