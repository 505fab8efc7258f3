/- A list of lists that a call has made, and the table of layer 2. -/
import Derived.Test.YtkjcihdejileoaaBase
import Derived.Test.YtkjcihdejileoaaDPlain
namespace Go.Proofs.Ytkjcihdejileoaa
open Go.RowKit

/-- The rows of numbers behind a slice's address, each a slice of its own, all below block B. -/
def RRow (w : World) (B : Nat) (A : Option Addr) (rows : List (List Int)) : Prop :=
  ∀ i r, rows[i]? = some r → ∃ b off, A = some ⟨b, off, none⟩ ∧ b < B ∧ ∃ A' c', w.cell? ⟨b, off + i, none⟩ = some (.slice A' r.length c') ∧ IRow w B A' r
theorem RRow.keep {w w' : World} {B : Nat} {A : Option Addr} {rows : List (List Int)} (h : RRow w B A rows) (hk : ∀ p : Addr, p.block < B → w'.cell? p = w.cell? p) : RRow w' B A rows := by
  intro i r hi
  obtain ⟨b, off, e, hb, A', c', hc, hr⟩ := h i r hi
  exact ⟨b, off, e, hb, A', c', (hk _ hb).trans hc, hr.keep hk⟩
theorem RRow.more {w : World} {B B' : Nat} {A : Option Addr} {rows : List (List Int)} (h : RRow w B A rows) (hB : B ≤ B') : RRow w B' A rows := by
  intro i r hi
  obtain ⟨b, off, e, hb, A', c', hc, hr⟩ := h i r hi
  exact ⟨b, off, e, by omega, A', c', hc, hr.more hB⟩
theorem RRow.below {w w' : World} {B : Nat} {A : Option Addr} {rows : List (List Int)} (h : RRow w B A rows) (hb : Below B w w') : RRow w' B A rows := h.keep fun _ hp => hb.cell hp
def MadeRows (w0 : World) (rows : List (List Int)) (e : Ending) (w' : World) : Prop :=
  ∃ A c, e = .returned (.slice A rows.length c) ∧ RRow w' w'.heap.size A rows ∧ Below w0.heap.size w0 w'
/-- The table: of each processor, in turn, how far it is from each. -/
def table (vs : List (Int × Int)) : List (List Int) := (List.range (Dp.procsN vs)).map fun (a : Nat) => (List.range (Dp.procsN vs)).map fun (b : Nat) => Dp.far vs a b
end Go.Proofs.Ytkjcihdejileoaa

