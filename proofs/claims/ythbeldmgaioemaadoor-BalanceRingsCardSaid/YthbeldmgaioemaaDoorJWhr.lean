/- runs.Where and what it calls (slices.IndexFunc at its closures), by their contracts. -/
import Derived.Test.YthbeldmgaioemaaDoorM6
import Derived.Test.YthbeldmgaioemaaDoorJRefMay
namespace Go.Proofs.YthbeldmgaioemaaDoor
open Go.RowKit
set_option linter.unusedVariables false

/-- The first place where it stands, or -1. -/
def spot {α : Type} (l : List α) (q : α → Bool) : Int := match l.findIdx? q with | some k => (k : Int) | none => -1
theorem spot_hit {α : Type} {l : List α} {q : α → Bool} {k : Nat} {x : α} (hx : l[k]? = some x) (h : q x = true) (h0 : ∀ j, j < k → ∀ y, l[j]? = some y → q y = false) : spot l q = k := by unfold spot; rw [Jp.findIdx?_hit hx h h0]
theorem spot_no {α : Type} {l : List α} {q : α → Bool} (h0 : ∀ y ∈ l, q y = false) : spot l q = -1 := by unfold spot; rw [Jp.findIdx?_no h0]
theorem whr_spot (r : Jp.Rn) (g : Int) : (0 ≤ spot r.rings (fun x => Tp.has (Rp.all x) g) → Jp.whr r g = (spot r.rings (fun x => Tp.has (Rp.all x) g), -1)) ∧ (spot r.rings (fun x => Tp.has (Rp.all x) g) < 0 → Jp.whr r g = (-1, spot r.rows (fun l => Tp.has l g))) := by
  unfold spot Jp.whr
  cases h : r.rings.findIdx? (fun x => Tp.has (Rp.all x) g) with
  | some k => exact ⟨fun _ => rfl, fun h => by simp at h; omega⟩
  | none =>
    refine ⟨fun h => by simp at h, fun _ => ?_⟩
    simp only
    cases h2 : r.rows.findIdx? (fun l => Tp.has l g) <;> rfl
end Go.Proofs.YthbeldmgaioemaaDoor

