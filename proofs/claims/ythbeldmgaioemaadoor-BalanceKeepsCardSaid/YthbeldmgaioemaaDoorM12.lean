/- Contracts and plain mathematics, put together by program (wip/merge.py) out of: JComes JPush. -/
import Derived.Test.YthbeldmgaioemaaDoorJMayL
import Derived.Test.YthbeldmgaioemaaDoorM11
/- runs.comes, by its contract: what is wrong with one that comes. -/
namespace Go.Proofs.YthbeldmgaioemaaDoor
open Go.RowKit
set_option linter.unusedVariables false

open Classical in
noncomputable def cmV (r : Jp.Rn) (p n g : Int) : Int := if ¬ Jp.May r ∨ p < 0 ∨ n ≤ p ∨ g < 1 then 1 else if Tp.has (Jp.all r) g = true then 5 else 0
theorem cmV_arg {r : Jp.Rn} {p n g : Int} (h : ¬ Jp.May r ∨ p < 0 ∨ n ≤ p ∨ g < 1) : cmV r p n g = 1 := by unfold cmV; rw [if_pos h]
theorem cmV_there {r : Jp.Rn} {p n g : Int} (h : ¬ (¬ Jp.May r ∨ p < 0 ∨ n ≤ p ∨ g < 1)) (h1 : Tp.has (Jp.all r) g = true) : cmV r p n g = 5 := by unfold cmV; rw [if_neg h, if_pos h1]
theorem cmV_ok {r : Jp.Rn} {p n g : Int} (h : ¬ (¬ Jp.May r ∨ p < 0 ∨ n ≤ p ∨ g < 1)) (h1 : Tp.has (Jp.all r) g = false) : cmV r p n g = 0 := by unfold cmV; rw [if_neg h, if_neg (by rw [h1]; decide)]
end Go.Proofs.YthbeldmgaioemaaDoor


/- runs.Push, by its contract. -/
namespace Go.Proofs.YthbeldmgaioemaaDoor
open Go.RowKit
set_option linter.unusedVariables false

/-- What is told where it fails: the same Runs, apart. -/
theorem tell_no {F : Nat → Prop} {w V W : World} {B1 B2 B3 Z : Nat} {d : Ad} {r : Jp.Rn} {es ls : List El} {e : Int} {p : Jp.Rn × Int} (hp : p = (r, e)) (h : Told (V.heap.size + 2) B1 B2 B3 d r es ls W) (hV : w.heap.size ≤ V.heap.size) (hZ : Z < V.heap.size) (hZw : w.heap.size ≤ Z) (hb : Below w.heap.size w W) (u0 u1 u2 u3 u4 : Value) :
    TellJE F w p (.returned (.tuple #[jv d r, .int .i64 e])) (put5 W Z u0 u1 u2 u3 u4) := by
  have h1 := (h.rm (F := fun _ => False) (w0 := V) (by omega)).put (X := Z) (fun h => by have := nobody h; omega) u0 u1 u2 u3 u4
  exact TellJE.is hp (h1.mono (fun b hb => .inr (by have := nobody hb; omega))) (below_put hb hZw u0 u1 u2 u3 u4)
theorem tell_yes {F : Nat → Prop} {w V W : World} {Z : Nat} {d : Ad} {r : Jp.Rn} {e : Int} {p : Jp.Rn × Int} (hp : p = (r, e)) (h : RM (More (fun _ => False) V) W d r) (hV : w.heap.size ≤ V.heap.size) (hZ : Z < V.heap.size) (hZw : w.heap.size ≤ Z) (hb : Below w.heap.size w W) (u0 u1 u2 u3 u4 : Value) :
    TellJE F w p (.returned (.tuple #[jv d r, .int .i64 e])) (put5 W Z u0 u1 u2 u3 u4) := by
  have h1 := h.put (X := Z) (fun h => by have := nobody h; omega) u0 u1 u2 u3 u4
  exact TellJE.is hp (h1.mono (fun b hb => .inr (by have := nobody hb; omega))) (below_put hb hZw u0 u1 u2 u3 u4)
end Go.Proofs.YthbeldmgaioemaaDoor

