/- The document's example at the head of all statements: it is as shown. An arena of an empty room and of queues, as each law makes one. -/
import Derived.Test.YthljecllmdbbbaaQNew
namespace Go.Proofs.Ythljecllmdbbbaa
open Go.RowKit
set_option linter.unusedVariables false

theorem Turned.ar {b m : Nat} {q : List (List Int)} {w w' : World} {v : Value} {e : Ending} (h : Turned b m q w v e w') : Ar w' b m q := h.2.1
/-- What was there at the call is as it was, where the arena's block is new. -/
theorem below_turned {B b : Nat} {w0 w w' : World} (h : Below B w0 w) (hg : w.grownBy w' (some b)) (hB : B ≤ w.heap.size) (hb : B ≤ b) : Below B w0 w' := h.grown hg hB (fun k e => by injection e with e; omega)
theorem shown_any (w : World) : Calls Try.prog 9 #[] w fun e w' => e = .returned (.bool true) ∧ Below w.heap.size w w' := by
  go_enter Try.func9, Try.ntmps9
  go_wp2_with fail
  refine (new_yes 4 2 w (by omega) (by omega) (by omega) (by omega)).mono ?_
  rintro e w1 ⟨rfl, hA, hb⟩
  have A1 := Lib.hid hA
  have B1 := Lib.hid hb
  clear hA hb
  go_wp2_with fail
  refine (push_any _ 4 _ 1 3 w1 A1.out).mono ?_
  rintro e w2 ⟨rfl, hA, hg⟩
  rw [show Qp.push (List.replicate 2 []) ((4 : Nat) : Int) 1 3 = ([[], [3]], 0) from by decide] at hA ⊢
  have A2 := Lib.hid hA
  have B2 := Lib.hid (below_turned B1.out hg B1.out.size (Nat.le_refl _))
  clear hA hg
  go_wp2_with fail
  refine (push_any _ 4 _ 1 1 w2 A2.out).mono ?_
  rintro e w3 ⟨rfl, hA, hg⟩
  rw [show Qp.push [[], [3]] ((4 : Nat) : Int) 1 1 = ([[], [3, 1]], 0) from by decide] at hA ⊢
  have A3 := Lib.hid hA
  have B3 := Lib.hid (below_turned B2.out hg B2.out.size (Nat.le_refl _))
  clear hA hg
  go_wp2_with fail
  refine (pop_any _ 4 _ 1 w3 A3.out).mono ?_
  rintro e w4 ⟨rfl, hA, hg⟩
  rw [show Qp.pop [[], [3, 1]] 1 = [[], [1]] from by decide] at hA
  rw [show Qp.first [[], [3, 1]] 1 = 3 from by decide, show Qp.some? [[], [3, 1]] 1 = true from by decide]
  have A4 := Lib.hid hA
  have B4 := Lib.hid (below_turned B3.out hg B3.out.size (Nat.le_refl _))
  clear hA hg
  go_wp2_with fail
  refine (of_any _ 4 _ 1 w4 A4.out).mono ?_
  rintro e w5 ⟨rfl, rfl⟩
  rw [show Qp.of [[], [1]] 1 = 1 from by decide]
  go_wp2_with fail
  go_ret
  exact ⟨rfl, B4.out⟩
end Go.Proofs.Ythljecllmdbbbaa

