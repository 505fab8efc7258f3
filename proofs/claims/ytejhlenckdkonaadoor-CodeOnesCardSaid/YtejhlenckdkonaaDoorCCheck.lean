/- Whether programs may be, in plain mathematics. -/
import Derived.Test.YtejhlenckdkonaaDoorCRead
namespace Go.Proofs.YtejhlenckdkonaaDoor.Cp

/-- May an instruction be? -/
def may (x : Int × Int) (sems boxes progs size : Int) : Bool :=
  if x.1 = 1 then decide (-1000 ≤ x.2) && decide (x.2 ≤ 1000)
  else if x.1 = 8 then decide (0 < x.2) && decide (x.2 ≤ 1000)
  else if x.2 < 0 then false
  else if x.1 = 2 then x.2 == 0
  else if x.1 = 10 then x.2 == 0
  else if x.1 = 3 then decide (x.2 < progs)
  else if x.1 = 4 then decide (x.2 < sems)
  else if x.1 = 5 then decide (x.2 < sems)
  else if x.1 = 6 then decide (x.2 < boxes)
  else if x.1 = 7 then decide (x.2 < boxes)
  else if x.1 = 9 then decide (x.2 < size)
  else false
/-- The first fault of a program, and the error. -/
def bad (p : List Ins) (sems boxes progs : Int) : Option (Int × Int) :=
  if p.length = 0 ∨ 32 < p.length then some (0, 3)
  else if p.findIdx (fun x => !may x sems boxes progs p.length) < p.length then some (p.findIdx (fun x => !may x sems boxes progs p.length), 1)
  else if (p.getD (p.length - 1) (0, 0)).1 ≠ 10 then some ((p.length : Int) - 1, 2)
  else none
def badF (ps : List (List Ins)) (sems boxes : Int) (k : Nat) : Option (Int × Int × Int) :=
  (List.range k).findSome? fun i : Nat => (bad (ps.getD i []) sems boxes ps.length).map fun y => ((i : Int), y.1, y.2)
def check (ps : List (List Ins)) (sems boxes : Int) : Int × Int × Int :=
  if sems < 0 ∨ 4 < sems ∨ boxes < 0 ∨ 4 < boxes then (0, 0, 1)
  else if ps.length = 0 ∨ 8 < ps.length then (0, 0, 3)
  else (badF ps sems boxes ps.length).getD (0, 0, 0)
theorem badF_succ (ps : List (List Ins)) (sems boxes : Int) (k : Nat) : badF ps sems boxes (k + 1) = (badF ps sems boxes k).or ((bad (ps.getD k []) sems boxes ps.length).map fun y => ((k : Int), y.1, y.2)) := by
  unfold badF
  rw [List.range_succ, List.findSome?_append]
  cases (List.range k).findSome? fun i : Nat => (bad (ps.getD i []) sems boxes ps.length).map fun y => ((i : Int), y.1, y.2) with
  | some x => rfl
  | none =>
    rw [Option.none_or, Option.none_or, List.findSome?_cons, List.findSome?_nil]
    cases (bad (ps.getD k []) sems boxes ps.length).map fun y => ((k : Int), y.1, y.2) <;> rfl
theorem badF_some {ps : List (List Ins)} {sems boxes : Int} {k : Nat} {r : Int × Int × Int} (h : badF ps sems boxes k = some r) {n : Nat} (hk : k ≤ n) : badF ps sems boxes n = some r := by
  induction n with
  | zero =>
    have e : k = 0 := by omega
    rw [e] at h; exact h
  | succ n ih =>
    by_cases e : k = n + 1
    · subst e; exact h
    · rw [badF_succ, ih (by omega), Option.some_or]
end Go.Proofs.YtejhlenckdkonaaDoor.Cp

