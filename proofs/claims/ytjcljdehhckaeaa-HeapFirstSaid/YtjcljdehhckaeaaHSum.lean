/- What timers come to together, in plain mathematics: sums that go round. -/
import Derived.Test.YtjcljdehhckaeaaHSort
namespace Go.Proofs.Ytjcljdehhckaeaa.Hp
set_option linter.unusedVariables false

def val (x : Tm) : Int := x.1 + 3 * x.2.1 + 7 * x.2.2
def tot (l : List Tm) : Int := (l.map val).sum
theorem tot_nil : tot [] = 0 := rfl
theorem tot_cons (x : Tm) (l : List Tm) : tot (x :: l) = val x + tot l := rfl
theorem tot_append (a b : List Tm) : tot (a ++ b) = tot a + tot b := by
  induction a with
  | nil => rw [List.nil_append, tot_nil]; omega
  | cons x a ih => rw [List.cons_append, tot_cons, tot_cons, ih]; omega
theorem tot_perm {a b : List Tm} (h : a.Perm b) : tot a = tot b := by
  induction h with
  | nil => rfl
  | cons x _ ih => rw [tot_cons, tot_cons, ih]
  | swap x y l => rw [tot_cons, tot_cons, tot_cons, tot_cons]; omega
  | trans _ _ h1 h2 => rw [h1, h2]
theorem tot_take {l : List Tm} {k : Nat} {x : Tm} (h : l[k]? = some x) : tot (l.take (k + 1)) = tot (l.take k) + val x := by
  rw [List.take_add_one, h, tot_append]
  show tot (l.take k) + tot [x] = _
  rw [tot_cons, tot_nil]
  omega
/-- They are alike, but for times that one has gone round. -/
def Round (a b : Int) : Prop := ∃ k : Int, a = b + 18446744073709551616 * k
theorem Round.refl (a : Int) : Round a a := ⟨0, by omega⟩
theorem Round.add {a b c d : Int} (h : Round a b) (k : Round c d) : Round (a + c) (b + d) := by
  obtain ⟨x, hx⟩ := h
  obtain ⟨y, hy⟩ := k
  exact ⟨x + y, by omega⟩
theorem Round.sub {a b c d : Int} (h : Round a b) (k : Round c d) : Round (a - c) (b - d) := by
  obtain ⟨x, hx⟩ := h
  obtain ⟨y, hy⟩ := k
  exact ⟨x - y, by omega⟩
theorem Round.trans {a b c : Int} (h : Round a b) (k : Round b c) : Round a c := by
  obtain ⟨x, hx⟩ := h
  obtain ⟨y, hy⟩ := k
  exact ⟨x + y, by omega⟩
theorem Round.zero {a : Int} (h : Round a 0) (h1 : -9223372036854775808 ≤ a) (h2 : a ≤ 9223372036854775807) : a = 0 := by
  obtain ⟨x, hx⟩ := h
  omega
end Go.Proofs.Ytjcljdehhckaeaa.Hp

