/- Appends of instructions that came in to a row of the call's own. -/
import Derived.Test.YtejhlenckdkonaaDoorCParse
namespace Go.Proofs.YtejhlenckdkonaaDoor
open Go.RowKit
set_option linter.unusedVariables false

theorem run_append_ins (w : World) (ty : TypeId) (base : Nat) (v : Value) (n : Nat) (xs : List (Int × Int)) (hown : w.ownsRow base 42 2 v n (vcells xs))
    (A : Option Addr) (m c : Nat) (vs : List (Int × Int)) (hr : VRow w w.heap.size A vs) (hm : vs.length = m) (hnil : A = none → c = 0) (hb : n + m ≤ 1000000) (hbase : base ≤ w.heap.size) :
    ∃ v' w', (Builtin.append_ #[24, 24] ty #[v, .slice A m c]).run Tryd.prog w = .ok v' w' ∧ w'.ownsRow base 42 2 v' (n + m) (vcells (xs ++ vs)) ∧ w.grownBy w' v.ownBlock := by
  obtain ⟨i0, hi, hz0, hz1, hz2⟩ := info_parts info_ins
  cases A with
  | none =>
    have hc := hnil rfl
    subst hc
    have hv : vs = [] := by
      cases vs with
      | nil => rfl
      | cons y ys => obtain ⟨b, off, e, _⟩ := hr 0 y rfl; cases e
    subst hv
    have hm0 : m = 0 := hm.symm
    subst hm0
    exact ⟨v, w, run_append_owned_none (P := Tryd.prog) w base 24 ty 42 i0 2 Tryd.underlying24 hi v n _ hown, by rw [List.append_nil, Nat.add_zero]; exact hown, World.grownBy.refl w _⟩
  | some ad =>
    have hcells : ∀ j u, (vcells vs)[j]? = some u → w.cell? (ad.add j) = some u := by
      cases vs with
      | nil => intro j u hj; simp [vcells] at hj
      | cons y ys =>
        obtain ⟨b, off, e, _⟩ := hr 0 y rfl
        injection e with e
        subst e
        exact hr.cells
    obtain ⟨v', w', h1, h2, h3, _⟩ := run_append_own (P := Tryd.prog) w base 24 ty 42 i0 _ 2 16 Tryd.underlying24 hi hz0 hz1 hz2 rfl (by decide) v n _ hown ad m c _ (by rw [vcells_length, hm]) hcells (vcells_one' vs) (by unfold maxLen; omega) (by omega) hbase
    exact ⟨v', w', h1, by rw [vcells_append]; exact h2, h3⟩
theorem wpList_append_ins_g {w : World} {ops : Array Oper} {rest : List Oper} {o : Oper} {a : Act} {Q : Exit → Act → World → Prop} (s x : Operand)
    (ho : o.op = .call { callee := .builtin .append, args := #[s, x], argTypes := #[24, 24] })
    (hw : Region.wanted o (yielded ops a.tmps) = true)
    (base : Nat) (v : Value) (n : Nat) (xs : List (Int × Int)) (hs : a.eval s = v) (hown : w.ownsRow base 42 2 v n (vcells xs))
    (A : Option Addr) (m c : Nat) (vs : List (Int × Int)) (hx : a.eval x = .slice A m c) (hr : VRow w w.heap.size A vs) (hm : vs.length = m) (hnil : A = none → c = 0) (hb : n + m ≤ 1000000) (hbase : base ≤ w.heap.size)
    (hK : ∀ v' w', w'.ownsRow base 42 2 v' (n + m) (vcells (xs ++ vs)) → w.grownBy w' v.ownBlock → wpList Tryd.prog ops Q rest (a.put o.dst v') w') : wpList Tryd.prog ops Q (o :: rest) a w := by
  obtain ⟨v', w', h1, h2, h3⟩ := run_append_ins w o.type base v n xs hown A m c vs hr hm hnil hb hbase
  refine wpList_step fun K hK' => ?_
  rw [if_pos hw]
  unfold Oper.wp
  simp [execOp, ho, resolve, invoke, builtin, hs, hx, h1, Result.andThen]
  exact hK' _ _ (hK v' w' h2 h3)
end Go.Proofs.YtejhlenckdkonaaDoor

